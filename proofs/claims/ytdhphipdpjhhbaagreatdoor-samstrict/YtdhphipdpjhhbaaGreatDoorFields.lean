/-
  The walks of the document's own Fields and Read.
-/
import Derived.Test.YtdhphipdpjhhbaaGreatDoorStd
import Derived.Test.YtdhphipdpjhhbaaGreatDoorSplit
import Derived.Deep.OwnRows
namespace Go.Proofs.YtdhphipdpjhhbaaGreatDoor
open Go.RowKit

theorem info9 : (Tryz.prog.info? 9).map (fun i => (i.zero, i.size, i.bytes)) = some (some (.string ⟨#[]⟩), 1, 16) := by kernel_rfl
def strVals (ls : List ByteArray) : List Value := ls.map fun s => .string s
theorem strVals_snoc (ls : List ByteArray) (s : ByteArray) : strVals (ls ++ [s]) = strVals ls ++ [.string s] := by simp [strVals]
/-- What lies between two places of a text. -/
def mid (s : ByteArray) (f i : Nat) : List UInt8 := (s.data.toList.take i).drop f
theorem mid_next (s : ByteArray) (f i : Nat) (hf : f ≤ i) (hi : i < s.size) : mid s f (i + 1) = mid s f i ++ [s[i]] := by
  unfold mid
  rw [take_snoc s i hi, List.drop_append_of_le_length (by simp; omega)]
theorem mid_none (s : ByteArray) (f i : Nat) (h : i ≤ f) : mid s f i = [] := by
  unfold mid
  exact List.drop_eq_nil_of_le (by simp; omega)
theorem cuts_cont (c : UInt8) (s : ByteArray) (f i : Nat) (hf : f ≤ i) (hi : i < s.size) (h : s[i] ≠ c) : cutsGo c (mid s f i) (s.data.toList.drop i) = cutsGo c (mid s f (i + 1)) (s.data.toList.drop (i + 1)) := by
  rw [drop_cons s i hi, mid_next s f i hf hi]
  show (if s[i] = c then _ else _) = _
  rw [if_neg h]
theorem cuts_push (c : UInt8) (s : ByteArray) (f i : Nat) (hi : i < s.size) (h : s[i] = c) : cutsGo c (mid s f i) (s.data.toList.drop i) = mid s f i :: cutsGo c (mid s (i + 1) (i + 1)) (s.data.toList.drop (i + 1)) := by
  rw [drop_cons s i hi, mid_none s (i + 1) (i + 1) (Nat.le_refl _)]
  show (if s[i] = c then _ else _) = _
  rw [if_pos h]
theorem cuts_last (c : UInt8) (s : ByteArray) (f i : Nat) (hi : s.size ≤ i) : cutsGo c (mid s f i) (s.data.toList.drop i) = [mid s f i] := by
  rw [List.drop_eq_nil_of_le (by simpa using hi)]; rfl
theorem extract_mid (s : ByteArray) (f i : Nat) : (s.extract f i).data.toList = mid s f i := by
  unfold mid
  simp [List.drop_take]
/-- What Fields leaves. -/
def FieldsPost (s : ByteArray) (w : World) (e : Ending) (w' : World) : Prop :=
  ∃ v ls, e = .returned v ∧ ls.map (·.data.toList) = cuts 9 s.data.toList ∧ w'.ownsRow w.heap.size 9 1 v ls.length (strVals ls) ∧ Below w.heap.size w w'
theorem byte9 {c : UInt8} : ((c.toNat : Int) == 9) = decide (c = 9) := by
  rw [Bool.eq_iff_iff]; simp
  exact ⟨fun h => UInt8.toNat_inj.1 (by rw [show (9 : UInt8).toNat = 9 from rfl]; omega), fun h => by rw [h]; rfl⟩

theorem cell_one_new (W : World) (x : ByteArray) : ∀ (i : Nat) (u : Value), [Value.string x][i]? = some u → (W.alloc (.cells #[.string x] 9)).cell? ((⟨W.heap.size, 0, none⟩ : Addr).add i) = some u := by
  intro i u hu
  match i, hu with
  | 0, hu => simp at hu; subst hu; simp [Addr.add]
theorem str_one (x : ByteArray) : ∀ u ∈ [Value.string x], u.oneCell' = true := by
  intro u hu; simp at hu; subst hu; rfl
theorem slice_run (s : ByteArray) (f i : Nat) (h1 : f ≤ i) (h2 : i ≤ s.size) (W : World) : (Instr.slice 9 (.string s) (some (.int .i64 (f : Int))) (some (.int .i64 (i : Int))) none).run Tryz.prog W = .ok (.string (s.extract f i)) W := by
  have := run_slice_string (P := Tryz.prog) W 9 s .i64 .i64 (f : Int) (i : Int) Tryz.underlying9 (by omega) (by omega) (by omega)
  simpa using this
/-- Where Fields stands. -/
structure FldInv (w : World) (s : ByteArray) (v : Value) (ls : List ByteArray) (f i : Nat) (wr : World) : Prop where
  own : wr.ownsRow w.heap.size 9 1 v ls.length (strVals ls)
  few : ls.length ≤ i
  fore : i ≤ s.size → cuts 9 s.data.toList = ls.map (·.data.toList) ++ cutsGo 9 (mid s f i) (s.data.toList.drop i)
  done : s.size < i → cuts 9 s.data.toList = ls.map (·.data.toList)
  below : Below w.heap.size w wr
theorem FldInv.push {w wr w1 : World} {s : ByteArray} {v v' : Value} {ls : List ByteArray} {f i : Nat} {o : Obj} (h : FldInv w s v ls f i wr) (hi : i = s.size ∨ ∃ hl : i < s.size, s[i] = 9)
    (ho : w1.ownsRow w.heap.size 9 1 v' (ls.length + 1) (strVals ls ++ [.string (s.extract f i)])) (hg : (wr.alloc o).grownBy w1 v.ownBlock) : FldInv w s v' (ls ++ [s.extract f i]) (i + 1) (i + 1) w1 := by
  have hx := extract_mid s f i
  refine ⟨?_, ?_, ?_, ?_, ?_⟩
  · rw [strVals_snoc, List.length_append]; exact ho
  · have := h.few; simp; omega
  · intro hle
    rcases hi with hi | ⟨hl, hb⟩
    · omega
    · rw [h.fore (by omega), cuts_push 9 s f i hl hb, List.map_append, List.append_assoc, List.map_cons, List.map_nil, hx]
      rfl
  · intro hle
    rcases hi with hi | ⟨hl, hb⟩
    · rw [h.fore (by omega), cuts_last 9 s f i (by omega), List.map_append, List.map_cons, List.map_nil, hx]
    · omega
  · exact (h.below.alloc h.below.size o).grown hg (by have := h.below.size; simp; omega) (fun k hk => (h.own.lt k hk).1)

set_option maxRecDepth 20000 in
set_option maxHeartbeats 2000000 in
theorem refFields_calls (s : ByteArray) (w : World) (hs : s.size ≤ 1048576) : Calls Tryz.prog 34 #[.string s] w fun e w' => FieldsPost s w e w' := by
  obtain ⟨i0, hi, hz0, hz1, hz2⟩ := info_parts info9
  have HA : Hid (FldInv w s (.slice none 0 0) [] 0 0 w) := by
    refine ⟨World.ownsRow_nil _ _ _ _, by simp, fun _ => ?_, fun h => absurd h (by omega), Below.refl _ _⟩
    rw [mid_none s 0 0 (Nat.le_refl _)]; rfl
  go_enter Tryz.func34, Tryz.ntmps34
  go_wp2
  go_loopw [3, 4, 5] (fun v fv iv wr => ∃ (ls : List ByteArray) (f i : Nat), f ≤ i ∧ i ≤ s.size + 1 ∧ fv = .int .i64 f ∧ iv = .int .i64 i ∧ FldInv w s v ls f i wr) (fun _ _ iv _ => s.size + 1 - (intOf iv).toNat)
  case atStart => exact ⟨[], 0, 0, Nat.le_refl _, by omega, rfl, rfl, HA.out⟩
  case round =>
    obtain ⟨ls, f, i, hfi, hi1, rfl, rfl, hinv⟩ := hrel
    obtain ⟨ao, cap, rfl⟩ := owned_shape hinv.own
    have hsw : w.heap.size ≤ wr.heap.size := hinv.below.size
    have hfw := hinv.few
    have HI : Hid (FldInv w s (.slice ao ls.length cap) ls f i wr) := hinv
    have HLN : Hid (ls.length = ls.length) := rfl
    have HO : Hid (wr.ownsRow w.heap.size 9 1 (.slice ao ls.length cap) ls.length (strVals ls)) := hinv.own
    clear hinv HA
    by_cases hle : i ≤ s.size
    · have hdi : decide ((i : Int) ≤ (s.size : Int)) = true := by simp; omega
      by_cases he : i = s.size
      · have hd1 : ((i : Int) == (s.size : Int)) = true := by rw [he]; simp
        have HP : Hid (i = s.size ∨ ∃ hl : i < s.size, s[i] = 9) := .inl he
        have hsl := slice_run s f i hfi hle
        clear he
        go_wp2_with (at_builtin; go_loud (refine wpList_append_own _ rfl _ _ 46 rfl w.heap.size 9 i0 (.string ⟨#[]⟩) 1 16 Tryz.underlying46 hi hz0 hz1 hz2 rfl (by decide) _ _ _ rfl (HO.out.alloc _) ⟨_, 0, none⟩ 1 1 [.string (s.extract f i)] rfl rfl (cell_one_new _ _) (str_one _) ?c3 ?c4 ?c5 ?_))
        case c3 => unfold maxLen; omega
        case c4 => omega
        case c5 => first | omega | (simp; omega)
        intro v' w2 hown' hgrow _
        have HR : Hid (FldInv w s v' (ls ++ [s.extract f i]) (i + 1) (i + 1) w2) := HI.out.push HP.out hown' hgrow
        clear hown' hgrow HI HO HP
        go_wp2
        go_roundw
        case rel => exact ⟨ls ++ [s.extract f i], i + 1, i + 1, Nat.le_refl _, by omega, by go_num, by go_num, HR.out⟩
        case measure => simp [intOf] <;> omega
      · have hlt : i < s.size := by omega
        have hd1 : ((i : Int) == (s.size : Int)) = false := by rw [beq_eq_false_iff_ne]; omega
        by_cases hc : s[i] = 9
        · have hd2 : ((s[i].toNat : Int) == 9) = true := by rw [byte9]; simp [hc]
          have HP : Hid (i = s.size ∨ ∃ hl : i < s.size, s[i] = 9) := .inr ⟨hlt, hc⟩
          have hsl := slice_run s f i hfi hle
          clear he hc
          go_wp2_with (at_builtin; go_loud (refine wpList_append_own _ rfl _ _ 46 rfl w.heap.size 9 i0 (.string ⟨#[]⟩) 1 16 Tryz.underlying46 hi hz0 hz1 hz2 rfl (by decide) _ _ _ rfl (HO.out.alloc _) ⟨_, 0, none⟩ 1 1 [.string (s.extract f i)] rfl rfl (cell_one_new _ _) (str_one _) ?c3 ?c4 ?c5 ?_))
          case c3 => unfold maxLen; omega
          case c4 => omega
          case c5 => first | omega | (simp; omega)
          intro v' w2 hown' hgrow _
          have HR : Hid (FldInv w s v' (ls ++ [s.extract f i]) (i + 1) (i + 1) w2) := HI.out.push HP.out hown' hgrow
          clear hown' hgrow HI HO HP
          go_wp2
          go_roundw
          case rel => exact ⟨ls ++ [s.extract f i], i + 1, i + 1, Nat.le_refl _, by omega, by go_num, by go_num, HR.out⟩
          case measure => simp [intOf] <;> omega
        · have hd2 : ((s[i].toNat : Int) == 9) = false := by rw [byte9]; simp [hc]
          have HR : Hid (FldInv w s (.slice ao ls.length cap) ls f (i + 1) wr) := by
            have h := HI.out
            refine ⟨h.own, by have := h.few; omega, fun _ => ?_, fun h2 => absurd h2 (by omega), h.below⟩
            rw [h.fore hle, cuts_cont 9 s f i hfi hlt hc]
          clear he hc HI HO
          go_wp2
          go_roundw
          case rel => exact ⟨ls, f, i + 1, by omega, by omega, rfl, by go_num, HR.out⟩
          case measure => simp [intOf] <;> omega
    · have hdi : decide ((i : Int) ≤ (s.size : Int)) = false := by simp; omega
      have HE : Hid (FieldsPost s w (.returned (.slice ao ls.length cap)) wr) := ⟨_, ls, rfl, (HI.out.done (by omega)).symm, HI.out.own, HI.out.below⟩
      go_wp2
      go_ret
      exact HE.out

/-! Read -/
theorem readNum_at (neg : Bool) (n : Int) (s : ByteArray) (k : Nat) (h : k < s.size) : readNumGo neg n (s.data.toList.drop k) = if isDig s[k] then readNumGo neg (IntKind.i64.wrap (if neg then IntKind.i64.wrap (10 * n) - ((s[k].toNat : Int) - 48) else IntKind.i64.wrap (10 * n) + ((s[k].toNat : Int) - 48))) (s.data.toList.drop (k + 1)) else readNumGo neg n (s.data.toList.drop (k + 1)) := by
  rw [drop_cons s k h, readNumGo]

theorem wrap_is (z : Int) : IntKind.i64.wrap z = wrap64 z := by rw [IntKind.wrap_i64]; unfold wrap64; rfl
theorem wrap64_fit (z : Int) : fitI (wrap64 z) := by
  unfold fitI wrap64
  omega
set_option maxRecDepth 20000 in
set_option maxHeartbeats 2000000 in
theorem refRead_calls (s : ByteArray) (w : World) (hs : s.size ≤ 1048576) :
    Calls Tryz.prog 36 #[.string s] w fun e w' => e = .returned (.int .i64 (readNum s.data.toList)) ∧ w' = w := by
  by_cases h0 : s.size = 0
  · have HE : Hid (readNum s.data.toList = 0) := by
      show readNum _ = 0
      rw [size_zero.2 h0]; rfl
    go_enter Tryz.func36, Tryz.ntmps36
    go_wp2
    go_loop [3, 4] (fun nv iv => nv = .int .i64 0 ∧ iv = .int .i64 0) (fun _ _ => 0)
    case atStart => exact ⟨rfl, rfl⟩
    case round =>
      obtain ⟨rfl, rfl⟩ := hrel
      have hd : decide ((0 : Int) < (s.size : Int)) = false := decide_eq_false (by omega)
      go_wp2
      go_ret
      exact ⟨ret_int HE.out.symm, rfl⟩
  · have hp : 0 < s.size := by omega
    obtain ⟨neg, hneg⟩ : ∃ neg, decide (s.data.toList.head? = some 45) = neg := ⟨_, rfl⟩
    have hb0 : ((s[0].toNat : Int) == 45) = neg := by
      rw [← hneg, head?_at s hp, Bool.eq_iff_iff]
      simp
      exact ⟨fun h => UInt8.toNat_inj.1 (by rw [show (45 : UInt8).toNat = 45 from rfl]; omega), fun h => by rw [h]; rfl⟩
    have HA : Hid (readNum s.data.toList = readNumGo neg 0 (s.data.toList.drop 0)) := by
      show readNum _ = _
      rw [readNum, hneg]; rfl
    clear hneg
    go_enter Tryz.func36, Tryz.ntmps36
    go_wp2
    go_loop [3, 4] (fun nv iv => ∃ (n : Int) (k : Nat), k ≤ s.size ∧ fitI n ∧ nv = .int .i64 n ∧ iv = .int .i64 k ∧ Hid (readNum s.data.toList = readNumGo neg n (s.data.toList.drop k))) (fun _ iv => s.size - (intOf iv).toNat)
    case atStart => exact ⟨0, 0, Nat.zero_le _, by unfold fitI; decide, rfl, rfl, HA.out⟩
    case round =>
      obtain ⟨n, k, hk, hfit, rfl, rfl, HT⟩ := hrel
      obtain ⟨hf1, hf2⟩ := hfit
      by_cases hlt : k < s.size
      · have hdk : decide ((k : Int) < (s.size : Int)) = true := by simp; omega
        have hu := UInt8.toNat_lt s[k]
        have HS := readNum_at neg n s k hlt
        cases hd : isDig s[k] with
        | false =>
          have HN : Hid (readNum s.data.toList = readNumGo neg n (s.data.toList.drop (k + 1))) := by
            show _ = _
            rw [HT.out, HS, hd]; rfl
          have hx : decide ((48 : Int) ≤ (s[k].toNat : Int)) = false ∨ (decide ((48 : Int) ≤ (s[k].toNat : Int)) = true ∧ decide ((s[k].toNat : Int) ≤ 57) = false) := by
            have := (isDig_not s[k]).1 hd
            simp only [decide_eq_false_iff_not, decide_eq_true_eq]; omega
          clear HS HT hd HA
          rcases hx with hx | ⟨hx, hy⟩ <;> (
            go_wp2
            go_round
            case rel => exact ⟨n, k + 1, by omega, ⟨hf1, hf2⟩, rfl, by go_num, HN.out⟩
            case measure => simp [intOf]; omega)
        | true =>
          have hdg := (isDig_iff s[k]).1 hd
          have hx : decide ((48 : Int) ≤ (s[k].toNat : Int)) = true := by simp; omega
          have hy : decide ((s[k].toNat : Int) ≤ 57) = true := by simp; omega
          have HN : Hid (readNum s.data.toList = readNumGo neg (IntKind.i64.wrap (if neg then IntKind.i64.wrap (10 * n) - ((s[k].toNat : Int) - 48) else IntKind.i64.wrap (10 * n) + ((s[k].toNat : Int) - 48))) (s.data.toList.drop (k + 1))) := by
            show _ = _
            rw [HT.out, HS, hd]; rfl
          clear HS HT hd HA
          simp only [wrap_is] at HN
          cases neg with
          | true =>
            have HN2 : Hid (readNum s.data.toList = readNumGo true (wrap64 (wrap64 (10 * n) - ((s[k].toNat : Int) - 48))) (s.data.toList.drop (k + 1))) := HN.out
            go_wp2
            go_round
            case rel => exact ⟨_, k + 1, by omega, wrap64_fit _, rfl, by go_num, HN2.out⟩
            case measure => simp [intOf]; omega
          | false =>
            have HN2 : Hid (readNum s.data.toList = readNumGo false (wrap64 (wrap64 (10 * n) + ((s[k].toNat : Int) - 48))) (s.data.toList.drop (k + 1))) := HN.out
            go_wp2
            go_round
            case rel => exact ⟨_, k + 1, by omega, wrap64_fit _, rfl, by go_num, HN2.out⟩
            case measure => simp [intOf]; omega
      · have hdk : decide ((k : Int) < (s.size : Int)) = false := by simp; omega
        have HE : Hid (readNum s.data.toList = n) := by
          show _ = _
          rw [HT.out, List.drop_eq_nil_of_le (by rw [size_toList]; omega)]; rfl
        go_wp2
        go_ret
        exact ⟨ret_int HE.out.symm, rfl⟩
end Go.Proofs.YtdhphipdpjhhbaaGreatDoor
