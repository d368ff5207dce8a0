/-
  The walks of the document's own text, IsText, sign.
-/
import Derived.Test.YtnnmhmlebffacaaRefC
namespace Go.Proofs.Ytnnmhmlebffacaa
open Go.RowKit

/-! text -/
theorem inner_step {S : List UInt8} {k n : Nat} {c : UInt8} (h : S[k]? = some c) (hc : c ≠ 34) (hr : k + (innerB (S.drop k)).length = n) : k + 1 + (innerB (S.drop (k + 1))).length = n := by
  rw [drop_at h] at hr
  simp [innerB, hc] at hr ⊢
  omega
theorem inner_stop {S : List UInt8} {k : Nat} (h : S[k]? = some 34) : (innerB (S.drop k)).length = 0 := by
  rw [drop_at h]; simp [innerB]
theorem inner_take (r : List UInt8) : r.take (innerB r).length = innerB r := by
  induction r with
  | nil => rfl
  | cons c r ih =>
    unfold innerB at ih ⊢
    rw [List.takeWhile_cons]
    split
    · simp [ih]
    · rfl
theorem inner_extract (s : ByteArray) (p k : Nat) (hk : k = p + (innerB (s.data.toList.drop p)).length) : s.extract p k = bs (innerB (s.data.toList.drop p)) := by
  refine byte_ext ?_
  rw [extract_list, bs_list, hk, List.drop_take]
  rw [show p + (innerB (s.data.toList.drop p)).length - p = (innerB (s.data.toList.drop p)).length by omega, inner_take]
def textO (r : List UInt8) : List UInt8 × Bool := if 34 ∈ r then (innerB r, true) else ([], false)
theorem refText_calls' (s : ByteArray) (p q : Nat) (w : World) (hs : s.size ≤ 4000) (hp : p < s.size) (hpq : (p : Int) + 1 = (q : Int)) :
    Calls Try.prog 72 #[.string s, .int .i64 (p : Int)] w fun e w' => e = .returned (.tuple #[.string (bs (textO (s.data.toList.drop q)).1), .bool (textO (s.data.toList.drop q)).2]) ∧ w' = w := by
  go_enter Try.func72, Try.ntmps72
  go_wp2
  go_loop [6] (fun i => ∃ k : Nat, q ≤ k ∧ k ≤ s.size ∧ i = .int .i64 k ∧ k + (innerB (s.data.toList.drop k)).length = q + (innerB (s.data.toList.drop q)).length ∧ (34 ∈ s.data.toList.drop q ↔ 34 ∈ s.data.toList.drop k)) (fun i => s.size - (intOf i).toNat)
  case atStart => exact ⟨q, Nat.le_refl _, by omega, rfl, rfl, Iff.rfl⟩
  case round =>
    obtain ⟨k, hpk, hk, rfl, hr, hm⟩ := hrel
    have HR : Hid (k + (innerB (s.data.toList.drop k)).length = q + (innerB (s.data.toList.drop q)).length) := hr
    have HM : Hid (34 ∈ s.data.toList.drop q ↔ 34 ∈ s.data.toList.drop k) := hm
    clear hr hm
    by_cases hlt : k < s.size
    · have hdk : decide ((k : Int) < (s.size : Int)) = true := by simp; omega
      have HG : Hid (s.data.toList[k]? = some s[k]) := getElem?_at s k hlt
      by_cases hc : s[k] = 34
      · have hb : ((s[k].toNat : Int) == 34) = true := by rw [hc]; rfl
        have HX : Hid (s.extract q k = bs (innerB (s.data.toList.drop q))) := inner_extract s q k (by
          have h := HR.out
          rw [inner_stop (by rw [HG.out, hc])] at h
          omega)
        have HE : Hid (textO (s.data.toList.drop q) = (innerB (s.data.toList.drop q), true)) := by
          show _ = _
          unfold textO
          rw [if_pos (HM.out.2 (by rw [drop_at HG.out, hc]; simp))]
        clear hc HG HR HM
        go_wp2
        go_ret2
        rw [HE.out, HX.out]
        exact ⟨rfl, rfl⟩
      · have hb : ((s[k].toNat : Int) == 34) = false := by
          rw [beq_eq_false_iff_ne]; intro e
          exact hc ((eqN _ 34 (by decide)).2 (by omega))
        have HS : Hid (k + 1 + (innerB (s.data.toList.drop (k + 1))).length = q + (innerB (s.data.toList.drop q)).length) := inner_step HG.out hc HR.out
        have HM2 : Hid (34 ∈ s.data.toList.drop q ↔ 34 ∈ s.data.toList.drop (k + 1)) := by
          show _ ↔ _
          rw [HM.out, drop_at HG.out, List.mem_cons]
          exact ⟨fun h => h.resolve_left fun e => hc e.symm, fun h => .inr h⟩
        clear hc HG HR HM
        go_wp2
        go_round
        case rel => exact ⟨k + 1, by omega, by omega, by go_num, HS.out, HM2.out⟩
        case measure => simp [intOf]; omega
    · have hdk : decide ((k : Int) < (s.size : Int)) = false := by simp; omega
      have HE : Hid (textO (s.data.toList.drop q) = ([], false)) := by
        show _ = _
        unfold textO
        rw [if_neg]
        rw [HM.out, List.drop_eq_nil_of_le (by rw [size_toList]; omega)]
        simp
      clear HR HM
      go_wp2
      go_ret2
      rw [HE.out]
      exact ⟨rfl, rfl⟩

theorem refText_calls (s : ByteArray) (p : Nat) (w : World) (hs : s.size ≤ 4000) (hp : p < s.size) :
    Calls Try.prog 72 #[.string s, .int .i64 (p : Int)] w fun e w' => e = .returned (.tuple #[.string (bs (textO (s.data.toList.drop (p + 1))).1), .bool (textO (s.data.toList.drop (p + 1))).2]) ∧ w' = w :=
  refText_calls' s p (p + 1) w hs hp (by omega)

/-! IsText -/
def inText' (c : UInt8) : Bool := inText c && c != 34
def isTxtB (l : List UInt8) : Bool := l.all inText' && decide (l.length ≤ 40)
theorem isText_calls (s : ByteArray) (w : World) (hs : s.size ≤ 4000) :
    Calls Try.prog 73 #[.string s] w fun e w' => e = .returned (.bool (isTxtB s.data.toList)) ∧ w' = w := by
  go_enter Try.func73, Try.ntmps73
  go_wp2
  go_loop [3] (fun i => ∃ k : Nat, k ≤ s.size ∧ i = .int .i64 k ∧ (s.data.toList.take k).all inText' = true) (fun i => s.size - (intOf i).toNat)
  case atStart => exact ⟨0, Nat.zero_le _, rfl, by simp⟩
  case round =>
    obtain ⟨k, hk, rfl, hr⟩ := hrel
    have HR : Hid ((s.data.toList.take k).all inText' = true) := hr
    clear hr
    by_cases hlt : k < s.size
    · have hdk : decide ((k : Int) < (s.size : Int)) = true := by simp; omega
      have HG : Hid (s.data.toList[k]? = some s[k]) := getElem?_at s k hlt
      have hin : inText' s[k] = (!(decide ((s[k].toNat : Int) < 32)) && (!(decide ((126 : Int) < (s[k].toNat : Int))) && !((s[k].toNat : Int) == 34))) := by
        unfold inText' inText
        rw [bne, show (34 : UInt8) = UInt8.ofNat 34 from rfl, beq_byte s[k] 34 (by decide), Bool.eq_iff_iff]
        simp only [Bool.and_eq_true, Bool.not_eq_true', decide_eq_true_eq, decide_eq_false_iff_not, beq_eq_false_iff_ne]
        omega
      cases hc : inText' s[k] with
      | true =>
        have HS : Hid ((s.data.toList.take (k + 1)).all inText' = true) := all_step HG.out HR.out hc
        rw [hc] at hin
        have hin2 := hin.symm
        simp only [Bool.and_eq_true, Bool.not_eq_true'] at hin2
        obtain ⟨h1, h2, h3⟩ := hin2
        clear hin hc HG HR
        go_wp2
        go_round
        case rel => exact ⟨k + 1, by omega, by go_num, HS.out⟩
        case measure => simp [intOf]; omega
      | false =>
        have HE : Hid (isTxtB s.data.toList = false) := by
          show _ = _
          unfold isTxtB; rw [all_no HG.out hc]; rfl
        rw [hc] at hin
        have hq : decide ((s[k].toNat : Int) < 32) = true ∨ (decide ((s[k].toNat : Int) < 32) = false ∧ decide ((126 : Int) < (s[k].toNat : Int)) = true) ∨ (decide ((s[k].toNat : Int) < 32) = false ∧ decide ((126 : Int) < (s[k].toNat : Int)) = false ∧ ((s[k].toNat : Int) == 34) = true) := by
          revert hin
          cases decide ((s[k].toNat : Int) < 32) <;> cases decide ((126 : Int) < (s[k].toNat : Int)) <;> cases ((s[k].toNat : Int) == 34) <;> decide
        clear hin hc HG HR
        rcases hq with h1 | ⟨h1, h2⟩ | ⟨h1, h2, h3⟩ <;> (
          go_wp2
          go_ret
          rw [HE.out]
          exact ⟨rfl, rfl⟩)
    · have hdk : decide ((k : Int) < (s.size : Int)) = false := by simp; omega
      have HE : Hid (isTxtB s.data.toList = decide (s.size ≤ 40)) := by
        have h := HR.out
        rw [List.take_of_length_le (by rw [size_toList]; omega)] at h
        show _ = _
        unfold isTxtB; rw [h, size_toList]; rfl
      clear HR
      go_wp2
      go_ret
      rw [HE.out]
      exact ⟨ret_bool (by first | rfl | (rw [decide_eq_decide]; omega)), rfl⟩

/-! sign -/
def signsL : ByteArray := ⟨#[59, 44, 61, 43, 45, 42, 40, 41]⟩
def signB : List UInt8 → List UInt8
  | [] => []
  | c :: r => if c = 46 ∧ r.head? = some 46 then [46, 46] else if isMark c then [c] else []
theorem mark_mem (c : UInt8) : isMark c = true ↔ c ∈ signsL.data.toList := by
  simp only [isMark, Bool.or_eq_true, beq_iff_eq, signsL, List.mem_cons, List.not_mem_nil, or_false]
  constructor
  · rintro (((((((h | h) | h) | h) | h) | h) | h) | h) <;> simp [h]
  · rintro (h | h | h | h | h | h | h | h) <;> simp [h]
theorem two_points (s : ByteArray) (p : Nat) (h : p + 1 < s.size) : ((s.extract p (p + 2)).toList == [46, 46]) = true ↔ (s[p] = 46 ∧ (s.data.toList.drop (p + 1)).head? = some 46) := by
  have hp : p < s.size := by omega
  have e : (s.extract p (p + 2)).toList = [s[p], s[p + 1]] := by
    rw [ByteArray.toList_eq, extract_list, List.drop_take, show p + 2 - p = 2 by omega, drop_at (getElem?_at s p hp), drop_at (getElem?_at s (p + 1) h)]
    rfl
  rw [e, beq_iff_eq, drop_at (getElem?_at s (p + 1) h)]
  simp
theorem one_extract (L : ByteArray) (k q : Nat) (h : k < L.size) (hq : q = k + 1) : L.extract k q = bs [L[k]] := by
  refine byte_ext ?_
  subst hq
  rw [extract_list, bs_list, List.drop_take, show k + 1 - k = 1 by omega, drop_at (getElem?_at L k h)]
  rfl
theorem refSign_calls' (s : ByteArray) (p q1 q2 : Nat) (w : World) (hs : s.size ≤ 4000) (hp : p < s.size) (h1 : (p : Int) + 1 = (q1 : Int)) (h2 : (p : Int) + 2 = (q2 : Int)) :
    Calls Try.prog 74 #[.string s, .int .i64 (p : Int)] w fun e w' => ∃ n, e = .returned (.string (bs (signB (s.data.toList.drop p)))) ∧ w' = w.drewN n := by
  have HD : Hid (s.data.toList.drop p = s[p] :: s.data.toList.drop (p + 1)) := drop_at (getElem?_at s p hp)
  have hu8 := UInt8.toNat_lt s[p]
  have HQ : Hid (q1 < s.size → (((s.extract p q2).toList == [46, 46]) = true ↔ (s[p] = 46 ∧ (s.data.toList.drop (p + 1)).head? = some 46))) := fun h => by
    have := two_points s p (by omega)
    rw [show q2 = p + 2 by omega]; exact this
  by_cases hpp : s[p] = 46 ∧ (s.data.toList.drop (p + 1)).head? = some 46
  · have hlt : q1 < s.size := by
      rcases Nat.lt_or_ge q1 s.size with h | h
      · exact h
      · have h3 := hpp.2
        rw [List.drop_eq_nil_of_le (by rw [size_toList]; omega)] at h3
        cases h3
    have hd : decide ((q1 : Int) < (s.size : Int)) = true := by simp; omega
    have heq : ((s.extract p q2).toList == [46, 46]) = true := (HQ.out hlt).2 hpp
    have HE : Hid (signB (s.data.toList.drop p) = [46, 46]) := by
      show _ = _
      rw [HD.out, signB, if_pos hpp]
    have hb1 : p ≤ q2 := by omega
    have hb2 : q2 ≤ s.size := by omega
    clear HD HQ hpp
    go_enter Try.func74, Try.ntmps74
    go_wp2
    go_ret
    exact ⟨0, by rw [HE.out]; rfl, rfl⟩
  have hor : (¬ q1 < s.size ∧ decide ((q1 : Int) < (s.size : Int)) = false) ∨ (q2 ≤ s.size ∧ decide ((q1 : Int) < (s.size : Int)) = true ∧ ((s.extract p q2).toList == [46, 46]) = false) := by
    by_cases hlt : q1 < s.size
    · refine .inr ⟨by omega, by simp; omega, ?_⟩
      cases hx : ((s.extract p q2).toList == [46, 46]) with
      | false => rfl
      | true => exact absurd ((HQ.out hlt).1 hx) hpp
    · exact .inl ⟨hlt, by simp; omega⟩
  have HE : Hid (signB (s.data.toList.drop p) = if isMark s[p] then [s[p]] else []) := by
    show _ = _
    rw [HD.out, signB, if_neg hpp]
  have hb1 : p ≤ q2 := by omega
  clear hpp HQ HD
  rcases hor with ⟨hd0, hd⟩ | ⟨hd0, hd1, hd2⟩ <;> (
    go_enter Try.func74, Try.ntmps74
    go_wp2
    generalize hL : ({ data := #[59, 44, 61, 43, 45, 42, 40, 41] } : ByteArray) = L at *
    have HL : Hid (L = signsL) := hL.symm
    have HL8 : Hid (L.size = 8) := by rw [← hL]; rfl
    clear hL
    go_loopw [6] (fun i wr => ∃ (k n : Nat), k ≤ L.size ∧ i = .int .i64 k ∧ Hid (s[p] ∉ signsL.data.toList.take k) ∧ wr = w.drewN n) (fun i _ => L.size - (intOf i).toNat)
    case atStart => exact ⟨0, 0, Nat.zero_le _, rfl, by simp [Hid], rfl⟩
    case round =>
      obtain ⟨k, n, hk, rfl, HN, rfl⟩ := hrel
      by_cases hkL : k < L.size
      · have hdk : decide ((k : Int) < (L.size : Int)) = true := by simp; omega
        have hk8 : L.size < 100 := by rw [HL8.out]; decide
        have HG : Hid (signsL.data.toList[k]? = some L[k]) := by
          show _ = _
          rw [← HL.out]; exact getElem?_at L k hkL
        obtain ⟨q, hq⟩ : ∃ q : Nat, q = k + 1 := ⟨_, rfl⟩
        have hkq : (k : Int) + 1 = (q : Int) := by omega
        have hq1 : k ≤ q := by omega
        have hq2 : q ≤ L.size := by omega
        by_cases he : s[p] = L[k]
        · have hb : ((L[k].toNat : Int) == (s[p].toNat : Int)) = true := by rw [he]; simp
          have HX : Hid (L.extract k q = bs (signB (s.data.toList.drop p))) := by
            show _ = _
            rw [one_extract L k q hkL hq, HE.out, if_pos (by rw [mark_mem, he]; exact List.mem_of_getElem? HG.out), he]
          clear he HG HN HL HE hq
          go_wp2
          go_quiet (fail)
          go_wp2
          go_ret
          rw [HX.out]
          exact ⟨_, rfl, rfl⟩
        · have hb : ((L[k].toNat : Int) == (s[p].toNat : Int)) = false := by
            rw [beq_eq_false_iff_ne]; intro e
            exact he (UInt8.toNat_inj.1 (by omega))
          have HN2 : Hid (s[p] ∉ signsL.data.toList.take q) := by
            obtain ⟨hl, hg⟩ := List.getElem?_eq_some_iff.1 HG.out
            show ¬ _
            rw [hq, List.take_succ_eq_append_getElem hl, hg]
            simp only [List.mem_append, List.mem_singleton, not_or]
            exact ⟨HN.out, he⟩
          clear he HG HN hq
          go_wp2
          go_quiet (fail)
          go_wp2
          go_roundw
          case rel => exact ⟨q, _, by omega, rfl, HN2.out, rfl⟩
          case measure => simp [intOf]; omega
      · have hdk : decide ((k : Int) < (L.size : Int)) = false := by simp; omega
        have HX : Hid (signB (s.data.toList.drop p) = []) := by
          have h := HN.out
          rw [List.take_of_length_le (by have := HL8.out; show 8 ≤ k; omega), ← mark_mem] at h
          show _ = _
          rw [HE.out, if_neg h]
        clear HN HL HE
        go_wp2
        go_ret
        exact ⟨n, by rw [HX.out]; rfl, rfl⟩)
theorem refSign_calls (s : ByteArray) (p : Nat) (w : World) (hs : s.size ≤ 4000) (hp : p < s.size) :
    Calls Try.prog 74 #[.string s, .int .i64 (p : Int)] w fun e w' => ∃ n, e = .returned (.string (bs (signB (s.data.toList.drop p)))) ∧ w' = w.drewN n :=
  refSign_calls' s p (p + 1) (p + 2) w hs hp (by omega) (by omega)
end Go.Proofs.Ytnnmhmlebffacaa
