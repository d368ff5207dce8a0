/-
  The walk of the document's own Lines.
-/
import Derived.Test.YtcleejdlmamdhaaRead2
namespace Go.Proofs.Ytcleejdlmamdhaa
open Go.RowKit

theorem info9 : (Try.prog.info? 9).map (fun i => (i.zero, i.size, i.bytes)) = some (some (.string ⟨#[]⟩), 1, 16) := by kernel_rfl
def strVals (ls : List ByteArray) : List Value := ls.map fun s => .string s
theorem strVals_snoc (ls : List ByteArray) (s : ByteArray) : strVals (ls ++ [s]) = strVals ls ++ [.string s] := by simp [strVals]

/-- The bytes from f to i. -/
def mid (s : ByteArray) (f i : Nat) : List UInt8 := (s.data.toList.take i).drop f
theorem mid_next (s : ByteArray) (f i : Nat) (hf : f ≤ i) (hi : i < s.size) : mid s f (i + 1) = mid s f i ++ [s[i]] := by
  unfold mid
  rw [take_snoc s i hi, List.drop_append_of_le_length (by simp; omega)]
theorem mid_none (s : ByteArray) (f i : Nat) (h : i ≤ f) : mid s f i = [] := by
  unfold mid
  exact List.drop_of_length_le (by simp; omega)
theorem mid_length (s : ByteArray) (f i : Nat) (hi : i ≤ s.size) : (mid s f i).length = i - f := by
  unfold mid; simp; omega
theorem lines_cont (s : ByteArray) (f i : Nat) (hf : f ≤ i) (hi : i < s.size) (h : ¬ (s[i].toNat : Int) = 10) : linesGo (mid s f i) (s.data.toList.drop i) = linesGo (mid s f (i + 1)) (s.data.toList.drop (i + 1)) := by
  rw [drop_cons s i hi]
  show (if s[i] = 10 then _ else _) = _
  rw [if_neg (show ¬ s[i] = 10 from byte_ne (n := 10) (by decide) h), mid_next s f i hf hi]
theorem lines_push (s : ByteArray) (f i : Nat) (hi : i < s.size) (h : (s[i].toNat : Int) = 10) : linesGo (mid s f i) (s.data.toList.drop i) = trimB (mid s f i) :: linesGo (mid s (i + 1) (i + 1)) (s.data.toList.drop (i + 1)) := by
  rw [drop_cons s i hi, mid_none s (i + 1) (i + 1) (Nat.le_refl _)]
  show (if s[i] = 10 then _ else _) = _
  rw [if_pos (show s[i] = 10 from byte_is (n := 10) h)]
theorem lines_last (s : ByteArray) (f : Nat) (h : f < s.size) : linesGo (mid s f s.size) (s.data.toList.drop s.size) = trimB (mid s f s.size) :: linesGo (mid s (s.size + 1) (s.size + 1)) (s.data.toList.drop (s.size + 1)) := by
  rw [List.drop_of_length_le (by simp), List.drop_of_length_le (by simp), mid_none s (s.size + 1) (s.size + 1) (Nat.le_refl _)]
  have hne : mid s f s.size ≠ [] := by
    intro e; have := congrArg List.length e; rw [mid_length s f s.size (Nat.le_refl _)] at this; simp at this; omega
  simp [linesGo, hne]
theorem lines_stop (s : ByteArray) (f i : Nat) (hf : s.size ≤ f) (hi : s.size ≤ i) : linesGo (mid s f i) (s.data.toList.drop i) = [] := by
  rw [List.drop_of_length_le (by simp; omega)]
  have : mid s f i = [] := by
    unfold mid; exact List.drop_of_length_le (by simp; omega)
  simp [linesGo, this]
theorem trim_no (s : ByteArray) (f i : Nat) (hi : i ≤ s.size) (h : i ≤ f ∨ ∃ h1 : i - 1 < s.size, ¬ (s[i - 1].toNat : Int) = 13) : (s.extract f i).data.toList = trimB (mid s f i) := by
  rw [extract_list]
  show mid s f i = _
  unfold trimB
  rw [if_neg]
  intro e
  rcases h with h | ⟨h1, h⟩
  · rw [mid_none s f i h] at e; simp at e
  · by_cases hf : i ≤ f
    · rw [mid_none s f i hf] at e; simp at e
    · obtain ⟨j, rfl⟩ : ∃ j, i = j + 1 := ⟨i - 1, by omega⟩
      rw [mid_next s f j (by omega) (by omega)] at e
      simp at e
      exact h (by simp [e])
theorem trim_yes (s : ByteArray) (f j : Nat) (hi : j < s.size) (hf : f ≤ j) (h : (s[j].toNat : Int) = 13) : (s.extract f j).data.toList = trimB (mid s f (j + 1)) := by
  rw [extract_list]
  show mid s f j = _
  unfold trimB
  rw [mid_next s f j hf hi, if_pos (by simp [show s[j] = 13 from byte_is (n := 13) h])]
  simp

theorem slice_pred (s : ByteArray) (f i : Nat) (W : World) (h1 : f < i) (h2 : i ≤ s.size) : (Instr.slice 9 (.string s) (some (.int .i64 (f : Int))) (some (.int .i64 ((i : Int) - 1))) none).run Try.prog W = .ok (.string (s.extract f (i - 1))) W := by
  rw [run_slice_string W 9 s .i64 .i64 f ((i : Int) - 1) Try.underlying9 (by omega) (by omega) (by omega)]
  congr 3 <;> omega

def LinesPost (s : ByteArray) (w : World) (e : Ending) (w' : World) : Prop :=
  ∃ v ls, e = .returned v ∧ w'.ownsRow w.heap.size 9 1 v ls.length (strVals ls) ∧ ls.map (fun s => s.data.toList) = linesB s.data.toList ∧ Below w.heap.size w w'

structure LinInv (w : World) (s : ByteArray) (v : Value) (ls : List ByteArray) (f i : Nat) (wr : World) : Prop where
  own : wr.ownsRow w.heap.size 9 1 v ls.length (strVals ls)
  few : ls.length ≤ i
  lines : ls.map (fun s => s.data.toList) ++ linesGo (mid s f i) (s.data.toList.drop i) = linesB s.data.toList
  stop : i = s.size + 1 → s.size ≤ f
  below : Below w.heap.size w wr
theorem LinInv.push {w wr w1 : World} {s x : ByteArray} {v v' : Value} {ls : List ByteArray} {f i : Nat} {o : Obj} (h : LinInv w s v ls f i wr)
    (hx : x.data.toList = trimB (mid s f i)) (hl : linesGo (mid s f i) (s.data.toList.drop i) = trimB (mid s f i) :: linesGo (mid s (i + 1) (i + 1)) (s.data.toList.drop (i + 1)))
    (ho : w1.ownsRow w.heap.size 9 1 v' (ls.length + 1) (strVals ls ++ [.string x])) (hg : (wr.alloc o).grownBy w1 v.ownBlock) : LinInv w s v' (ls ++ [x]) (i + 1) (i + 1) w1 := by
  refine ⟨?_, ?_, ?_, fun _ => by omega, ?_⟩
  · rw [strVals_snoc, List.length_append]; exact ho
  · have := h.few; simp; omega
  · have := h.lines; rw [hl] at this; rw [List.map_append, List.append_assoc]
    simp only [List.map_cons, List.map_nil, List.singleton_append]; rw [hx]; exact this
  · exact (h.below.alloc h.below.size o).grown hg (by have := h.below.size; simp; omega) (fun k hk => (h.own.lt k hk).1)

set_option maxHeartbeats 4000000 in
theorem refLines_calls (s : ByteArray) (w : World) (hs : s.size ≤ 1048576) : Calls Try.prog 22 #[.string s] w fun e w' => LinesPost s w e w' := by
  obtain ⟨i0, hi, hz0, hz1, hz2⟩ := info_parts info9
  go_enter Try.func22, Try.ntmps22
  go_wp2
  go_loopw [3, 4, 5] (fun v a c wr => ∃ (ls : List ByteArray) (f i : Nat), f ≤ i ∧ i ≤ s.size + 1 ∧ a = .int .i64 f ∧ c = .int .i64 i ∧ LinInv w s v ls f i wr) (fun _ _ c _ => s.size + 1 - (intOf c).toNat)
  case atStart => exact ⟨[], 0, 0, Nat.le_refl _, by omega, rfl, rfl, World.ownsRow_nil _ _ _ _, by simp, by simp [mid, linesB], fun h => by omega, Below.refl _ _⟩
  case round =>
    obtain ⟨ls, f, i, hfi, his, rfl, rfl, hinv⟩ := hrel
    obtain ⟨vo, vcap, rfl⟩ := owned_shape hinv.own
    have HI : Hid (LinInv w s (.slice vo ls.length vcap) ls f i wr) := hinv
    have hfew := hinv.few
    have hsz : w.heap.size ≤ wr.heap.size := hinv.below.size
    clear hinv
    generalize hln : ls.length = ln at *
    have HLN : Hid (ls.length = ln) := hln
    clear hln
    by_cases hend : i = s.size + 1
    · subst hend
      have HE : Hid (LinesPost s w (.returned (.slice vo ln vcap)) wr) := by
        refine ⟨_, ls, rfl, ?_, ?_, HI.out.below⟩
        · have := HI.out.own; rw [HLN.out] at this ⊢; exact this
        · have := HI.out.lines; rw [lines_stop s f _ (HI.out.stop rfl) (by omega)] at this; simpa using this
      have hd : decide (((s.size + 1 : Nat) : Int) ≤ s.size) = false := decide_eq_false (by omega)
      go_wp2
      go_ret
      exact HE.out
    · have hle : decide ((i : Int) ≤ s.size) = true := by simp; omega
      have HO : Hid (wr.ownsRow w.heap.size 9 1 (.slice vo ln vcap) ln (strVals ls)) := by
        have := HI.out.own; rw [HLN.out] at this; exact this
      by_cases hie : i = s.size
      · subst hie
        have hd1 : ((s.size : Int) == (s.size : Int)) = true := by simp
        by_cases hf : f = s.size
        · subst hf
          have hd3 : decide ((s.size : Int) < (s.size : Int)) = false := by simp
          go_wp2
          go_roundw
          case rel =>
            refine ⟨ls, s.size, s.size + 1, by omega, by omega, rfl, by go_num, ?_⟩
            have hI := HI.out
            refine ⟨hI.own, by have := hI.few; omega, ?_, fun _ => Nat.le_refl _, hI.below⟩
            have := hI.lines; rw [lines_stop s _ _ (Nat.le_refl _) (Nat.le_refl _)] at this; rw [lines_stop s _ _ (Nat.le_refl _) (by omega)]; exact this
          case measure => simp [intOf] <;> omega
        · have hd2 : ((f : Int) == (s.size : Int)) = false := by simp; omega
          have hd3 : decide ((s.size : Int) < (s.size : Int)) = false := by simp
          have hpos : 0 < s.size := by omega
          have HL : Hid (linesGo (mid s f s.size) (s.data.toList.drop s.size) = trimB (mid s f s.size) :: linesGo (mid s (s.size + 1) (s.size + 1)) (s.data.toList.drop (s.size + 1))) := lines_last s f (by omega)
          have hgt : decide ((f : Int) < (s.size : Int)) = true := by simp; omega
          by_cases h13 : (s[s.size - 1].toNat : Int) = 13
          · have hd5 : ((s[s.size - 1].toNat : Int) == 13) = true := by simp [h13]
            have HX : Hid ((s.extract f (s.size - 1)).data.toList = trimB (mid s f s.size)) := by
              have := trim_yes s f (s.size - 1) (by omega) (by omega) h13
              rwa [show s.size - 1 + 1 = s.size by omega] at this
            clear h13
            have hslice : ∀ W, (Instr.slice 9 (.string s) (some (.int .i64 (f : Int))) (some (.int .i64 ((s.size : Int) - 1))) none).run Try.prog W = .ok (.string (s.extract f (s.size - 1))) W := fun W => slice_pred s f s.size W (by omega) (by omega)
            go_wp2_with (at_builtin; go_loud (refine wpList_append_own _ rfl _ _ 48 rfl w.heap.size 9 i0 (.string ⟨#[]⟩) 1 16 Try.underlying48 hi hz0 hz1 hz2 rfl (by decide) _ _ _ rfl (HO.out.alloc _) ⟨_, 0, none⟩ 1 1 [.string (s.extract f (s.size - 1))] rfl rfl ?c1 ?c2 ?c3 ?c4 ?c5 ?_))
            case c1 =>
              intro i u hu
              match i, hu with
              | 0, hu => simp at hu; subst hu; simp [Addr.add]
            case c2 => intro u hu; simp at hu; subst hu; rfl
            case c3 => unfold maxLen; omega
            case c4 => omega
            case c5 => simp; omega
            intro v' w2 hown' hgrow _
            have HR : Hid (LinInv w s v' (ls ++ [s.extract f (s.size - 1)]) (s.size + 1) (s.size + 1) w2) := HI.out.push HX.out HL.out (by rw [HLN.out]; exact hown') hgrow
            clear hown' hgrow HI HO HX HL
            go_wp2
            go_roundw
            case rel => exact ⟨ls ++ [s.extract f (s.size - 1)], s.size + 1, s.size + 1, Nat.le_refl _, by omega, by go_num, by go_num, HR.out⟩
            case measure => simp [intOf] <;> omega
          · have hd5 : ((s[s.size - 1].toNat : Int) == 13) = false := by simp [h13]
            have HX : Hid ((s.extract f s.size).data.toList = trimB (mid s f s.size)) := trim_no s f s.size (by omega) (.inr ⟨by omega, h13⟩)
            clear h13
            go_wp2_with (at_builtin; go_loud (refine wpList_append_own _ rfl _ _ 48 rfl w.heap.size 9 i0 (.string ⟨#[]⟩) 1 16 Try.underlying48 hi hz0 hz1 hz2 rfl (by decide) _ _ _ rfl (HO.out.alloc _) ⟨_, 0, none⟩ 1 1 [.string (s.extract f s.size)] rfl rfl ?c1 ?c2 ?c3 ?c4 ?c5 ?_))
            case c1 =>
              intro i u hu
              match i, hu with
              | 0, hu => simp at hu; subst hu; simp [Addr.add]
            case c2 => intro u hu; simp at hu; subst hu; rfl
            case c3 => unfold maxLen; omega
            case c4 => omega
            case c5 => simp; omega
            intro v' w2 hown' hgrow _
            have HR : Hid (LinInv w s v' (ls ++ [s.extract f s.size]) (s.size + 1) (s.size + 1) w2) := HI.out.push HX.out HL.out (by rw [HLN.out]; exact hown') hgrow
            clear hown' hgrow HI HO HX HL
            go_wp2
            go_roundw
            case rel => exact ⟨ls ++ [s.extract f s.size], s.size + 1, s.size + 1, Nat.le_refl _, by omega, by go_num, by go_num, HR.out⟩
            case measure => simp [intOf] <;> omega
      · have hlt : i < s.size := by omega
        have hd1 : ((i : Int) == (s.size : Int)) = false := by simp; omega
        have hd3 : decide ((i : Int) < (s.size : Int)) = true := by simp; omega
        by_cases hc : (s[i].toNat : Int) = 10
        · have hd4 : ((s[i].toNat : Int) == 10) = true := by simp [hc]
          have HL : Hid (linesGo (mid s f i) (s.data.toList.drop i) = trimB (mid s f i) :: linesGo (mid s (i + 1) (i + 1)) (s.data.toList.drop (i + 1))) := lines_push s f i hlt hc
          clear hc
          by_cases hf : f < i
          · have hgt : decide ((f : Int) < (i : Int)) = true := by simp; omega
            have hpos : 0 < i := by omega
            by_cases h13 : (s[i - 1].toNat : Int) = 13
            · have hd5 : ((s[i - 1].toNat : Int) == 13) = true := by simp [h13]
              have HX : Hid ((s.extract f (i - 1)).data.toList = trimB (mid s f i)) := by
                have := trim_yes s f (i - 1) (by omega) (by omega) h13
                rwa [show i - 1 + 1 = i by omega] at this
              clear h13
              have hslice : ∀ W, (Instr.slice 9 (.string s) (some (.int .i64 (f : Int))) (some (.int .i64 ((i : Int) - 1))) none).run Try.prog W = .ok (.string (s.extract f (i - 1))) W := fun W => slice_pred s f i W (by omega) (by omega)
              go_wp2_with (at_builtin; go_loud (refine wpList_append_own _ rfl _ _ 48 rfl w.heap.size 9 i0 (.string ⟨#[]⟩) 1 16 Try.underlying48 hi hz0 hz1 hz2 rfl (by decide) _ _ _ rfl (HO.out.alloc _) ⟨_, 0, none⟩ 1 1 [.string (s.extract f (i - 1))] rfl rfl ?c1 ?c2 ?c3 ?c4 ?c5 ?_))
              case c1 =>
                intro i u hu
                match i, hu with
                | 0, hu => simp at hu; subst hu; simp [Addr.add]
              case c2 => intro u hu; simp at hu; subst hu; rfl
              case c3 => unfold maxLen; omega
              case c4 => omega
              case c5 => simp; omega
              intro v' w2 hown' hgrow _
              have HR : Hid (LinInv w s v' (ls ++ [s.extract f (i - 1)]) (i + 1) (i + 1) w2) := HI.out.push HX.out HL.out (by rw [HLN.out]; exact hown') hgrow
              clear hown' hgrow HI HO HX HL
              go_wp2
              go_roundw
              case rel => exact ⟨ls ++ [s.extract f (i - 1)], i + 1, i + 1, Nat.le_refl _, by omega, by go_num, by go_num, HR.out⟩
              case measure => simp [intOf] <;> omega
            · have hd5 : ((s[i - 1].toNat : Int) == 13) = false := by simp [h13]
              have HX : Hid ((s.extract f i).data.toList = trimB (mid s f i)) := trim_no s f i (by omega) (.inr ⟨by omega, h13⟩)
              clear h13
              go_wp2_with (at_builtin; go_loud (refine wpList_append_own _ rfl _ _ 48 rfl w.heap.size 9 i0 (.string ⟨#[]⟩) 1 16 Try.underlying48 hi hz0 hz1 hz2 rfl (by decide) _ _ _ rfl (HO.out.alloc _) ⟨_, 0, none⟩ 1 1 [.string (s.extract f i)] rfl rfl ?c1 ?c2 ?c3 ?c4 ?c5 ?_))
              case c1 =>
                intro i u hu
                match i, hu with
                | 0, hu => simp at hu; subst hu; simp [Addr.add]
              case c2 => intro u hu; simp at hu; subst hu; rfl
              case c3 => unfold maxLen; omega
              case c4 => omega
              case c5 => simp; omega
              intro v' w2 hown' hgrow _
              have HR : Hid (LinInv w s v' (ls ++ [s.extract f i]) (i + 1) (i + 1) w2) := HI.out.push HX.out HL.out (by rw [HLN.out]; exact hown') hgrow
              clear hown' hgrow HI HO HX HL
              go_wp2
              go_roundw
              case rel => exact ⟨ls ++ [s.extract f i], i + 1, i + 1, Nat.le_refl _, by omega, by go_num, by go_num, HR.out⟩
              case measure => simp [intOf] <;> omega
          · have hgt : decide ((f : Int) < (i : Int)) = false := by simp; omega
            have HX : Hid ((s.extract f i).data.toList = trimB (mid s f i)) := trim_no s f i (by omega) (.inl (by omega))
            go_wp2_with (at_builtin; go_loud (refine wpList_append_own _ rfl _ _ 48 rfl w.heap.size 9 i0 (.string ⟨#[]⟩) 1 16 Try.underlying48 hi hz0 hz1 hz2 rfl (by decide) _ _ _ rfl (HO.out.alloc _) ⟨_, 0, none⟩ 1 1 [.string (s.extract f i)] rfl rfl ?c1 ?c2 ?c3 ?c4 ?c5 ?_))
            case c1 =>
              intro i u hu
              match i, hu with
              | 0, hu => simp at hu; subst hu; simp [Addr.add]
            case c2 => intro u hu; simp at hu; subst hu; rfl
            case c3 => unfold maxLen; omega
            case c4 => omega
            case c5 => simp; omega
            intro v' w2 hown' hgrow _
            have HR : Hid (LinInv w s v' (ls ++ [s.extract f i]) (i + 1) (i + 1) w2) := HI.out.push HX.out HL.out (by rw [HLN.out]; exact hown') hgrow
            clear hown' hgrow HI HO HX HL
            go_wp2
            go_roundw
            case rel => exact ⟨ls ++ [s.extract f i], i + 1, i + 1, Nat.le_refl _, by omega, by go_num, by go_num, HR.out⟩
            case measure => simp [intOf] <;> omega
        · have hd4 : ((s[i].toNat : Int) == 10) = false := by simp [hc]
          have HC : Hid (¬ (s[i].toNat : Int) = 10) := hc
          clear hc
          go_wp2
          go_roundw
          case rel =>
            refine ⟨ls, f, i + 1, by omega, by omega, rfl, by go_num, ?_⟩
            have hI := HI.out
            refine ⟨hI.own, by have := hI.few; omega, ?_, fun e => by omega, hI.below⟩
            rw [← lines_cont s f i hfi hlt HC.out]; exact hI.lines
          case measure => simp [intOf] <;> omega
end Go.Proofs.Ytcleejdlmamdhaa
