/-
  The walk of the program's reader: any line.
-/
import Derived.Test.YtcpoiaclicmmmaaRead3
namespace Go.Proofs.Ytcpoiaclicmmmaa
open Go.RowKit

theorem areBases_calls (s : ByteArray) (w : World) (hs : s.size ≤ maxLen) :
    Calls Try.prog 32 #[.string s] w fun e w' => e = .returned (.bool (basesB s.data.toList)) ∧ w' = w := by
  have HB : Hid (∀ w, Calls Try.prog 48 #[.string s] w fun e w' => e = .returned (.bool (letsB s.data.toList)) ∧ w' = w) := fun w => areLetters_calls s w hs
  unfold maxLen at hs
  by_cases h0 : s.toList = []
  · have HE : Hid (basesB s.data.toList = false) := by
      show basesB _ = _
      unfold basesB; rw [toList_nil.1 h0]; rfl
    go_enter Try.func32, Try.ntmps32
    go_wp2
    go_ret
    exact ⟨ret_bool HE.out.symm, rfl⟩
  · have HN : Hid (basesB s.data.toList = (decide (s.size ≤ 65536) && letsB s.data.toList)) := by
      have h0' : s.data.toList ≠ [] := fun e => h0 (toList_nil.2 e)
      show basesB _ = _
      unfold basesB
      rw [size_toList]
      simp [h0']
    generalize basesB s.data.toList = N at *
    generalize letsB s.data.toList = A at *
    go_enter Try.func32, Try.ntmps32
    go_wp2_with (go_at_call 48; refine (HB.out _).mono ?_; rintro e w' ⟨rfl, rfl⟩)
    all_goals (go_ret; refine ⟨ret_bool ?_, rfl⟩; rw [HN.out, Bool.eq_iff_iff]; clear HN HB; simp_all <;> (intros; omega))

/-- Where the program's reader stands between two lines. -/
def PhAt (ph : Ph) (had : Nat) (q : Rd) (ti : ByteArray) : Prop :=
  match (ph : Option (List UInt8 × Option (List UInt8 × Bool))) with
  | none => had = 0
  | some (t, none) => had = 1 ∧ (ti.data.toList = t ∧ q.1.data.toList = headB 32 t ∧ q.2.1.data.toList = tailB 32 t ∧ t.length ≤ 1048576)
  | some (t, some (b, false)) => had = 2 ∧ (ti.data.toList = t ∧ q.1.data.toList = headB 32 t ∧ q.2.1.data.toList = tailB 32 t ∧ t.length ≤ 1048576) ∧ q.2.2.1.data.toList = b ∧ b.length ≤ 1048576
  | some (t, some (b, true)) => had = 3 ∧ (ti.data.toList = t ∧ q.1.data.toList = headB 32 t ∧ q.2.1.data.toList = tailB 32 t ∧ t.length ≤ 1048576) ∧ q.2.2.1.data.toList = b ∧ b.length ≤ 1048576
def Stands (B b : Nat) (rest line : ByteArray) (num : Nat) (st : List Pr) (ph : Ph) (w : World) : Prop :=
  ∃ sv qs had q ti, RAt B b rest line num sv qs had q ti w ∧ qs.map Rd.P = st.reverse ∧ st.length ≤ 256 ∧ (ph.inside = true → st.length < 256) ∧ PhAt ph had q ti
def StepPost (B b : Nat) (rest line : ByteArray) (num : Nat) (o : Option (List Pr × Ph)) (w : World) (e : Ending) (w' : World) : Prop :=
  Below B w w' ∧ match o with
    | none => e = .returned (.bool false) ∧ ∃ sv qs had q ti, RAt B b rest line num sv qs had q ti w'
    | some s => e = .returned (.bool true) ∧ Stands B b rest line num s.1 s.2 w'
theorem rds_length {qs : List Rd} {st : List Pr} (h : qs.map Rd.P = st.reverse) : qs.length = st.length := by
  have := congrArg List.length h; simpa using this
theorem size_of_list {s : ByteArray} {l : List UInt8} {n : Nat} (h : s.data.toList = l) (hl : l.length ≤ n) : s.size ≤ n := by
  rw [← size_toList, h]; exact hl
theorem head_short {t : List UInt8} {n : Nat} (h : t.length ≤ n) : (headB 32 t).length ≤ n := Nat.le_trans (headB_length_le _ _) h
theorem tail_short {t : List UInt8} {n : Nat} (h : t.length ≤ n) : (tailB 32 t).length ≤ n := Nat.le_trans (tailB_length_le _ _) (by omega)

theorem take_blank (B b : Nat) (rest line : ByteArray) (num : Nat) (st : List Pr) (s : ByteArray) (w : World) (h : Stands B b rest line num st .p0 w) (h0 : s.toList = []) :
    Calls Try.prog 18 #[.pointer (some ⟨b, 0, none⟩), .string s] w fun e w' => StepPost B b rest line num (stepQ st .p0 s.data.toList) w e w' := by
  have HE : Hid (StepPost B b rest line num (stepQ st .p0 s.data.toList) w (.returned (.bool true)) w) := by
    show StepPost _ _ _ _ _ _ _ _ _
    rw [toList_nil.1 h0]
    exact ⟨Below.refl _ _, rfl, h⟩
  obtain ⟨sv, qs, had, q, ti, hr, _, _, _, (rfl : had = 0)⟩ := h
  have hc4 := hr.cell4
  clear hr
  go_enter Try.func18, Try.ntmps18
  go_wp2
  go_ret
  exact HE.out

set_option maxHeartbeats 1000000 in
theorem take_first (B b : Nat) (rest line : ByteArray) (num : Nat) (st : List Pr) (s : ByteArray) (w : World) (h : Stands B b rest line num st .p0 w) (hs : s.size ≤ 1048576) (h0 : ¬ s.toList = []) :
    Calls Try.prog 18 #[.pointer (some ⟨b, 0, none⟩), .string s] w fun e w' => StepPost B b rest line num (stepQ st .p0 s.data.toList) w e w' := by
  have e1 : s.toList.isEmpty = false := by
    cases hr : s.toList with
    | nil => exact absurd hr h0
    | cons _ _ => rfl
  have HNE : Hid (s.data.toList ≠ []) := fun e => h0 (toList_nil.2 e)
  clear h0
  obtain ⟨sv, qs, had, q, ti, hr, hq, hsl, _, (rfl : had = 0)⟩ := h
  have HQ : Hid (qs.map Rd.P = st.reverse ∧ st.length ≤ 256) := ⟨hq, hsl⟩
  have HB : Hid (Calls Try.prog 31 #[.pointer (some ⟨b, 0, none⟩), .string s] w fun e w' => BeginPost B b rest line num sv qs s.data.toList w e w') := begin_calls B b rest line num sv qs q ti s w hr hs (by rw [rds_length hq]; exact hsl)
  have hc4 := hr.cell4
  clear hr hq hsl
  go_enter Try.func18, Try.ntmps18
  go_wp2_with fail
  refine HB.out.mono ?_
  rintro e w1 ⟨q1, ti1, rfl, hr1, hb1, hf⟩
  have HR1 : Hid (RAt B b rest line num sv qs 0 q1 ti1 w1 ∧ Below B w w1) := ⟨hr1, hb1⟩
  have hd4 := hr1.cell4
  have hf4 := hr1.frozen 4
  have HE : Hid (StepPost B b rest line num (stepQ st .p0 s.data.toList) w (.returned (.bool (firstB qs.length s.data.toList))) (w1.setCell ⟨b, 4, none⟩ (.int .i64 1))) := by
    have hR2 := HR1.out.1.put4 1 1 rfl
    refine ⟨HR1.out.2.setCell (p := ⟨b, 4, none⟩) HR1.out.1.base _, ?_⟩
    rw [rds_length HQ.out.1] at hf ⊢
    unfold stepQ
    rw [if_neg HNE.out]
    cases hx : firstB st.length s.data.toList with
    | false => exact ⟨rfl, _, _, _, _, _, hR2⟩
    | true =>
      obtain ⟨f1, f2, f3⟩ := hf hx
      refine ⟨rfl, _, _, _, _, _, hR2, HQ.out.1, HQ.out.2, fun _ => ?_, rfl, f1, f2, f3, ?_⟩
      · simp only [firstB, Bool.and_eq_true, decide_eq_true_eq] at hx; exact hx.2.2
      · rw [List.length_tail, size_toList]; omega
  clear hr1 hb1 hf HR1 HB HQ HNE hc4
  generalize firstB qs.length s.data.toList = F at *
  go_wp2
  go_ret
  exact HE.out

set_option maxHeartbeats 1000000 in
theorem take_bases (B b : Nat) (rest line : ByteArray) (num : Nat) (st : List Pr) (t : List UInt8) (s : ByteArray) (w : World) (h : Stands B b rest line num st (.p1 t) w) (hs : s.size ≤ 1048576) :
    Calls Try.prog 18 #[.pointer (some ⟨b, 0, none⟩), .string s] w fun e w' => StepPost B b rest line num (stepQ st (.p1 t) s.data.toList) w e w' := by
  obtain ⟨sv, qs, had, q, ti, hr, hq, hsl, hin, (rfl : had = 1), hti⟩ := h
  have HB : Hid (∀ w, Calls Try.prog 32 #[.string s] w fun e w' => e = .returned (.bool (basesB s.data.toList)) ∧ w' = w) := fun w => areBases_calls s w (by unfold maxLen; omega)
  have hc4 := hr.cell4
  have hc7 := hr.cell7
  have hf7 := hr.frozen 7
  have hf4 := hr.frozen 4
  have HE : Hid (StepPost B b rest line num (stepQ st (.p1 t) s.data.toList) w (.returned (.bool (basesB s.data.toList))) ((w.setCell ⟨b, 7, none⟩ (.string s)).setCell ⟨b, 4, none⟩ (.int .i64 2))) := by
    have hR2 := (hr.put7 s).put4 2 2 rfl
    refine ⟨((Below.refl B w).setCell (p := ⟨b, 7, none⟩) hr.base _).setCell (p := ⟨b, 4, none⟩) hr.base _, ?_⟩
    unfold stepQ
    cases hx : basesB s.data.toList with
    | false => exact ⟨rfl, _, _, _, _, _, hR2⟩
    | true => exact ⟨rfl, _, _, _, _, _, hR2, hq, hsl, fun _ => hin rfl, rfl, hti, rfl, by rw [size_toList]; exact hs⟩
  clear hr hq hsl hin hti
  generalize basesB s.data.toList = F at *
  go_enter Try.func18, Try.ntmps18
  go_wp2_with (go_at_call 32; refine (HB.out _).mono ?_; rintro e w' ⟨rfl, rfl⟩)
  go_ret
  exact HE.out

theorem ba_append (a b : ByteArray) : (a ++ b).data.toList = a.data.toList ++ b.data.toList := by
  simp

set_option maxHeartbeats 1000000 in
theorem take_mark (B b : Nat) (rest line : ByteArray) (num : Nat) (st : List Pr) (t bs : List UInt8) (s : ByteArray) (w : World) (h : Stands B b rest line num st (.p2 t bs) w) :
    Calls Try.prog 18 #[.pointer (some ⟨b, 0, none⟩), .string s] w fun e w' => StepPost B b rest line num (stepQ st (.p2 t bs) s.data.toList) w e w' := by
  obtain ⟨sv, qs, had, q, ti, hr, hq, hsl, hin, (rfl : had = 2), hti, hbs⟩ := h
  have hc4 := hr.cell4
  have hc9 := hr.cell9
  have hf4 := hr.frozen 4
  have hts : ti.size ≤ 1048576 := size_of_list hti.1 hti.2.2.2
  have HM : Hid (markB t s.data.toList = (decide (s.data.toList = [43]) || decide (s.data.toList = 43 :: ti.data.toList))) := by
    show markB _ _ = _
    rw [hti.1]; rfl
  have HE : Hid (∀ x, x = markB t s.data.toList → StepPost B b rest line num (stepQ st (.p2 t bs) s.data.toList) w (.returned (.bool x)) (w.setCell ⟨b, 4, none⟩ (.int .i64 3))) := by
    rintro x rfl
    have hR2 := hr.put4 3 3 rfl
    refine ⟨(Below.refl B w).setCell (p := ⟨b, 4, none⟩) hr.base _, ?_⟩
    rw [show stepQ st (.p2 t bs) s.data.toList = if markB t s.data.toList then some (st, .p3 t bs) else none from rfl]
    cases hx : markB t s.data.toList with
    | false => exact ⟨rfl, _, _, _, _, _, hR2⟩
    | true => exact ⟨rfl, _, _, _, _, _, hR2, hq, hsl, fun _ => hin rfl, rfl, hti, hbs⟩
  have hsa : (⟨#[43]⟩ : ByteArray).size = 1 := rfl
  have hcat : ∀ W, (Op.stringOp .add ⟨#[43]⟩ ti).run Try.prog W = .ok (.string (⟨#[43]⟩ ++ ti)) W := fun W => run_string_add_sum W _ _ (by rw [hsa]; omega)
  clear hr hq hsl hin hti hbs hts hsa
  by_cases hp : s.data.toList = [43]
  · have hd : (s.toList == [43]) = true := by rw [ByteArray.toList_eq]; simp [hp]
    have HX := HE.out true (by rw [HM.out]; simp [hp])
    have HX2 : Hid (StepPost B b rest line num (stepQ st (.p2 t bs) s.data.toList) w (.returned (.bool true)) (w.setCell ⟨b, 4, none⟩ (.int .i64 3))) := HX
    clear HX HE HM hp
    go_enter Try.func18, Try.ntmps18
    go_wp2
    go_ret
    exact HX2.out
  · have hd : (s.toList == [43]) = false := by rw [ByteArray.toList_eq]; simp [hp]
    by_cases hq : s.data.toList = 43 :: ti.data.toList
    · have hd2 : (s.toList == (⟨#[43]⟩ ++ ti : ByteArray).toList) = true := by
        rw [ByteArray.toList_eq, ByteArray.toList_eq, ba_append]; simp [hq]
      have HX := HE.out true (by rw [HM.out]; simp [hq])
      have HX2 : Hid (StepPost B b rest line num (stepQ st (.p2 t bs) s.data.toList) w (.returned (.bool true)) (w.setCell ⟨b, 4, none⟩ (.int .i64 3))) := HX
      clear HX HE HM hp hq
      generalize (⟨#[43]⟩ ++ ti : ByteArray) = tt at *
      go_enter Try.func18, Try.ntmps18
      go_wp2
      go_ret
      exact HX2.out
    · have hd2 : (s.toList == (⟨#[43]⟩ ++ ti : ByteArray).toList) = false := by
        rw [ByteArray.toList_eq, ByteArray.toList_eq, ba_append]; simp [hq]
      have HX := HE.out false (by rw [HM.out]; simp [hq, hp])
      have HX2 : Hid (StepPost B b rest line num (stepQ st (.p2 t bs) s.data.toList) w (.returned (.bool false)) (w.setCell ⟨b, 4, none⟩ (.int .i64 3))) := HX
      clear HX HE HM hp hq
      generalize (⟨#[43]⟩ ++ ti : ByteArray) = tt at *
      go_enter Try.func18, Try.ntmps18
      go_wp2
      go_ret
      exact HX2.out

set_option maxHeartbeats 1000000 in
theorem take_last (B b : Nat) (rest line : ByteArray) (num : Nat) (st : List Pr) (t bs : List UInt8) (s : ByteArray) (w : World) (h : Stands B b rest line num st (.p3 t bs) w) (hs : s.size ≤ 1048576) :
    Calls Try.prog 18 #[.pointer (some ⟨b, 0, none⟩), .string s] w fun e w' => StepPost B b rest line num (stepQ st (.p3 t bs) s.data.toList) w e w' := by
  obtain ⟨sv, qs, had, q, ti, hr, hq, hsl, hin, (rfl : had = 3), hti, hbs⟩ := h
  have HD : Hid (Calls Try.prog 33 #[.pointer (some ⟨b, 0, none⟩), .string s] w fun e w' => EndPost B b rest line num qs 3 (q.1, q.2.1, q.2.2.1, s) ti (lastB bs s.data.toList) w e w') := by
    have := end_calls B b rest line num sv qs 3 q ti s w hr hs (size_of_list hti.2.1 (head_short hti.2.2.2)) (size_of_list hti.2.2.1 (tail_short hti.2.2.2)) (size_of_list hbs.1 hbs.2) (by rw [rds_length hq]; exact hsl)
    rw [hbs.1] at this
    exact this
  have hc4 := hr.cell4
  have HI : Hid (qs.map Rd.P = st.reverse ∧ st.length < 256) := ⟨hq, hin rfl⟩
  have HT : Hid (ti.data.toList = t ∧ q.1.data.toList = headB 32 t ∧ q.2.1.data.toList = tailB 32 t ∧ q.2.2.1.data.toList = bs) := ⟨hti.1, hti.2.1, hti.2.2.1, hbs.1⟩
  clear hr hq hsl hin hti hbs
  go_enter Try.func18, Try.ntmps18
  go_wp2_with fail
  refine HD.out.mono ?_
  rintro e w1 ⟨sv1, qs1, rfl, hr1, hb1, hf⟩
  have hd4 := hr1.cell4
  have hf4 := hr1.frozen 4
  have HE : Hid (StepPost B b rest line num (stepQ st (.p3 t bs) s.data.toList) w (.returned (.bool (lastB bs s.data.toList))) (w1.setCell ⟨b, 4, none⟩ (.int .i64 0))) := by
    have hR2 := hr1.put4 0 0 rfl
    refine ⟨hb1.setCell (p := ⟨b, 4, none⟩) hr1.base _, ?_⟩
    rw [show stepQ st (.p3 t bs) s.data.toList = if lastB bs s.data.toList then some (readOf t bs s.data.toList :: st, .p0) else none from rfl]
    cases hx : lastB bs s.data.toList with
    | false => exact ⟨rfl, _, _, _, _, _, hR2⟩
    | true =>
      have e1 := hf hx
      refine ⟨rfl, _, _, _, _, _, hR2, ?_, ?_, fun h => (by cases h), rfl⟩
      · rw [e1, List.map_append, HI.out.1, List.reverse_cons]
        simp [Rd.P, readOf, HT.out.2.1, HT.out.2.2.1, HT.out.2.2.2]
      · have := HI.out.2
        simp only [List.length_cons]; omega
  clear hr1 hb1 hf HD HI HT hc4
  generalize lastB bs s.data.toList = F at *
  go_wp2
  go_ret
  exact HE.out

theorem take_calls (B b : Nat) (rest line : ByteArray) (num : Nat) (st : List Pr) (ph : Ph) (s : ByteArray) (w : World) (h : Stands B b rest line num st ph w) (hs : s.size ≤ 1048576) :
    Calls Try.prog 18 #[.pointer (some ⟨b, 0, none⟩), .string s] w fun e w' => StepPost B b rest line num (stepQ st ph s.data.toList) w e w' := by
  cases ph using Ph.elim with
  | p0 =>
    by_cases h0 : s.toList = []
    · exact take_blank B b rest line num st s w h h0
    · exact take_first B b rest line num st s w h hs h0
  | p1 t => exact take_bases B b rest line num st t s w h hs
  | p2 t bs => exact take_mark B b rest line num st t bs s w h
  | p3 t bs => exact take_last B b rest line num st t bs s w h hs
end Go.Proofs.Ytcpoiaclicmmmaa
