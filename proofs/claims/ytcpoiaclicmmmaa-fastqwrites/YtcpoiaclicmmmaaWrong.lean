/-
  The walks of the document's own Signs, bases and wrong.
-/
import Derived.Test.YtcpoiaclicmmmaaTake
namespace Go.Proofs.Ytcpoiaclicmmmaa
open Go.RowKit

theorem refSigns_calls (s : ByteArray) (w : World) (hs : s.size ≤ maxLen) :
    Calls Try.prog 36 #[.string s] w fun e w' => e = .returned (.bool (signsB s.data.toList)) ∧ w' = w := by
  unfold maxLen at hs
  go_enter Try.func36, Try.ntmps36
  go_wp2
  go_loop [3] (fun i => ∃ k : Nat, k ≤ s.size ∧ i = .int .i64 k ∧ (s.data.toList.take k).all (inB 33 126) = true) (fun i => s.size - (intOf i).toNat)
  case atStart => exact ⟨0, Nat.zero_le _, rfl, by simp⟩
  case round =>
    obtain ⟨k, hk, rfl, hn⟩ := hrel
    have HN : Hid ((s.data.toList.take k).all (inB 33 126) = true) := hn
    clear hn
    by_cases hlt : k < s.size
    · by_cases ha : (s[k].toNat : Int) < 33
      · have hd : decide ((s[k].toNat : Int) < 33) = true := by simp; omega
        have HP : Hid (inB 33 126 s[k] = false) := by simp [inB, Hid]; omega
        go_wp2
        go_ret
        exact ⟨ret_bool (all_false_at s k hlt HP.out).symm, rfl⟩
      · have hd : decide ((s[k].toNat : Int) < 33) = false := by simp; omega
        by_cases hb : (126 : Int) < s[k].toNat
        · have hd2 : decide ((126 : Int) < s[k].toNat) = true := by simp; omega
          have HP : Hid (inB 33 126 s[k] = false) := by simp [inB, Hid]; omega
          go_wp2
          go_ret
          exact ⟨ret_bool (all_false_at s k hlt HP.out).symm, rfl⟩
        · have hd2 : decide ((126 : Int) < s[k].toNat) = false := by simp; omega
          have HP : Hid (inB 33 126 s[k] = true) := by simp [inB, Hid]; omega
          go_wp2
          go_round
          case rel => exact ⟨k + 1, by omega, by go_num, all_take_succ s k hlt HN.out HP.out⟩
          case measure => simp [intOf]; omega
    · go_wp2
      go_ret
      exact ⟨ret_bool (all_take_all s k (by omega) HN.out).symm, rfl⟩

theorem refBases_calls (s : ByteArray) (w : World) (hs : s.size ≤ maxLen) :
    Calls Try.prog 35 #[.string s] w fun e w' => e = .returned (.bool (basesB s.data.toList)) ∧ w' = w := by
  have HL : Hid (∀ w, Calls Try.prog 50 #[.string s] w fun e w' => e = .returned (.int .i64 (letN s.data.toList : Int)) ∧ w' = w) := fun w => letters_calls s w hs
  have HN : Hid (basesB s.data.toList = (decide (letN s.data.toList = s.size) && (decide (1 ≤ letN s.data.toList) && decide (letN s.data.toList ≤ 65536)))) := by
    show basesB _ = _
    unfold basesB
    have h1 := letN_all s.data.toList
    rw [size_toList] at h1 ⊢
    have h2 : s.data.toList ≠ [] ↔ 1 ≤ s.size := by
      rw [Ne, size_zero]; omega
    cases hx : letsB s.data.toList with
    | true =>
      have h3 := h1.2 hx
      rw [h3]
      by_cases h4 : s.data.toList ≠ []
      · simp [h4, h2.1 h4]
      · have : ¬ 1 ≤ s.size := fun h => h4 (h2.2 h)
        simp [h4, this]
    | false =>
      have h3 : ¬ letN s.data.toList = s.size := fun h => by rw [h1.1 h] at hx; cases hx
      simp [h3]
  have hle : letN s.data.toList ≤ s.size := by have := letN_le s.data.toList; rwa [size_toList] at this
  unfold maxLen at hs
  generalize letN s.data.toList = n at *
  generalize basesB s.data.toList = N at *
  by_cases h : n = s.size
  · have hd : ((n : Int) == (s.size : Int)) = true := by simp [h]
    have HN2 : Hid (N = (decide (1 ≤ n) && decide (n ≤ 65536))) := by show N = _; rw [HN.out]; simp [h]
    clear HN h
    go_enter Try.func35, Try.ntmps35
    go_wp2_with (go_at_call 50; refine (HL.out _).mono ?_; rintro e w' ⟨rfl, rfl⟩)
    all_goals (go_ret; refine ⟨ret_bool ?_, rfl⟩; rw [HN2.out, Bool.eq_iff_iff]; clear HN2 HL; simp <;> omega)
  · have hd : ((n : Int) == (s.size : Int)) = false := by simp; omega
    have HN2 : Hid (N = false) := by show N = _; rw [HN.out]; simp [h]
    clear HN h
    go_enter Try.func35, Try.ntmps35
    go_wp2_with (go_at_call 50; refine (HL.out _).mono ?_; rintro e w' ⟨rfl, rfl⟩)
    all_goals (go_ret; exact ⟨ret_bool HN2.out.symm, rfl⟩)

/-- Which of the lines of a read is wrong. -/
def wrongQ : List (List UInt8) → Option Nat
  | [] => some 0
  | l0 :: ls => if decide (l0.head? = some 64) && titleOkB l0.tail then
      match ls with
      | [] => some 1
      | l1 :: ls => if basesB l1 then
          match ls with
          | [] => some 2
          | l2 :: ls => if markB l0.tail l2 then
              match ls with
              | [] => some 3
              | l3 :: _ => if lastB l1 l3 then none else some 3
            else some 2
        else some 1
    else some 0
def WrongPost (ls : List ByteArray) (w : World) (e : Ending) (w' : World) : Prop :=
  Below w.heap.size w w' ∧ ∃ q : Rd, match wrongQ (ls.map fun s => s.data.toList) with
    | some k => e = .returned (.tuple #[.int .i64 (k : Int), .agg #[.string q.1, .string q.2.1, .string q.2.2.1, .string q.2.2.2]])
    | none => e = .returned (.tuple #[.int .i64 (-1), .agg #[.string q.1, .string q.2.1, .string q.2.2.1, .string q.2.2.2]]) ∧ ∀ x0 x1 x2 x3, ls = [x0, x1, x2, x3] → q.P = readOf x0.data.toList.tail x1.data.toList x3.data.toList
theorem wrong_some {ls : List ByteArray} {w w' : World} {k : Nat} {z : Int} (h : wrongQ (ls.map fun s => s.data.toList) = some k) (hz : z = (k : Int)) (hb : Below w.heap.size w w') :
    WrongPost ls w (.returned (.tuple #[.int .i64 z, .agg #[.string ⟨#[]⟩, .string ⟨#[]⟩, .string ⟨#[]⟩, .string ⟨#[]⟩]])) w' := by
  subst hz
  refine ⟨hb, (⟨#[]⟩, ⟨#[]⟩, ⟨#[]⟩, ⟨#[]⟩), ?_⟩
  rw [h]
theorem wrong_none {x0 x1 x2 x3 : ByteArray} {q : Rd} {w w' : World} (h : wrongQ ([x0, x1, x2, x3].map fun s => s.data.toList) = none) (hq : q.P = readOf x0.data.toList.tail x1.data.toList x3.data.toList) (hb : Below w.heap.size w w') :
    WrongPost [x0, x1, x2, x3] w (.returned (.tuple #[.int .i64 (-1), .agg #[.string q.1, .string q.2.1, .string q.2.2.1, .string q.2.2.2]])) w' := by
  refine ⟨hb, q, ?_⟩
  rw [h]
  refine ⟨rfl, ?_⟩
  rintro a b c d e
  simp at e
  obtain ⟨rfl, rfl, rfl, rfl⟩ := e
  exact hq
theorem below_own {w W : World} {k : Nat} {u : Value} (h : Below w.heap.size w W) : Below w.heap.size w (W.setCell ⟨w.heap.size, k, none⟩ u) :=
  h.setCell (p := ⟨w.heap.size, k, none⟩) (Nat.le_refl _) u
theorem res21 : Try.f21.results = #[.tmp 2, .cell 3 29] := by kernel_rfl
theorem alloc_cell {w : World} {p : Addr} {v : Value} (h : w.cell? p = some v) (o : Obj) : (w.alloc o).cell? p = some v := by
  rw [World.cell?_alloc_some w p o (by rw [h]; rfl)]; exact h

set_option maxRecDepth 100000 in
set_option maxHeartbeats 4000000 in
theorem wrong_calls (g off n cap : Nat) (x0 : ByteArray) (r : List ByteArray) (w : World) (hn : (x0 :: r).length = n) (h4 : n ≤ 4)
    (hc : ∀ k x, (x0 :: r)[k]? = some x → w.cell? ⟨g, off + k, none⟩ = some (.string x)) (hs : ∀ x ∈ x0 :: r, x.size ≤ 1048576) (h0 : 0 < x0.size) :
    Calls Try.prog 21 #[.slice (some ⟨g, off, none⟩) n cap] w fun e w' => WrongPost (x0 :: r) w e w' := by
  have hn1 : 1 ≤ n := by simp at hn; omega
  have hd0 : ((n : Int) == 0) = false := by simp; omega
  have hx0 : ∀ o, (w.alloc o).cell? ⟨g, off, none⟩ = some (.string x0) := fun o => alloc_cell (hc 0 x0 rfl) o
  have HBa : Hid (∀ o, Below w.heap.size w (w.alloc o)) := fun o => (Below.refl _ _).alloc (Nat.le_refl _) o
  have hh : x0.data.toList.head? = some x0[0] := head?_at x0 h0
  have hz0 : x0.size ≤ 1048576 := hs x0 (by simp)
  by_cases hc0 : (x0[0].toNat : Int) = 64
  · have hd1 : ((x0[0].toNat : Int) == 64) = true := by simp [hc0]
    have hhead : x0.data.toList.head? = some 64 := by rw [hh, show x0[0] = 64 from byte_is (n := 64) hc0]
    have hex : (x0.extract 1 x0.size).data.toList = x0.data.toList.tail := by
      rw [extract_list, List.take_of_length_le (by simp)]; simp
    have HTi : Hid (∀ w, Calls Try.prog 34 #[.string (x0.extract 1 x0.size)] w fun e w' => TitleRefPost (x0.extract 1 x0.size) w e w') := fun w => refTitle_calls _ w (by rw [← size_toList, hex]; simp; unfold maxLen; omega)
    have HX : Hid ((x0.extract 1 x0.size).data.toList = x0.data.toList.tail) := hex
    have hts : (x0.extract 1 x0.size).size ≤ 1048576 := by rw [← size_toList, hex, List.length_tail, size_toList]; omega
    have HW : Hid (∀ l, wrongQ (x0.data.toList :: l) = if titleOkB x0.data.toList.tail then (match l with
      | [] => some 1
      | l1 :: ls => if basesB l1 then
          match ls with
          | [] => some 2
          | l2 :: ls => if markB x0.data.toList.tail l2 then
              match ls with
              | [] => some 3
              | l3 :: _ => if lastB l1 l3 then none else some 3
            else some 2
        else some 1) else some 0) := by
      intro l
      simp only [wrongQ, hhead, decide_true, Bool.true_and]
    have HC : Hid (∀ k x, (x0 :: r)[k]? = some x → w.cell? ⟨g, off + k, none⟩ = some (.string x)) := hc
    have HS : Hid (∀ x ∈ x0 :: r, x.size ≤ 1048576) := hs
    have HNn : Hid ((x0 :: r).length = n) := hn
    clear hc0 hh hhead hc hs hn hex
    go_enter Try.func21, Try.ntmps21
    go_wp2_with fail
    refine (HTi.out _).mono ?_
    generalize x0.extract 1 x0.size = tt at *
    rintro e w' ⟨a, c, rfl, ha, hcc, rfl⟩
    have HA : Hid (a.data.toList = headB 32 x0.data.toList.tail ∧ c.data.toList = tailB 32 x0.data.toList.tail) := by rw [← HX.out]; exact ⟨ha, hcc⟩
    clear ha hcc HTi
    rw [HX.out]
    cases ht : titleOkB x0.data.toList.tail with
    | false =>
      have HE : Hid (∀ w', Below w.heap.size w w' → WrongPost (x0 :: r) w (.returned (.tuple #[.int .i64 0, .agg #[.string ⟨#[]⟩, .string ⟨#[]⟩, .string ⟨#[]⟩, .string ⟨#[]⟩]])) w') := fun w' hb => wrong_some (k := 0) (by rw [List.map_cons, HW.out, ht]; rfl) rfl hb
      clear HW HC HS HNn HA ht HX
      go_wp2
      refine bodyPost_ret (v := .tuple #[.int .i64 0, .agg #[.string ⟨#[]⟩, .string ⟨#[]⟩, .string ⟨#[]⟩, .string ⟨#[]⟩]]) ?_ rfl (HE.out _ ?_)
      · simp only [results, res21]
        go_simp
      · exact HBa.out _
    | true =>
      cases r with
      | nil =>
        have HE : Hid (∀ w', Below w.heap.size w w' → WrongPost [x0] w (.returned (.tuple #[.int .i64 1, .agg #[.string ⟨#[]⟩, .string ⟨#[]⟩, .string ⟨#[]⟩, .string ⟨#[]⟩]])) w') := fun w' hb => wrong_some (k := 1) (by rw [List.map_cons, HW.out, ht]; rfl) rfl hb
        have hn' : n = 1 := HNn.out.symm
        subst hn'
        clear HW HC HS HNn HA ht HX
        go_wp2
        refine bodyPost_ret (v := .tuple #[.int .i64 1, .agg #[.string ⟨#[]⟩, .string ⟨#[]⟩, .string ⟨#[]⟩, .string ⟨#[]⟩]]) ?_ rfl (HE.out _ ?_)
        · simp only [results, res21]
          go_simp
        · exact HBa.out _
      | cons x1 r =>
        have hx1 : ∀ o, (w.alloc o).cell? ⟨g, off + 1, none⟩ = some (.string x1) := fun o => alloc_cell (HC.out 1 x1 rfl) o
        have hz1 : x1.size ≤ 1048576 := HS.out x1 (by simp)
        have HBs : Hid (∀ w, Calls Try.prog 35 #[.string x1] w fun e w' => e = .returned (.bool (basesB x1.data.toList)) ∧ w' = w) := fun w => refBases_calls x1 w (by unfold maxLen; omega)
        have hn2 : 2 ≤ n := by have := HNn.out; simp at this; omega
        have hd2 : decide ((n : Int) < 2) = false := by simp; omega
        cases hb : basesB x1.data.toList with
        | false =>
          have HE : Hid (∀ w', Below w.heap.size w w' → WrongPost (x0 :: x1 :: r) w (.returned (.tuple #[.int .i64 1, .agg #[.string ⟨#[]⟩, .string ⟨#[]⟩, .string ⟨#[]⟩, .string ⟨#[]⟩]])) w') := fun w' hb' => wrong_some (k := 1) (by rw [List.map_cons, HW.out, ht, List.map_cons]; simp [hb]) rfl hb'
          rw [hb] at HBs
          clear HW HC HS HNn HA ht HX hb
          go_wp2_with (go_at_call 35; refine (HBs.out _).mono ?_; rintro e w' ⟨rfl, rfl⟩)
          refine bodyPost_ret (v := .tuple #[.int .i64 1, .agg #[.string ⟨#[]⟩, .string ⟨#[]⟩, .string ⟨#[]⟩, .string ⟨#[]⟩]]) ?_ rfl (HE.out _ ?_)
          · simp only [results, res21]
            go_simp
          · exact HBa.out _
        | true =>
          rw [hb] at HBs
          cases r with
          | nil =>
            have HE : Hid (∀ w', Below w.heap.size w w' → WrongPost [x0, x1] w (.returned (.tuple #[.int .i64 2, .agg #[.string ⟨#[]⟩, .string ⟨#[]⟩, .string ⟨#[]⟩, .string ⟨#[]⟩]])) w') := fun w' hb' => wrong_some (k := 2) (by rw [List.map_cons, HW.out, ht, List.map_cons]; simp [hb]) rfl hb'
            have hn' : n = 2 := HNn.out.symm
            subst hn'
            clear HW HC HS HNn HA ht HX hb
            go_wp2_with (go_at_call 35; refine (HBs.out _).mono ?_; rintro e w' ⟨rfl, rfl⟩)
            refine bodyPost_ret (v := .tuple #[.int .i64 2, .agg #[.string ⟨#[]⟩, .string ⟨#[]⟩, .string ⟨#[]⟩, .string ⟨#[]⟩]]) ?_ rfl (HE.out _ ?_)
            · simp only [results, res21]
              go_simp
            · exact HBa.out _
          | cons x2 r =>
            have hx2 : ∀ o, (w.alloc o).cell? ⟨g, off + 2, none⟩ = some (.string x2) := fun o => alloc_cell (HC.out 2 x2 rfl) o
            have hn3 : 3 ≤ n := by have := HNn.out; simp at this; omega
            have hd3 : decide ((n : Int) < 3) = false := by simp; omega
            have hsa : (⟨#[43]⟩ : ByteArray).size = 1 := rfl
            have hcat : ∀ W, (Op.stringOp .add ⟨#[43]⟩ tt).run Try.prog W = .ok (.string (⟨#[43]⟩ ++ tt)) W := fun W => run_string_add_sum W _ _ (by rw [hsa]; omega)
            clear hsa
            have HP2 : Hid (x2.data.toList = (⟨#[43]⟩ ++ tt : ByteArray).data.toList ↔ x2.data.toList = 43 :: x0.data.toList.tail) := by
              show _ ↔ _
              rw [ba_append, HX.out]; simp
            generalize (⟨#[43]⟩ ++ tt : ByteArray) = pt at *
            cases hm : markB x0.data.toList.tail x2.data.toList with
            | false =>
              have HE : Hid (∀ w', Below w.heap.size w w' → WrongPost (x0 :: x1 :: x2 :: r) w (.returned (.tuple #[.int .i64 2, .agg #[.string ⟨#[]⟩, .string ⟨#[]⟩, .string ⟨#[]⟩, .string ⟨#[]⟩]])) w') := fun w' hb' => wrong_some (k := 2) (by rw [List.map_cons, HW.out, ht, List.map_cons, List.map_cons]; simp [hb, hm]) rfl hb'
              simp only [markB, Bool.or_eq_false_iff, decide_eq_false_iff_not] at hm
              have hda : (x2.toList == [43]) = false := by rw [ByteArray.toList_eq]; simp [hm.1]
              have hdb : (x2.toList == pt.toList) = false := by
                rw [ByteArray.toList_eq, ByteArray.toList_eq]; simp only [beq_eq_false_iff_ne, ne_eq, HP2.out]; exact hm.2
              clear HW HC HS HNn HA ht HX hb hm HP2
              go_wp2_with (go_at_call 35; refine (HBs.out _).mono ?_; rintro e w' ⟨rfl, rfl⟩)
              refine bodyPost_ret (v := .tuple #[.int .i64 2, .agg #[.string ⟨#[]⟩, .string ⟨#[]⟩, .string ⟨#[]⟩, .string ⟨#[]⟩]]) ?_ rfl (HE.out _ ?_)
              · simp only [results, res21]
                go_simp
              · exact HBa.out _
            | true =>
              have HMk : Hid ((x2.toList == [43]) = true ∨ ((x2.toList == [43]) = false ∧ (x2.toList == pt.toList) = true)) := by
                show _ ∨ _
                simp only [markB, Bool.or_eq_true, decide_eq_true_eq] at hm
                rw [ByteArray.toList_eq, ByteArray.toList_eq]
                by_cases h43 : x2.data.toList = [43]
                · left; simp [h43]
                · right
                  refine ⟨by simp [h43], ?_⟩
                  simp only [beq_iff_eq, HP2.out]
                  exact hm.resolve_left h43
              clear HP2
              cases r with
              | nil =>
                have HE : Hid (∀ w', Below w.heap.size w w' → WrongPost [x0, x1, x2] w (.returned (.tuple #[.int .i64 3, .agg #[.string ⟨#[]⟩, .string ⟨#[]⟩, .string ⟨#[]⟩, .string ⟨#[]⟩]])) w') := fun w' hb' => wrong_some (k := 3) (by rw [List.map_cons, HW.out, ht, List.map_cons, List.map_cons]; simp [hb, hm]) rfl hb'
                have hn' : n = 3 := HNn.out.symm
                subst hn'
                clear HW HC HS HNn HA ht HX hb hm
                rcases HMk.out with hda | ⟨hda, hdb⟩
                · go_wp2_with (go_at_call 35; refine (HBs.out _).mono ?_; rintro e w' ⟨rfl, rfl⟩)
                  refine bodyPost_ret (v := .tuple #[.int .i64 3, .agg #[.string ⟨#[]⟩, .string ⟨#[]⟩, .string ⟨#[]⟩, .string ⟨#[]⟩]]) ?_ rfl (HE.out _ ?_)
                  · simp only [results, res21]
                    go_simp
                  · exact HBa.out _
                · go_wp2_with (go_at_call 35; refine (HBs.out _).mono ?_; rintro e w' ⟨rfl, rfl⟩)
                  refine bodyPost_ret (v := .tuple #[.int .i64 3, .agg #[.string ⟨#[]⟩, .string ⟨#[]⟩, .string ⟨#[]⟩, .string ⟨#[]⟩]]) ?_ rfl (HE.out _ ?_)
                  · simp only [results, res21]
                    go_simp
                  · exact HBa.out _
              | cons x3 r =>
                have hr : r = [] := by
                  have := HNn.out; simp at this
                  exact List.eq_nil_of_length_eq_zero (by omega)
                subst hr
                have hn' : n = 4 := HNn.out.symm
                subst hn'
                have hx3 : ∀ o, (w.alloc o).cell? ⟨g, off + 3, none⟩ = some (.string x3) := fun o => alloc_cell (HC.out 3 x3 rfl) o
                have hz3 : x3.size ≤ 1048576 := HS.out x3 (by simp)
                have HSg : Hid (∀ w, Calls Try.prog 36 #[.string x3] w fun e w' => e = .returned (.bool (signsB x3.data.toList)) ∧ w' = w) := fun w => refSigns_calls x3 w (by unfold maxLen; omega)
                have HBad : Hid (lastB x1.data.toList x3.data.toList = false → ∀ w', Below w.heap.size w w' → WrongPost [x0, x1, x2, x3] w (.returned (.tuple #[.int .i64 3, .agg #[.string ⟨#[]⟩, .string ⟨#[]⟩, .string ⟨#[]⟩, .string ⟨#[]⟩]])) w') := fun hl w' hb' => wrong_some (k := 3) (by rw [List.map_cons, HW.out, ht, List.map_cons, List.map_cons, List.map_cons]; simp [hb, hm, hl]) rfl hb'
                have HGood : Hid (lastB x1.data.toList x3.data.toList = true → ∀ w', Below w.heap.size w w' → WrongPost [x0, x1, x2, x3] w (.returned (.tuple #[.int .i64 (-1), .agg #[.string a, .string c, .string x1, .string x3]])) w') := fun hl w' hb' => wrong_none (q := (a, c, x1, x3)) (by rw [List.map_cons, HW.out, ht, List.map_cons, List.map_cons, List.map_cons]; simp [hb, hm, hl]) (by simp [Rd.P, readOf, HA.out.1, HA.out.2]) hb'
                have HLe : Hid (lastB x1.data.toList x3.data.toList = (decide (x3.size = x1.size) && signsB x3.data.toList)) := by
                  show lastB _ _ = _
                  unfold lastB; rw [size_toList, size_toList]
                clear HW HC HS HNn HA ht HX hb hm
                cases hsg : signsB x3.data.toList with
                | false =>
                  have HE : Hid (∀ w', Below w.heap.size w w' → WrongPost [x0, x1, x2, x3] w (.returned (.tuple #[.int .i64 3, .agg #[.string ⟨#[]⟩, .string ⟨#[]⟩, .string ⟨#[]⟩, .string ⟨#[]⟩]])) w') := HBad.out (by rw [HLe.out, hsg]; simp)
                  rw [hsg] at HSg
                  clear HBad HGood HLe hsg
                  rcases HMk.out with hda | ⟨hda, hdb⟩
                  · go_wp2_with (first
                      | (go_at_call 35; refine (HBs.out _).mono ?_; rintro e w' ⟨rfl, rfl⟩)
                      | (go_at_call 36; refine (HSg.out _).mono ?_; rintro e w' ⟨rfl, rfl⟩))
                    go_quiet (fail)
                    go_wp2
                    refine bodyPost_ret (v := .tuple #[.int .i64 3, .agg #[.string ⟨#[]⟩, .string ⟨#[]⟩, .string ⟨#[]⟩, .string ⟨#[]⟩]]) ?_ rfl (HE.out _ ?_)
                    · simp only [results, res21]
                      go_simp
                    · (repeat (first | exact HBa.out _ | refine Below.drew ?_ | refine below_drewN ?_ _ | refine below_own ?_))
                  · go_wp2_with (first
                      | (go_at_call 35; refine (HBs.out _).mono ?_; rintro e w' ⟨rfl, rfl⟩)
                      | (go_at_call 36; refine (HSg.out _).mono ?_; rintro e w' ⟨rfl, rfl⟩))
                    go_quiet (fail)
                    go_wp2
                    refine bodyPost_ret (v := .tuple #[.int .i64 3, .agg #[.string ⟨#[]⟩, .string ⟨#[]⟩, .string ⟨#[]⟩, .string ⟨#[]⟩]]) ?_ rfl (HE.out _ ?_)
                    · simp only [results, res21]
                      go_simp
                    · (repeat (first | exact HBa.out _ | refine Below.drew ?_ | refine below_drewN ?_ _ | refine below_own ?_))
                | true =>
                  rw [hsg] at HSg
                  by_cases hl : x3.size = x1.size
                  · have hdl : ((x3.size : Int) == (x1.size : Int)) = true := by simp [hl]
                    have HE : Hid (∀ w', Below w.heap.size w w' → WrongPost [x0, x1, x2, x3] w (.returned (.tuple #[.int .i64 (-1), .agg #[.string a, .string c, .string x1, .string x3]])) w') := HGood.out (by rw [HLe.out, hsg]; simp [hl])
                    clear HBad HGood HLe hsg hl
                    rcases HMk.out with hda | ⟨hda, hdb⟩
                    · go_wp2_with (first
                        | (go_at_call 35; refine (HBs.out _).mono ?_; rintro e w' ⟨rfl, rfl⟩)
                        | (go_at_call 36; refine (HSg.out _).mono ?_; rintro e w' ⟨rfl, rfl⟩))
                      go_quiet (fail)
                      go_wp2
                      go_region
                      go_wp2
                      refine bodyPost_ret (v := .tuple #[.int .i64 (-1), .agg #[.string a, .string c, .string x1, .string x3]]) ?_ rfl (HE.out _ ?_)
                      · simp only [results, res21]
                        go_simp
                      · (repeat (first | exact HBa.out _ | refine Below.drew ?_ | refine below_drewN ?_ _ | refine below_own ?_))
                    · go_wp2_with (first
                        | (go_at_call 35; refine (HBs.out _).mono ?_; rintro e w' ⟨rfl, rfl⟩)
                        | (go_at_call 36; refine (HSg.out _).mono ?_; rintro e w' ⟨rfl, rfl⟩))
                      go_quiet (fail)
                      go_wp2
                      go_region
                      go_wp2
                      refine bodyPost_ret (v := .tuple #[.int .i64 (-1), .agg #[.string a, .string c, .string x1, .string x3]]) ?_ rfl (HE.out _ ?_)
                      · simp only [results, res21]
                        go_simp
                      · (repeat (first | exact HBa.out _ | refine Below.drew ?_ | refine below_drewN ?_ _ | refine below_own ?_))
                  · have hdl : ((x3.size : Int) == (x1.size : Int)) = false := by simp; omega
                    have HE : Hid (∀ w', Below w.heap.size w w' → WrongPost [x0, x1, x2, x3] w (.returned (.tuple #[.int .i64 3, .agg #[.string ⟨#[]⟩, .string ⟨#[]⟩, .string ⟨#[]⟩, .string ⟨#[]⟩]])) w') := HBad.out (by rw [HLe.out, hsg]; simp [hl])
                    clear HBad HGood HLe hsg hl
                    rcases HMk.out with hda | ⟨hda, hdb⟩
                    · go_wp2_with (first
                        | (go_at_call 35; refine (HBs.out _).mono ?_; rintro e w' ⟨rfl, rfl⟩)
                        | (go_at_call 36; refine (HSg.out _).mono ?_; rintro e w' ⟨rfl, rfl⟩))
                      go_quiet (fail)
                      go_wp2
                      refine bodyPost_ret (v := .tuple #[.int .i64 3, .agg #[.string ⟨#[]⟩, .string ⟨#[]⟩, .string ⟨#[]⟩, .string ⟨#[]⟩]]) ?_ rfl (HE.out _ ?_)
                      · simp only [results, res21]
                        go_simp
                      · (repeat (first | exact HBa.out _ | refine Below.drew ?_ | refine below_drewN ?_ _ | refine below_own ?_))
                    · go_wp2_with (first
                        | (go_at_call 35; refine (HBs.out _).mono ?_; rintro e w' ⟨rfl, rfl⟩)
                        | (go_at_call 36; refine (HSg.out _).mono ?_; rintro e w' ⟨rfl, rfl⟩))
                      go_quiet (fail)
                      go_wp2
                      refine bodyPost_ret (v := .tuple #[.int .i64 3, .agg #[.string ⟨#[]⟩, .string ⟨#[]⟩, .string ⟨#[]⟩, .string ⟨#[]⟩]]) ?_ rfl (HE.out _ ?_)
                      · simp only [results, res21]
                        go_simp
                      · (repeat (first | exact HBa.out _ | refine Below.drew ?_ | refine below_drewN ?_ _ | refine below_own ?_))
  · have hd1 : ((x0[0].toNat : Int) == 64) = false := by simp [hc0]
    have HE : Hid (∀ w', Below w.heap.size w w' → WrongPost (x0 :: r) w (.returned (.tuple #[.int .i64 0, .agg #[.string ⟨#[]⟩, .string ⟨#[]⟩, .string ⟨#[]⟩, .string ⟨#[]⟩]])) w') := fun w' hb => wrong_some (k := 0) (by
      have : ¬ x0.data.toList.head? = some 64 := by
        rw [hh]; intro e; exact (byte_ne (n := 64) (by decide) hc0) (by simpa using e)
      simp [wrongQ, this]) rfl hb
    clear hc0 hh hc hs hn
    go_enter Try.func21, Try.ntmps21
    go_wp2
    refine bodyPost_ret (v := .tuple #[.int .i64 0, .agg #[.string ⟨#[]⟩, .string ⟨#[]⟩, .string ⟨#[]⟩, .string ⟨#[]⟩]]) ?_ rfl (HE.out _ ?_)
    · simp only [results, res21]
      go_simp
    · exact HBa.out _
end Go.Proofs.Ytcpoiaclicmmmaa
