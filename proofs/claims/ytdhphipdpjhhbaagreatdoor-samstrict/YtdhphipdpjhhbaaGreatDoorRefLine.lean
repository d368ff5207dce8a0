/-
  The walk of the document's own Line.
-/
import Derived.Test.YtdhphipdpjhhbaaGreatDoorJoin
import Derived.Test.YtdhphipdpjhhbaaGreatDoorRefRec
import Derived.Test.YtdhphipdpjhhbaaGreatDoorRefPrint
namespace Go.Proofs.YtdhphipdpjhhbaaGreatDoor
open Go.RowKit

theorem lineR_map {r : Rec} (h : r.mapped = true) : lineR r = r.name ++ [9, 48, 9] ++ r.ref ++ [9] ++ Lib.itoa r.pos ++ [9, 50, 53, 53, 9] ++ (textA r.runs).1 ++ [9, 42, 9, 48, 9, 48, 9] ++ r.bases ++ [9] ++ r.quals ++ [9, 65, 83, 58, 105, 58] ++ Lib.itoa r.score := by
  simp [lineR, fieldsF, elevenF, tabs, join_two, Lib.join_one, h, flagF, refF, posF, qualF, runsF, scoreT]
theorem lineR_plain {r : Rec} (h : r.mapped = false) : lineR r = r.name ++ [9, 52, 9, 42, 9, 48, 9, 48, 9, 42, 9, 42, 9, 48, 9, 48, 9] ++ r.bases ++ [9] ++ r.quals := by
  simp [lineR, fieldsF, elevenF, tabs, join_two, Lib.join_one, h, flagF, refF, posF, qualF, runsF]

set_option maxRecDepth 20000 in
set_option maxHeartbeats 2000000 in
theorem refLine_calls (v : RV) (l : List Rn) (w : World) (h : RecOk w v l) :
    Calls Tryz.prog 13 #[v.val] w fun e w' => TextPost (lineA (v.R l)) w e w' := by
  have HR : Hid (∀ W, Below w.heap.size w W → Calls Tryz.prog 26 #[v.val] W fun e w' => e = .returned (.bool (rightR (v.R l))) ∧ Below W.heap.size W w') := fun W hW => refRec_calls v l W (h.below hW)
  have HPr : Hid (∀ W, Below w.heap.size w W → Calls Tryz.prog 30 #[.slice v.ao v.len v.cap] W fun e w' => TextPost (textA l) W e w') := fun W hW => refPrint_calls v.ao v.len v.cap l W (h.runs.below hW)
  have HN1 : Hid (∀ W, Calls Tryz.prog 31 #[.int .i64 v.pos] W fun e w' => ∃ t : ByteArray, e = .returned (.string t) ∧ t.data.toList = Lib.itoa v.pos ∧ w' = W) := fun W => number_calls v.pos W h.pos
  have HN2 : Hid (∀ W, Calls Tryz.prog 31 #[.int .i64 v.score] W fun e w' => ∃ t : ByteArray, e = .returned (.string t) ∧ t.data.toList = Lib.itoa v.score ∧ w' = W) := fun W => number_calls v.score W h.score
  have hsc : fit64 (v.R l).score := h.score
  clear h
  cases hr : rightR (v.R l) with
  | false =>
    have HE : Hid (lineA (v.R l) = ([], 51)) := by show _ = _; rw [lineA, hr]; rfl
    rw [hr] at HR
    generalize v.R l = r at *
    obtain ⟨nm, m, rf, p, ao, len, cap, b, q, s⟩ := v
    simp only [RV.val] at *
    clear hr hsc HPr HN1 HN2
    go_enter Tryz.func13, Tryz.ntmps13
    go_wp2_with (go_at_call 26; refine (HR.out _ (below_new _ _)).mono ?_; rintro e w1 ⟨rfl, hb1⟩)
    go_ret2
    exact text_post HE.out rfl (below_box hb1)
  | true =>
    have hrd := rightR_read hr
    have hnl := name_short hrd.name
    have hbl : (v.R l).bases.length ≤ 65536 := by
      have := hrd.bases
      simp only [basesB, Bool.and_eq_true, decide_eq_true_eq] at this
      exact this.2.1
    have hql := hrd.long
    simp only [RV.R, size_toList] at hnl hbl hql
    rw [hr] at HR
    cases hm : v.mapped with
    | false =>
      have HE : Hid (lineA (v.R l) = (v.name.data.toList ++ [9, 52, 9, 42, 9, 48, 9, 48, 9, 42, 9, 42, 9, 48, 9, 48, 9] ++ v.bases.data.toList ++ [9] ++ v.quals.data.toList, 0)) := by
        show _ = _
        rw [lineA, hr, if_pos rfl, lineR_plain (by exact hm)]
        rfl
      generalize lineA (v.R l) = L at *
      obtain ⟨nm, m, rf, p, ao, len, cap, b, q, s⟩ := v
      simp only at hnl hbl hql hm HE
      subst hm
      simp only [RV.val] at *
      clear hr hsc HPr HN1 HN2 hrd
      go_enter Tryz.func13, Tryz.ntmps13
      go_wp2_with fail
      refine (HR.out _ (below_new _ _)).mono ?_
      rintro e w1 ⟨rfl, hb1⟩
      have c0 := box_cell hb1 (i := 0) rfl
      have c1 := box_cell hb1 (i := 1) rfl
      have c5 := box_cell hb1 (i := 5) rfl
      have c6 := box_cell hb1 (i := 6) rfl
      have HB1 : Hid (Below w.heap.size w w1) := below_box hb1
      clear hb1 HR
      go_wp2
      go_ret2
      exact text_post HE.out (by simp only [ba_append]) HB1.out
    | true =>
      have hmp := rightR_map hr hm
      have hrl := name_short hmp.ref
      have htl := textA_len hmp.runs
      simp only [RV.R, size_toList] at hrl htl
      have hpl : (Lib.itoa v.pos).length ≤ 21 := Lib.itoa_length_le _ hmp.pos_fit.1 hmp.pos_fit.2
      have hsl : (Lib.itoa v.score).length ≤ 21 := Lib.itoa_length_le _ hsc.1 hsc.2
      have HE : Hid (lineA (v.R l) = (v.name.data.toList ++ [9, 48, 9] ++ v.ref.data.toList ++ [9] ++ Lib.itoa v.pos ++ [9, 50, 53, 53, 9] ++ (textA l).1 ++ [9, 42, 9, 48, 9, 48, 9] ++ v.bases.data.toList ++ [9] ++ v.quals.data.toList ++ [9, 65, 83, 58, 105, 58] ++ Lib.itoa v.score, 0)) := by
        show _ = _
        rw [lineA, hr, if_pos rfl, lineR_map (by exact hm)]
        rfl
      generalize lineA (v.R l) = L at *
      obtain ⟨nm, m, rf, p, ao, len, cap, b, q, s⟩ := v
      simp only at hnl hbl hql hm HE hrl hpl hsl
      subst hm
      simp only [RV.val] at *
      clear hr hsc hrd hmp
      go_enter Tryz.func13, Tryz.ntmps13
      go_wp2_with fail
      refine (HR.out _ (below_new _ _)).mono ?_
      rintro e w1 ⟨rfl, hb1⟩
      have c1 := box_cell hb1 (i := 1) rfl
      have c4 := box_cell hb1 (i := 4) rfl
      have hbox : w1.heap[w.heap.size]? = some (.cells #[.string nm, .bool true, .string rf, .int .i64 p, .slice ao len cap, .string b, .string q, .int .i64 s] 24 (0, 0)) := by
        rw [hb1.block _ (by simp)]; exact heap_alloc_new w _
      have HB1 : Hid (Below w.heap.size w w1 ∧ w1.heap[w.heap.size]? = some (.cells #[.string nm, .bool true, .string rf, .int .i64 p, .slice ao len cap, .string b, .string q, .int .i64 s] 24 (0, 0))) := ⟨below_box hb1, hbox⟩
      clear hb1 HR hbox
      go_wp2_with fail
      refine (HPr.out _ HB1.out.1).mono ?_
      rintro e w2 ⟨t, rfl, ht, hb2⟩
      have hts : t.size ≤ 2883628 := by rw [← size_toList, ht]; exact htl
      have HT : Hid (t.data.toList = (textA l).1) := ht
      have hbox2 : w2.heap[w.heap.size]? = some (.cells #[.string nm, .bool true, .string rf, .int .i64 p, .slice ao len cap, .string b, .string q, .int .i64 s] 24 (0, 0)) := by
        rw [hb2.block _ (lt_block HB1.out.2)]; exact HB1.out.2
      have HB2 : Hid (Below w.heap.size w w2) := HB1.out.1.trans (hb2.mono HB1.out.1.size)
      have d0 : w2.cell? ⟨w.heap.size, 0, none⟩ = some (.string nm) := by rw [Lib.cell_of_heap hbox2]; rfl
      have d2 : w2.cell? ⟨w.heap.size, 2, none⟩ = some (.string rf) := by rw [Lib.cell_of_heap hbox2]; rfl
      have d3 : w2.cell? ⟨w.heap.size, 3, none⟩ = some (.int .i64 p) := by rw [Lib.cell_of_heap hbox2]; rfl
      have d5 : w2.cell? ⟨w.heap.size, 5, none⟩ = some (.string b) := by rw [Lib.cell_of_heap hbox2]; rfl
      have d6 : w2.cell? ⟨w.heap.size, 6, none⟩ = some (.string q) := by rw [Lib.cell_of_heap hbox2]; rfl
      have d7 : w2.cell? ⟨w.heap.size, 7, none⟩ = some (.int .i64 s) := by rw [Lib.cell_of_heap hbox2]; rfl
      generalize (textA l).2 = z2 at *
      clear hb2 HB1 HPr ht c1 c4 htl hbox2
      go_wp2_with fail
      refine (HN1.out _).mono ?_
      rintro e w3 ⟨tp, rfl, htp, hw3⟩
      rw [hw3]
      have htps : tp.size ≤ 21 := by rw [← size_toList, htp]; exact hpl
      have HTp : Hid (tp.data.toList = Lib.itoa p) := htp
      clear hw3 htp hpl HN1
      go_wp2_with fail
      refine (HN2.out _).mono ?_
      rintro e w4 ⟨ts, rfl, hts', hw4⟩
      rw [hw4]
      have htss : ts.size ≤ 21 := by rw [← size_toList, hts']; exact hsl
      have HTs : Hid (ts.data.toList = Lib.itoa s) := hts'
      clear hw4 hts' hsl HN2
      go_wp2
      go_ret2
      exact text_post HE.out (by simp only [ba_append]; rw [HTs.out, HTp.out, HT.out]) HB2.out
end Go.Proofs.YtdhphipdpjhhbaaGreatDoor
