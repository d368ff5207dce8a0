/-
  The document's Right of a recurrence: what it refuses at once (1).
-/
import Derived.Test.YtolehoibpnenlabRcE
namespace Go.Proofs.Ytolehoibpnenlab
open Go.RowKit Go.Deep Go.Maps
set_option maxRecDepth 20000 in
set_option maxHeartbeats 2000000 in
theorem rb_0 (x : Rc) (da : Option Addr) (dn dc : Nat) (sa : Option Addr) (sn sc : Nat) (ta : Option Addr) (tn tc : Nat) (w : World) (h : RcAt w x da dn sa sn ta tn)  (bad : (valsB x.defs).2 ≠ 0) :
    Calls Try.prog 5 #[.agg (rcCells x da dn dc sa sn sc ta tn tc)] w fun e w' => e = .returned (.bool false) ∧ Below w.heap.size w w' := by
  have hdn := h.defs.short
  have hsn := h.subst.short
  have htn := h.states.short
  have e1 := h.defs.length
  have HB : Hid (Rb w (rcCells x da dn dc sa sn sc ta tn tc) (w.alloc (.cells (rcCells x da dn dc sa sn sc ta tn tc) 26))) := Rb.start w _
  have HS : Hid (RcAt w x da dn sa sn ta tn) := h
  have HLn : Hid ((valsB x.defs).2 = 0 → (valsB x.defs).1.length = dn) := fun h0 => by rw [(valsB_len x.defs h0).1, e1]
  have hfew := valsB_few x.defs
  unfold maxLen at hdn hsn htn
  clear h e1
  obtain ⟨L, defs, subst, beg, fin, front, back, banded, lo, hi, states⟩ := x
  unfold rcCells at HB ⊢
  simp only at *
  go_enter Try.func5, Try.ntmps5
  go_wp2_with fail
  refine (refvalues_calls defs da dn dc _ (HS.out.defs.below HB.out.low)).mono ?_
  rintro e w1 ⟨vo, vc, rfl, hown, hb1⟩
  have HX : Hid (Rb w #[.int .i64 L, .slice da dn dc, .slice sa sn sc, .int .i64 beg, .int .i64 fin, .int .i64 front, .int .i64 back, .bool banded, .int .i64 lo, .int .i64 hi, .slice ta tn tc] w1 ∧ IntA w1 vo (valsB defs).1.length (valsB defs).1) := ⟨HB.out.next hb1, intA_own hown rfl (by unfold maxLen; omega)⟩
  clear hown hb1 HB
  have c0 : w1.cell? ⟨w.heap.size, 0, none⟩ = some (.int .i64 L) := blk HX.out.1.box rfl
  have c1 : w1.cell? ⟨w.heap.size, 1, none⟩ = some (.slice da dn dc) := blk HX.out.1.box rfl
  have c2 : w1.cell? ⟨w.heap.size, 2, none⟩ = some (.slice sa sn sc) := blk HX.out.1.box rfl
  have c3 : w1.cell? ⟨w.heap.size, 3, none⟩ = some (.int .i64 beg) := blk HX.out.1.box rfl
  have c4 : w1.cell? ⟨w.heap.size, 4, none⟩ = some (.int .i64 fin) := blk HX.out.1.box rfl
  have c5 : w1.cell? ⟨w.heap.size, 5, none⟩ = some (.int .i64 front) := blk HX.out.1.box rfl
  have c6 : w1.cell? ⟨w.heap.size, 6, none⟩ = some (.int .i64 back) := blk HX.out.1.box rfl
  have c7 : w1.cell? ⟨w.heap.size, 7, none⟩ = some (.bool banded) := blk HX.out.1.box rfl
  have c8 : w1.cell? ⟨w.heap.size, 8, none⟩ = some (.int .i64 lo) := blk HX.out.1.box rfl
  have c9 : w1.cell? ⟨w.heap.size, 9, none⟩ = some (.int .i64 hi) := blk HX.out.1.box rfl
  have c10 : w1.cell? ⟨w.heap.size, 10, none⟩ = some (.slice ta tn tc) := blk HX.out.1.box rfl
  generalize hge : (valsB defs).2 = er at *
  generalize hgv : (valsB defs).1 = vs at *
  clear hge hgv
  have k_b : (er != 0) = true := by simpa using bad
  go_wp2
  go_ret
  exact ⟨rfl, HX.out.1.low⟩
set_option maxRecDepth 20000 in
set_option maxHeartbeats 2000000 in
theorem rb_1 (x : Rc) (da : Option Addr) (dn dc : Nat) (sa : Option Addr) (sn sc : Nat) (ta : Option Addr) (tn tc : Nat) (w : World) (h : RcAt w x da dn sa sn ta tn) (f0 : (valsB x.defs).2 = 0) (bad : x.letters < 2) :
    Calls Try.prog 5 #[.agg (rcCells x da dn dc sa sn sc ta tn tc)] w fun e w' => e = .returned (.bool false) ∧ Below w.heap.size w w' := by
  have hdn := h.defs.short
  have hsn := h.subst.short
  have htn := h.states.short
  have e1 := h.defs.length
  have HB : Hid (Rb w (rcCells x da dn dc sa sn sc ta tn tc) (w.alloc (.cells (rcCells x da dn dc sa sn sc ta tn tc) 26))) := Rb.start w _
  have HS : Hid (RcAt w x da dn sa sn ta tn) := h
  have HLn : Hid ((valsB x.defs).2 = 0 → (valsB x.defs).1.length = dn) := fun h0 => by rw [(valsB_len x.defs h0).1, e1]
  have hfew := valsB_few x.defs
  unfold maxLen at hdn hsn htn
  clear h e1
  obtain ⟨L, defs, subst, beg, fin, front, back, banded, lo, hi, states⟩ := x
  unfold rcCells at HB ⊢
  simp only at *
  go_enter Try.func5, Try.ntmps5
  go_wp2_with fail
  refine (refvalues_calls defs da dn dc _ (HS.out.defs.below HB.out.low)).mono ?_
  rintro e w1 ⟨vo, vc, rfl, hown, hb1⟩
  have HX : Hid (Rb w #[.int .i64 L, .slice da dn dc, .slice sa sn sc, .int .i64 beg, .int .i64 fin, .int .i64 front, .int .i64 back, .bool banded, .int .i64 lo, .int .i64 hi, .slice ta tn tc] w1 ∧ IntA w1 vo (valsB defs).1.length (valsB defs).1) := ⟨HB.out.next hb1, intA_own hown rfl (by unfold maxLen; omega)⟩
  clear hown hb1 HB
  have c0 : w1.cell? ⟨w.heap.size, 0, none⟩ = some (.int .i64 L) := blk HX.out.1.box rfl
  have c1 : w1.cell? ⟨w.heap.size, 1, none⟩ = some (.slice da dn dc) := blk HX.out.1.box rfl
  have c2 : w1.cell? ⟨w.heap.size, 2, none⟩ = some (.slice sa sn sc) := blk HX.out.1.box rfl
  have c3 : w1.cell? ⟨w.heap.size, 3, none⟩ = some (.int .i64 beg) := blk HX.out.1.box rfl
  have c4 : w1.cell? ⟨w.heap.size, 4, none⟩ = some (.int .i64 fin) := blk HX.out.1.box rfl
  have c5 : w1.cell? ⟨w.heap.size, 5, none⟩ = some (.int .i64 front) := blk HX.out.1.box rfl
  have c6 : w1.cell? ⟨w.heap.size, 6, none⟩ = some (.int .i64 back) := blk HX.out.1.box rfl
  have c7 : w1.cell? ⟨w.heap.size, 7, none⟩ = some (.bool banded) := blk HX.out.1.box rfl
  have c8 : w1.cell? ⟨w.heap.size, 8, none⟩ = some (.int .i64 lo) := blk HX.out.1.box rfl
  have c9 : w1.cell? ⟨w.heap.size, 9, none⟩ = some (.int .i64 hi) := blk HX.out.1.box rfl
  have c10 : w1.cell? ⟨w.heap.size, 10, none⟩ = some (.slice ta tn tc) := blk HX.out.1.box rfl
  generalize hge : (valsB defs).2 = er at *
  generalize hgv : (valsB defs).1 = vs at *
  clear hge hgv
  have HVL : Hid (vs.length = dn) := HLn.out f0
  have k_f0 : (er != 0) = false := by simp [f0]
  clear f0 HLn
  have k_b : decide (L < 2) = true := by simpa using bad
  go_wp2
  go_ret
  exact ⟨rfl, HX.out.1.low⟩
set_option maxRecDepth 20000 in
set_option maxHeartbeats 2000000 in
theorem rb_2 (x : Rc) (da : Option Addr) (dn dc : Nat) (sa : Option Addr) (sn sc : Nat) (ta : Option Addr) (tn tc : Nat) (w : World) (h : RcAt w x da dn sa sn ta tn) (f0 : (valsB x.defs).2 = 0) (f1 : ¬ x.letters < 2) (bad : 20 < x.letters) :
    Calls Try.prog 5 #[.agg (rcCells x da dn dc sa sn sc ta tn tc)] w fun e w' => e = .returned (.bool false) ∧ Below w.heap.size w w' := by
  have hdn := h.defs.short
  have hsn := h.subst.short
  have htn := h.states.short
  have e1 := h.defs.length
  have HB : Hid (Rb w (rcCells x da dn dc sa sn sc ta tn tc) (w.alloc (.cells (rcCells x da dn dc sa sn sc ta tn tc) 26))) := Rb.start w _
  have HS : Hid (RcAt w x da dn sa sn ta tn) := h
  have HLn : Hid ((valsB x.defs).2 = 0 → (valsB x.defs).1.length = dn) := fun h0 => by rw [(valsB_len x.defs h0).1, e1]
  have hfew := valsB_few x.defs
  unfold maxLen at hdn hsn htn
  clear h e1
  obtain ⟨L, defs, subst, beg, fin, front, back, banded, lo, hi, states⟩ := x
  unfold rcCells at HB ⊢
  simp only at *
  go_enter Try.func5, Try.ntmps5
  go_wp2_with fail
  refine (refvalues_calls defs da dn dc _ (HS.out.defs.below HB.out.low)).mono ?_
  rintro e w1 ⟨vo, vc, rfl, hown, hb1⟩
  have HX : Hid (Rb w #[.int .i64 L, .slice da dn dc, .slice sa sn sc, .int .i64 beg, .int .i64 fin, .int .i64 front, .int .i64 back, .bool banded, .int .i64 lo, .int .i64 hi, .slice ta tn tc] w1 ∧ IntA w1 vo (valsB defs).1.length (valsB defs).1) := ⟨HB.out.next hb1, intA_own hown rfl (by unfold maxLen; omega)⟩
  clear hown hb1 HB
  have c0 : w1.cell? ⟨w.heap.size, 0, none⟩ = some (.int .i64 L) := blk HX.out.1.box rfl
  have c1 : w1.cell? ⟨w.heap.size, 1, none⟩ = some (.slice da dn dc) := blk HX.out.1.box rfl
  have c2 : w1.cell? ⟨w.heap.size, 2, none⟩ = some (.slice sa sn sc) := blk HX.out.1.box rfl
  have c3 : w1.cell? ⟨w.heap.size, 3, none⟩ = some (.int .i64 beg) := blk HX.out.1.box rfl
  have c4 : w1.cell? ⟨w.heap.size, 4, none⟩ = some (.int .i64 fin) := blk HX.out.1.box rfl
  have c5 : w1.cell? ⟨w.heap.size, 5, none⟩ = some (.int .i64 front) := blk HX.out.1.box rfl
  have c6 : w1.cell? ⟨w.heap.size, 6, none⟩ = some (.int .i64 back) := blk HX.out.1.box rfl
  have c7 : w1.cell? ⟨w.heap.size, 7, none⟩ = some (.bool banded) := blk HX.out.1.box rfl
  have c8 : w1.cell? ⟨w.heap.size, 8, none⟩ = some (.int .i64 lo) := blk HX.out.1.box rfl
  have c9 : w1.cell? ⟨w.heap.size, 9, none⟩ = some (.int .i64 hi) := blk HX.out.1.box rfl
  have c10 : w1.cell? ⟨w.heap.size, 10, none⟩ = some (.slice ta tn tc) := blk HX.out.1.box rfl
  generalize hge : (valsB defs).2 = er at *
  generalize hgv : (valsB defs).1 = vs at *
  clear hge hgv
  have HVL : Hid (vs.length = dn) := HLn.out f0
  have k_f0 : (er != 0) = false := by simp [f0]
  clear f0 HLn
  have k_f1 : decide (L < 2) = false := by simpa using f1
  have k_b : decide (20 < L) = true := by simpa using bad
  go_wp2
  go_ret
  exact ⟨rfl, HX.out.1.low⟩
set_option maxRecDepth 20000 in
set_option maxHeartbeats 2000000 in
theorem rb_3 (x : Rc) (da : Option Addr) (dn dc : Nat) (sa : Option Addr) (sn sc : Nat) (ta : Option Addr) (tn tc : Nat) (w : World) (h : RcAt w x da dn sa sn ta tn) (f0 : (valsB x.defs).2 = 0) (f1 : ¬ x.letters < 2) (f2 : ¬ 20 < x.letters) (bad : (sn : Int) ≠ x.letters * x.letters) :
    Calls Try.prog 5 #[.agg (rcCells x da dn dc sa sn sc ta tn tc)] w fun e w' => e = .returned (.bool false) ∧ Below w.heap.size w w' := by
  have hdn := h.defs.short
  have hsn := h.subst.short
  have htn := h.states.short
  have e1 := h.defs.length
  have HB : Hid (Rb w (rcCells x da dn dc sa sn sc ta tn tc) (w.alloc (.cells (rcCells x da dn dc sa sn sc ta tn tc) 26))) := Rb.start w _
  have HS : Hid (RcAt w x da dn sa sn ta tn) := h
  have HLn : Hid ((valsB x.defs).2 = 0 → (valsB x.defs).1.length = dn) := fun h0 => by rw [(valsB_len x.defs h0).1, e1]
  have hfew := valsB_few x.defs
  unfold maxLen at hdn hsn htn
  clear h e1
  obtain ⟨L, defs, subst, beg, fin, front, back, banded, lo, hi, states⟩ := x
  unfold rcCells at HB ⊢
  simp only at *
  go_enter Try.func5, Try.ntmps5
  go_wp2_with fail
  refine (refvalues_calls defs da dn dc _ (HS.out.defs.below HB.out.low)).mono ?_
  rintro e w1 ⟨vo, vc, rfl, hown, hb1⟩
  have HX : Hid (Rb w #[.int .i64 L, .slice da dn dc, .slice sa sn sc, .int .i64 beg, .int .i64 fin, .int .i64 front, .int .i64 back, .bool banded, .int .i64 lo, .int .i64 hi, .slice ta tn tc] w1 ∧ IntA w1 vo (valsB defs).1.length (valsB defs).1) := ⟨HB.out.next hb1, intA_own hown rfl (by unfold maxLen; omega)⟩
  clear hown hb1 HB
  have c0 : w1.cell? ⟨w.heap.size, 0, none⟩ = some (.int .i64 L) := blk HX.out.1.box rfl
  have c1 : w1.cell? ⟨w.heap.size, 1, none⟩ = some (.slice da dn dc) := blk HX.out.1.box rfl
  have c2 : w1.cell? ⟨w.heap.size, 2, none⟩ = some (.slice sa sn sc) := blk HX.out.1.box rfl
  have c3 : w1.cell? ⟨w.heap.size, 3, none⟩ = some (.int .i64 beg) := blk HX.out.1.box rfl
  have c4 : w1.cell? ⟨w.heap.size, 4, none⟩ = some (.int .i64 fin) := blk HX.out.1.box rfl
  have c5 : w1.cell? ⟨w.heap.size, 5, none⟩ = some (.int .i64 front) := blk HX.out.1.box rfl
  have c6 : w1.cell? ⟨w.heap.size, 6, none⟩ = some (.int .i64 back) := blk HX.out.1.box rfl
  have c7 : w1.cell? ⟨w.heap.size, 7, none⟩ = some (.bool banded) := blk HX.out.1.box rfl
  have c8 : w1.cell? ⟨w.heap.size, 8, none⟩ = some (.int .i64 lo) := blk HX.out.1.box rfl
  have c9 : w1.cell? ⟨w.heap.size, 9, none⟩ = some (.int .i64 hi) := blk HX.out.1.box rfl
  have c10 : w1.cell? ⟨w.heap.size, 10, none⟩ = some (.slice ta tn tc) := blk HX.out.1.box rfl
  generalize hge : (valsB defs).2 = er at *
  generalize hgv : (valsB defs).1 = vs at *
  clear hge hgv
  have HVL : Hid (vs.length = dn) := HLn.out f0
  have k_f0 : (er != 0) = false := by simp [f0]
  clear f0 HLn
  have k_f1 : decide (L < 2) = false := by simpa using f1
  have k_f2 : decide (20 < L) = false := by simpa using f2
  obtain ⟨nn, hnL⟩ := Int.eq_ofNat_of_zero_le (show 0 ≤ L by omega)
  have hm1 : 0 ≤ L * L ∧ L * L ≤ 400 := by
    rw [hnL]
    have hn20 : nn ≤ 20 := by omega
    have hsq : nn * nn ≤ 400 := by have := Nat.mul_le_mul hn20 hn20; omega
    have hsqi : (nn : Int) * (nn : Int) = ((nn * nn : Nat) : Int) := by simp
    rw [hsqi]; omega
  obtain ⟨hm1, hm2⟩ := hm1
  clear hnL
  have k_b : ((sn : Int) != L * L) = true := by simpa using bad
  clear bad
  go_wp2
  go_ret
  exact ⟨rfl, HX.out.1.low⟩
set_option maxRecDepth 20000 in
set_option maxHeartbeats 2000000 in
theorem rb_4 (x : Rc) (da : Option Addr) (dn dc : Nat) (sa : Option Addr) (sn sc : Nat) (ta : Option Addr) (tn tc : Nat) (w : World) (h : RcAt w x da dn sa sn ta tn) (f0 : (valsB x.defs).2 = 0) (f1 : ¬ x.letters < 2) (f2 : ¬ 20 < x.letters) (f3 : (sn : Int) = x.letters * x.letters) (bad : x.beg < 1) :
    Calls Try.prog 5 #[.agg (rcCells x da dn dc sa sn sc ta tn tc)] w fun e w' => e = .returned (.bool false) ∧ Below w.heap.size w w' := by
  have hdn := h.defs.short
  have hsn := h.subst.short
  have htn := h.states.short
  have e1 := h.defs.length
  have HB : Hid (Rb w (rcCells x da dn dc sa sn sc ta tn tc) (w.alloc (.cells (rcCells x da dn dc sa sn sc ta tn tc) 26))) := Rb.start w _
  have HS : Hid (RcAt w x da dn sa sn ta tn) := h
  have HLn : Hid ((valsB x.defs).2 = 0 → (valsB x.defs).1.length = dn) := fun h0 => by rw [(valsB_len x.defs h0).1, e1]
  have hfew := valsB_few x.defs
  unfold maxLen at hdn hsn htn
  clear h e1
  obtain ⟨L, defs, subst, beg, fin, front, back, banded, lo, hi, states⟩ := x
  unfold rcCells at HB ⊢
  simp only at *
  go_enter Try.func5, Try.ntmps5
  go_wp2_with fail
  refine (refvalues_calls defs da dn dc _ (HS.out.defs.below HB.out.low)).mono ?_
  rintro e w1 ⟨vo, vc, rfl, hown, hb1⟩
  have HX : Hid (Rb w #[.int .i64 L, .slice da dn dc, .slice sa sn sc, .int .i64 beg, .int .i64 fin, .int .i64 front, .int .i64 back, .bool banded, .int .i64 lo, .int .i64 hi, .slice ta tn tc] w1 ∧ IntA w1 vo (valsB defs).1.length (valsB defs).1) := ⟨HB.out.next hb1, intA_own hown rfl (by unfold maxLen; omega)⟩
  clear hown hb1 HB
  have c0 : w1.cell? ⟨w.heap.size, 0, none⟩ = some (.int .i64 L) := blk HX.out.1.box rfl
  have c1 : w1.cell? ⟨w.heap.size, 1, none⟩ = some (.slice da dn dc) := blk HX.out.1.box rfl
  have c2 : w1.cell? ⟨w.heap.size, 2, none⟩ = some (.slice sa sn sc) := blk HX.out.1.box rfl
  have c3 : w1.cell? ⟨w.heap.size, 3, none⟩ = some (.int .i64 beg) := blk HX.out.1.box rfl
  have c4 : w1.cell? ⟨w.heap.size, 4, none⟩ = some (.int .i64 fin) := blk HX.out.1.box rfl
  have c5 : w1.cell? ⟨w.heap.size, 5, none⟩ = some (.int .i64 front) := blk HX.out.1.box rfl
  have c6 : w1.cell? ⟨w.heap.size, 6, none⟩ = some (.int .i64 back) := blk HX.out.1.box rfl
  have c7 : w1.cell? ⟨w.heap.size, 7, none⟩ = some (.bool banded) := blk HX.out.1.box rfl
  have c8 : w1.cell? ⟨w.heap.size, 8, none⟩ = some (.int .i64 lo) := blk HX.out.1.box rfl
  have c9 : w1.cell? ⟨w.heap.size, 9, none⟩ = some (.int .i64 hi) := blk HX.out.1.box rfl
  have c10 : w1.cell? ⟨w.heap.size, 10, none⟩ = some (.slice ta tn tc) := blk HX.out.1.box rfl
  generalize hge : (valsB defs).2 = er at *
  generalize hgv : (valsB defs).1 = vs at *
  clear hge hgv
  have HVL : Hid (vs.length = dn) := HLn.out f0
  have k_f0 : (er != 0) = false := by simp [f0]
  clear f0 HLn
  have k_f1 : decide (L < 2) = false := by simpa using f1
  have k_f2 : decide (20 < L) = false := by simpa using f2
  obtain ⟨nn, hnL⟩ := Int.eq_ofNat_of_zero_le (show 0 ≤ L by omega)
  have hm1 : 0 ≤ L * L ∧ L * L ≤ 400 := by
    rw [hnL]
    have hn20 : nn ≤ 20 := by omega
    have hsq : nn * nn ≤ 400 := by have := Nat.mul_le_mul hn20 hn20; omega
    have hsqi : (nn : Int) * (nn : Int) = ((nn * nn : Nat) : Int) := by simp
    rw [hsqi]; omega
  obtain ⟨hm1, hm2⟩ := hm1
  clear hnL
  have k_f3 : ((sn : Int) != L * L) = false := by simpa using f3
  clear f3
  have k_b : decide (beg < 1) = true := by simpa using bad
  go_wp2
  go_ret
  exact ⟨rfl, HX.out.1.low⟩
set_option maxRecDepth 20000 in
set_option maxHeartbeats 2000000 in
theorem rb_5 (x : Rc) (da : Option Addr) (dn dc : Nat) (sa : Option Addr) (sn sc : Nat) (ta : Option Addr) (tn tc : Nat) (w : World) (h : RcAt w x da dn sa sn ta tn) (f0 : (valsB x.defs).2 = 0) (f1 : ¬ x.letters < 2) (f2 : ¬ 20 < x.letters) (f3 : (sn : Int) = x.letters * x.letters) (f4 : ¬ x.beg < 1) (bad : 3 < x.beg) :
    Calls Try.prog 5 #[.agg (rcCells x da dn dc sa sn sc ta tn tc)] w fun e w' => e = .returned (.bool false) ∧ Below w.heap.size w w' := by
  have hdn := h.defs.short
  have hsn := h.subst.short
  have htn := h.states.short
  have e1 := h.defs.length
  have HB : Hid (Rb w (rcCells x da dn dc sa sn sc ta tn tc) (w.alloc (.cells (rcCells x da dn dc sa sn sc ta tn tc) 26))) := Rb.start w _
  have HS : Hid (RcAt w x da dn sa sn ta tn) := h
  have HLn : Hid ((valsB x.defs).2 = 0 → (valsB x.defs).1.length = dn) := fun h0 => by rw [(valsB_len x.defs h0).1, e1]
  have hfew := valsB_few x.defs
  unfold maxLen at hdn hsn htn
  clear h e1
  obtain ⟨L, defs, subst, beg, fin, front, back, banded, lo, hi, states⟩ := x
  unfold rcCells at HB ⊢
  simp only at *
  go_enter Try.func5, Try.ntmps5
  go_wp2_with fail
  refine (refvalues_calls defs da dn dc _ (HS.out.defs.below HB.out.low)).mono ?_
  rintro e w1 ⟨vo, vc, rfl, hown, hb1⟩
  have HX : Hid (Rb w #[.int .i64 L, .slice da dn dc, .slice sa sn sc, .int .i64 beg, .int .i64 fin, .int .i64 front, .int .i64 back, .bool banded, .int .i64 lo, .int .i64 hi, .slice ta tn tc] w1 ∧ IntA w1 vo (valsB defs).1.length (valsB defs).1) := ⟨HB.out.next hb1, intA_own hown rfl (by unfold maxLen; omega)⟩
  clear hown hb1 HB
  have c0 : w1.cell? ⟨w.heap.size, 0, none⟩ = some (.int .i64 L) := blk HX.out.1.box rfl
  have c1 : w1.cell? ⟨w.heap.size, 1, none⟩ = some (.slice da dn dc) := blk HX.out.1.box rfl
  have c2 : w1.cell? ⟨w.heap.size, 2, none⟩ = some (.slice sa sn sc) := blk HX.out.1.box rfl
  have c3 : w1.cell? ⟨w.heap.size, 3, none⟩ = some (.int .i64 beg) := blk HX.out.1.box rfl
  have c4 : w1.cell? ⟨w.heap.size, 4, none⟩ = some (.int .i64 fin) := blk HX.out.1.box rfl
  have c5 : w1.cell? ⟨w.heap.size, 5, none⟩ = some (.int .i64 front) := blk HX.out.1.box rfl
  have c6 : w1.cell? ⟨w.heap.size, 6, none⟩ = some (.int .i64 back) := blk HX.out.1.box rfl
  have c7 : w1.cell? ⟨w.heap.size, 7, none⟩ = some (.bool banded) := blk HX.out.1.box rfl
  have c8 : w1.cell? ⟨w.heap.size, 8, none⟩ = some (.int .i64 lo) := blk HX.out.1.box rfl
  have c9 : w1.cell? ⟨w.heap.size, 9, none⟩ = some (.int .i64 hi) := blk HX.out.1.box rfl
  have c10 : w1.cell? ⟨w.heap.size, 10, none⟩ = some (.slice ta tn tc) := blk HX.out.1.box rfl
  generalize hge : (valsB defs).2 = er at *
  generalize hgv : (valsB defs).1 = vs at *
  clear hge hgv
  have HVL : Hid (vs.length = dn) := HLn.out f0
  have k_f0 : (er != 0) = false := by simp [f0]
  clear f0 HLn
  have k_f1 : decide (L < 2) = false := by simpa using f1
  have k_f2 : decide (20 < L) = false := by simpa using f2
  obtain ⟨nn, hnL⟩ := Int.eq_ofNat_of_zero_le (show 0 ≤ L by omega)
  have hm1 : 0 ≤ L * L ∧ L * L ≤ 400 := by
    rw [hnL]
    have hn20 : nn ≤ 20 := by omega
    have hsq : nn * nn ≤ 400 := by have := Nat.mul_le_mul hn20 hn20; omega
    have hsqi : (nn : Int) * (nn : Int) = ((nn * nn : Nat) : Int) := by simp
    rw [hsqi]; omega
  obtain ⟨hm1, hm2⟩ := hm1
  clear hnL
  have k_f3 : ((sn : Int) != L * L) = false := by simpa using f3
  clear f3
  have k_f4 : decide (beg < 1) = false := by simpa using f4
  have k_b : decide (3 < beg) = true := by simpa using bad
  go_wp2
  go_ret
  exact ⟨rfl, HX.out.1.low⟩
end Go.Proofs.Ytolehoibpnenlab
