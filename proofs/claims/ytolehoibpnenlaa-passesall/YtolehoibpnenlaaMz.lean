/-
  The document's All. PassesAll: its walk.
-/
import Derived.Test.YtolehoibpnenlaaMq
import Derived.Test.YtolehoibpnenlaaPsS
import Derived.Test.YtolehoibpnenlaaPsT
namespace Go.Proofs.Ytolehoibpnenlaa
open Go.RowKit Go.Deep Go.Maps

/-- A recurrence in a box. -/
structure Bx (W : World) (g : Nat) (Y : Rc) (da : Option Addr) (dc : Nat) (sa : Option Addr) (sc : Nat) (ta : Option Addr) (tc : Nat) : Prop where
  box : W.heap[g]? = some (.cells (rcCells Y da Y.defs.length dc sa Y.subst.length sc ta Y.states.length tc) 26 (0, 0))
  at' : RcAt W Y da Y.defs.length sa Y.subst.length ta Y.states.length
theorem Bx.next {W W2 : World} {g : Nat} {Y : Rc} {da : Option Addr} {dc : Nat} {sa : Option Addr} {sc : Nat} {ta : Option Addr} {tc : Nat} (h : Bx W g Y da dc sa sc ta tc) (hb : Below W.heap.size W W2) : Bx W2 g Y da dc sa sc ta tc :=
  ⟨by rw [hb.block _ (lt_block h.box)]; exact h.box, h.at'.below hb⟩
theorem Bx.new {W : World} {b : Nat} {Y : Rc} {da : Option Addr} {dc : Nat} {sa : Option Addr} {sc : Nat} {ta : Option Addr} {tc : Nat} (h : RcO W b Y da dc sa sc ta tc) (hf : Fit Y) : Bx (W.alloc (.cells (rcCells Y da Y.defs.length dc sa Y.subst.length sc ta Y.states.length tc) 26)) W.heap.size Y da dc sa sc ta tc :=
  ⟨heap_alloc_new W _, (h.below ((Below.refl _ _).alloc (Nat.le_refl _) _)).at hf⟩
theorem RcO.low {w : World} {b b' : Nat} {x : Rc} {da : Option Addr} {dc : Nat} {sa : Option Addr} {sc : Nat} {ta : Option Addr} {tc : Nat} (h : RcO w b x da dc sa sc ta tc) (hb : b' ≤ b) : RcO w b' x da dc sa sc ta tc := ⟨owned_base h.defs hb, owned_base h.subst hb, h.states.base' hb⟩
/-- All passes, one behind the other. -/
def al1 (x : Rc) : Rc := foldB x (valsB x.defs).1
def al2 (x : Rc) : Rc := pruneB (al1 x) (valsB (al1 x).defs).1
def al3 (x : Rc) : Rc := dropB (al2 x)
def al4 (x : Rc) : Rc := clampB (al3 x)
theorem al_right {x : Rc} (h : rightR x = true) : rightR (al1 x) = true ∧ rightR (al2 x) = true ∧ rightR (al3 x) = true ∧ (valsB (al1 x).defs).1 = keptB x (valsB x.defs).1 := by
  have h1 := fold_right h (rfl : (valsB x.defs).1 = _)
  have h2 : rightR (al2 x) = true := prune_right h1.1
  exact ⟨h1.1, h2, drop_right h2, h1.2⟩
theorem al_run {x : Rc} (h : rightR x = true) : (runP [foldP, pruneP, drpP, clampP] x (valsB x.defs).1).1 = al4 x := by
  show clampB (dropB (pruneB (foldB x (valsB x.defs).1) (keptB x (valsB x.defs).1))) = _
  rw [al4, al3, al2, (al_right h).2.2.2]
  rfl
theorem al_fits {x : Rc} (h : rightR x = true) (hf : ∀ d ∈ x.defs, InR d.num) : Fit (al1 x) ∧ Fit (al2 x) ∧ Fit (al3 x) ∧ Fit (al4 x) := by
  obtain ⟨r1, r2, r3, _⟩ := al_right h
  have f1 : Fit (al1 x) := fold_fit h hf
  have f2 : Fit (al2 x) := prune_fit r1 f1.1
  have f3 : Fit (al3 x) := drop_fit r2 f2.1
  exact ⟨f1, f2, f3, clamp_fit r3 f3.1⟩

set_option maxRecDepth 20000 in
set_option maxHeartbeats 2000000 in
theorem refAll_calls (x : Rc) (da : Option Addr) (dn dc : Nat) (sa : Option Addr) (sn sc : Nat) (ta : Option Addr) (tn tc : Nat) (w : World) (h : RcAt w x da dn sa sn ta tn) :
    Calls Try.prog 21 #[.agg (rcCells x da dn dc sa sn sc ta tn tc)] w fun e w' => UPost (okX (rightR x) (al4 x)) (okE (rightR x)) w e w' := by
  have hres : Try.f21.results = #[.cell 2 26, .tmp 3] := by kernel_rfl
  have HB0 : Hid (D5 w (rcCells x da dn dc sa sn sc ta tn tc) ((w.alloc (.cells (rcCells x da dn dc sa sn sc ta tn tc) 26)).alloc (.cells #[.int .i64 0, .slice none 0 0, .slice none 0 0, .int .i64 0, .int .i64 0, .int .i64 0, .int .i64 0, .bool false, .int .i64 0, .int .i64 0, .slice none 0 0] 26))) := D5.start _ _
  obtain ⟨Y1, hY1⟩ : ∃ Y1, okX (rightR x) (al1 x) = Y1 := ⟨_, rfl⟩
  have HF1 : Hid (∀ W, Below w.heap.size w W → Calls Try.prog 11 #[.agg (rcCells x da dn dc sa sn sc ta tn tc)] W fun e w' => UPost Y1 (okE (rightR x)) W e w') := fun W hW => by rw [← hY1]; exact refFold_calls x da dn dc sa sn sc ta tn tc W (h.below hW)
  have hfit := h.defs.fits
  obtain ⟨ok, hok⟩ : ∃ ok, rightR x = ok := ⟨_, rfl⟩
  have HOK : Hid (rightR x = ok ∧ (∀ d ∈ x.defs, InR d.num) ∧ okX ok (al1 x) = Y1) := ⟨hok, hfit, by rw [← hok]; exact hY1⟩
  rw [hok] at HF1 ⊢
  clear h hok hfit hY1
  unfold rcCells at HB0 HF1 ⊢
  cases ok with
  | false =>
    go_enter Try.func21, Try.ntmps21
    go_wp2_with fail
    refine (HF1.out _ HB0.out.low).mono ?_
    rintro e w1 ⟨da1, dc1, sa1, sc1, ta1, tc1, rfl, hb1, _⟩
    unfold rcCells
    go_upto_region 2 with (fail)
    obtain ⟨w2, hw2⟩ : ∃ w2, w2 = w1.alloc (.cells #[.int .i64 Y1.letters, .slice da1 Y1.defs.length dc1, .slice sa1 Y1.subst.length sc1, .int .i64 Y1.beg, .int .i64 Y1.fin, .int .i64 Y1.front, .int .i64 Y1.back, .bool Y1.banded, .int .i64 Y1.lo, .int .i64 Y1.hi, .slice ta1 Y1.states.length tc1] 26) := ⟨_, rfl⟩
    rw [← hw2]
    have HB1 : Hid (D5 w #[.int .i64 x.letters, .slice da dn dc, .slice sa sn sc, .int .i64 x.beg, .int .i64 x.fin, .int .i64 x.front, .int .i64 x.back, .bool x.banded, .int .i64 x.lo, .int .i64 x.hi, .slice ta tn tc] w2) := by
      have hd : D5 w #[.int .i64 x.letters, .slice da dn dc, .slice sa sn sc, .int .i64 x.beg, .int .i64 x.fin, .int .i64 x.front, .int .i64 x.back, .bool x.banded, .int .i64 x.lo, .int .i64 x.hi, .slice ta tn tc] w1 := HB0.out.next hb1 (by simp)
      exact hd.next (B := w1.heap.size) (by rw [hw2]; exact (Below.refl _ _).alloc (Nat.le_refl _) _) hd.sz
    clear hb1 HB0 HF1 hw2
    have r0 : w2.cell? ⟨w.heap.size + 1, 0, none⟩ = some (.int .i64 0) := blk HB1.out.res rfl
    have r1 : w2.cell? ⟨w.heap.size + 1, 1, none⟩ = some (.slice none 0 0) := blk HB1.out.res rfl
    have r2 : w2.cell? ⟨w.heap.size + 1, 2, none⟩ = some (.slice none 0 0) := blk HB1.out.res rfl
    have r3 : w2.cell? ⟨w.heap.size + 1, 3, none⟩ = some (.int .i64 0) := blk HB1.out.res rfl
    have r4 : w2.cell? ⟨w.heap.size + 1, 4, none⟩ = some (.int .i64 0) := blk HB1.out.res rfl
    have r5 : w2.cell? ⟨w.heap.size + 1, 5, none⟩ = some (.int .i64 0) := blk HB1.out.res rfl
    have r6 : w2.cell? ⟨w.heap.size + 1, 6, none⟩ = some (.int .i64 0) := blk HB1.out.res rfl
    have r7 : w2.cell? ⟨w.heap.size + 1, 7, none⟩ = some (.bool false) := blk HB1.out.res rfl
    have r8 : w2.cell? ⟨w.heap.size + 1, 8, none⟩ = some (.int .i64 0) := blk HB1.out.res rfl
    have r9 : w2.cell? ⟨w.heap.size + 1, 9, none⟩ = some (.int .i64 0) := blk HB1.out.res rfl
    have r10 : w2.cell? ⟨w.heap.size + 1, 10, none⟩ = some (.slice none 0 0) := blk HB1.out.res rfl
    have rf : ∀ i, w2.frozen? ⟨w.heap.size + 1, i, none⟩ = false := fun i => frozen_of_row w2 _ i _ _ HB1.out.res
    simp only [okE]
    go_wp2
    refine bodyPost_ret (v := .tuple #[.agg #[.int .i64 0, .slice none 0 0, .slice none 0 0, .int .i64 0, .int .i64 0, .int .i64 0, .int .i64 0, .bool false, .int .i64 0, .int .i64 0, .slice none 0 0], .int .i64 120]) ?_ rfl ?_
    · simp only [results, hres]
      go_simp
    · exact ⟨none, 0, none, 0, none, 0, rfl, below_r HB1.out.low _ _ _ _ _ _ _ _ _ _ _, zero_rcO _ _⟩
  | true =>
    obtain ⟨Y2, hY2⟩ : ∃ Y2, al2 x = Y2 := ⟨_, rfl⟩
    obtain ⟨Y3, hY3⟩ : ∃ Y3, al3 x = Y3 := ⟨_, rfl⟩
    obtain ⟨Y4, hY4⟩ : ∃ Y4, al4 x = Y4 := ⟨_, rfl⟩
    have hY1 : al1 x = Y1 := HOK.out.2.2
    obtain ⟨f1, f2, f3, f4⟩ := al_fits HOK.out.1 HOK.out.2.1
    obtain ⟨r1, r2, r3, _⟩ := al_right HOK.out.1
    have HF2 : Hid (∀ W da1 dc1 sa1 sc1 ta1 tc1, RcAt W Y1 da1 Y1.defs.length sa1 Y1.subst.length ta1 Y1.states.length → Calls Try.prog 15 #[.agg (rcCells Y1 da1 Y1.defs.length dc1 sa1 Y1.subst.length sc1 ta1 Y1.states.length tc1)] W fun e w' => UPost Y2 0 W e w') := fun W da1 dc1 sa1 sc1 ta1 tc1 hW => by
      have := refPrune_calls Y1 da1 Y1.defs.length dc1 sa1 Y1.subst.length sc1 ta1 Y1.states.length tc1 W hW
      rw [← hY1] at this ⊢
      rw [r1] at this
      rw [← hY2]
      exact this
    have HF3 : Hid (∀ W da1 dc1 sa1 sc1 ta1 tc1, RcAt W Y2 da1 Y2.defs.length sa1 Y2.subst.length ta1 Y2.states.length → Calls Try.prog 17 #[.agg (rcCells Y2 da1 Y2.defs.length dc1 sa1 Y2.subst.length sc1 ta1 Y2.states.length tc1)] W fun e w' => UPost Y3 0 W e w') := fun W da1 dc1 sa1 sc1 ta1 tc1 hW => by
      have := refDrop_calls Y2 da1 Y2.defs.length dc1 sa1 Y2.subst.length sc1 ta1 Y2.states.length tc1 W hW
      rw [← hY2] at this ⊢
      rw [r2] at this
      rw [← hY3]
      exact this
    have HF4 : Hid (∀ W da1 dc1 sa1 sc1 ta1 tc1, RcAt W Y3 da1 Y3.defs.length sa1 Y3.subst.length ta1 Y3.states.length → Calls Try.prog 19 #[.agg (rcCells Y3 da1 Y3.defs.length dc1 sa1 Y3.subst.length sc1 ta1 Y3.states.length tc1)] W fun e w' => UPost Y4 0 W e w') := fun W da1 dc1 sa1 sc1 ta1 tc1 hW => by
      have := refClamp_calls Y3 da1 Y3.defs.length dc1 sa1 Y3.subst.length sc1 ta1 Y3.states.length tc1 W hW
      rw [← hY3] at this ⊢
      rw [r3] at this
      rw [← hY4]
      exact this
    have HFit : Hid (Fit Y1 ∧ Fit Y2 ∧ Fit Y3) := ⟨by rw [← hY1]; exact f1, by rw [← hY2]; exact f2, by rw [← hY3]; exact f3⟩
    have HY4 : Hid (okX true (al4 x) = Y4) := hY4
    clear hY1 hY2 hY3 hY4 f1 f2 f3 f4 r1 r2 r3
    unfold rcCells at HF2 HF3 HF4
    go_enter Try.func21, Try.ntmps21
    go_wp2_with fail
    refine (HF1.out _ HB0.out.low).mono ?_
    rintro e w1 ⟨da1, dc1, sa1, sc1, ta1, tc1, rfl, hb1, ho1⟩
    unfold rcCells
    simp only [okE]
    go_upto_region 2 with (fail)
    obtain ⟨v1, hv1⟩ : ∃ v1, v1 = w1.alloc (.cells #[.int .i64 Y1.letters, .slice da1 Y1.defs.length dc1, .slice sa1 Y1.subst.length sc1, .int .i64 Y1.beg, .int .i64 Y1.fin, .int .i64 Y1.front, .int .i64 Y1.back, .bool Y1.banded, .int .i64 Y1.lo, .int .i64 Y1.hi, .slice ta1 Y1.states.length tc1] 26) := ⟨_, rfl⟩
    rw [← hv1]
    have HB1 : Hid (D5 w #[.int .i64 x.letters, .slice da dn dc, .slice sa sn sc, .int .i64 x.beg, .int .i64 x.fin, .int .i64 x.front, .int .i64 x.back, .bool x.banded, .int .i64 x.lo, .int .i64 x.hi, .slice ta tn tc] v1 ∧ Bx v1 w1.heap.size Y1 da1 dc1 sa1 sc1 ta1 tc1) := by
      have hd : D5 w #[.int .i64 x.letters, .slice da dn dc, .slice sa sn sc, .int .i64 x.beg, .int .i64 x.fin, .int .i64 x.front, .int .i64 x.back, .bool x.banded, .int .i64 x.lo, .int .i64 x.hi, .slice ta tn tc] w1 := HB0.out.next hb1 (by simp)
      refine ⟨hd.next (B := w1.heap.size) (by rw [hv1]; exact (Below.refl _ _).alloc (Nat.le_refl _) _) hd.sz, ?_⟩
      rw [hv1]
      exact Bx.new ho1 HFit.out.1
    obtain ⟨g1, hg1⟩ : ∃ g1, w1.heap.size = g1 := ⟨_, rfl⟩
    rw [hg1] at HB1 ⊢
    clear hb1 ho1 hv1 hg1 HB0 HF1
    have c0 : v1.cell? ⟨g1, 0, none⟩ = some (.int .i64 Y1.letters) := blk HB1.out.2.box rfl
    have c1 : v1.cell? ⟨g1, 1, none⟩ = some (.slice da1 Y1.defs.length dc1) := blk HB1.out.2.box rfl
    have c2 : v1.cell? ⟨g1, 2, none⟩ = some (.slice sa1 Y1.subst.length sc1) := blk HB1.out.2.box rfl
    have c3 : v1.cell? ⟨g1, 3, none⟩ = some (.int .i64 Y1.beg) := blk HB1.out.2.box rfl
    have c4 : v1.cell? ⟨g1, 4, none⟩ = some (.int .i64 Y1.fin) := blk HB1.out.2.box rfl
    have c5 : v1.cell? ⟨g1, 5, none⟩ = some (.int .i64 Y1.front) := blk HB1.out.2.box rfl
    have c6 : v1.cell? ⟨g1, 6, none⟩ = some (.int .i64 Y1.back) := blk HB1.out.2.box rfl
    have c7 : v1.cell? ⟨g1, 7, none⟩ = some (.bool Y1.banded) := blk HB1.out.2.box rfl
    have c8 : v1.cell? ⟨g1, 8, none⟩ = some (.int .i64 Y1.lo) := blk HB1.out.2.box rfl
    have c9 : v1.cell? ⟨g1, 9, none⟩ = some (.int .i64 Y1.hi) := blk HB1.out.2.box rfl
    have c10 : v1.cell? ⟨g1, 10, none⟩ = some (.slice ta1 Y1.states.length tc1) := blk HB1.out.2.box rfl
    go_wp2_with fail
    refine (HF2.out v1 _ _ _ _ _ _ HB1.out.2.at').mono ?_
    rintro e w2 ⟨da2, dc2, sa2, sc2, ta2, tc2, rfl, hb2, ho2⟩
    unfold rcCells
    go_upto_region 5 with (fail)
    obtain ⟨v2, hv2⟩ : ∃ v2, v2 = w2.alloc (.cells #[.int .i64 Y2.letters, .slice da2 Y2.defs.length dc2, .slice sa2 Y2.subst.length sc2, .int .i64 Y2.beg, .int .i64 Y2.fin, .int .i64 Y2.front, .int .i64 Y2.back, .bool Y2.banded, .int .i64 Y2.lo, .int .i64 Y2.hi, .slice ta2 Y2.states.length tc2] 26) := ⟨_, rfl⟩
    rw [← hv2]
    have HB2 : Hid (D5 w #[.int .i64 x.letters, .slice da dn dc, .slice sa sn sc, .int .i64 x.beg, .int .i64 x.fin, .int .i64 x.front, .int .i64 x.back, .bool x.banded, .int .i64 x.lo, .int .i64 x.hi, .slice ta tn tc] v2 ∧ Bx v2 w2.heap.size Y2 da2 dc2 sa2 sc2 ta2 tc2) := by
      have hd : D5 w #[.int .i64 x.letters, .slice da dn dc, .slice sa sn sc, .int .i64 x.beg, .int .i64 x.fin, .int .i64 x.front, .int .i64 x.back, .bool x.banded, .int .i64 x.lo, .int .i64 x.hi, .slice ta tn tc] w2 := HB1.out.1.next hb2 HB1.out.1.sz
      refine ⟨hd.next (B := w2.heap.size) (by rw [hv2]; exact (Below.refl _ _).alloc (Nat.le_refl _) _) hd.sz, ?_⟩
      rw [hv2]
      exact Bx.new ho2 HFit.out.2.1
    obtain ⟨g2, hg2⟩ : ∃ g2, w2.heap.size = g2 := ⟨_, rfl⟩
    rw [hg2] at HB2 ⊢
    clear hb2 ho2 hv2 hg2 HB1 HF2 c0 c1 c2 c3 c4 c5 c6 c7 c8 c9 c10
    have c0 : v2.cell? ⟨g2, 0, none⟩ = some (.int .i64 Y2.letters) := blk HB2.out.2.box rfl
    have c1 : v2.cell? ⟨g2, 1, none⟩ = some (.slice da2 Y2.defs.length dc2) := blk HB2.out.2.box rfl
    have c2 : v2.cell? ⟨g2, 2, none⟩ = some (.slice sa2 Y2.subst.length sc2) := blk HB2.out.2.box rfl
    have c3 : v2.cell? ⟨g2, 3, none⟩ = some (.int .i64 Y2.beg) := blk HB2.out.2.box rfl
    have c4 : v2.cell? ⟨g2, 4, none⟩ = some (.int .i64 Y2.fin) := blk HB2.out.2.box rfl
    have c5 : v2.cell? ⟨g2, 5, none⟩ = some (.int .i64 Y2.front) := blk HB2.out.2.box rfl
    have c6 : v2.cell? ⟨g2, 6, none⟩ = some (.int .i64 Y2.back) := blk HB2.out.2.box rfl
    have c7 : v2.cell? ⟨g2, 7, none⟩ = some (.bool Y2.banded) := blk HB2.out.2.box rfl
    have c8 : v2.cell? ⟨g2, 8, none⟩ = some (.int .i64 Y2.lo) := blk HB2.out.2.box rfl
    have c9 : v2.cell? ⟨g2, 9, none⟩ = some (.int .i64 Y2.hi) := blk HB2.out.2.box rfl
    have c10 : v2.cell? ⟨g2, 10, none⟩ = some (.slice ta2 Y2.states.length tc2) := blk HB2.out.2.box rfl
    go_wp2_with fail
    refine (HF3.out v2 _ _ _ _ _ _ HB2.out.2.at').mono ?_
    rintro e w3 ⟨da3, dc3, sa3, sc3, ta3, tc3, rfl, hb3, ho3⟩
    unfold rcCells
    go_upto_region 6 with (fail)
    obtain ⟨v3, hv3⟩ : ∃ v3, v3 = w3.alloc (.cells #[.int .i64 Y3.letters, .slice da3 Y3.defs.length dc3, .slice sa3 Y3.subst.length sc3, .int .i64 Y3.beg, .int .i64 Y3.fin, .int .i64 Y3.front, .int .i64 Y3.back, .bool Y3.banded, .int .i64 Y3.lo, .int .i64 Y3.hi, .slice ta3 Y3.states.length tc3] 26) := ⟨_, rfl⟩
    rw [← hv3]
    have HB3 : Hid (D5 w #[.int .i64 x.letters, .slice da dn dc, .slice sa sn sc, .int .i64 x.beg, .int .i64 x.fin, .int .i64 x.front, .int .i64 x.back, .bool x.banded, .int .i64 x.lo, .int .i64 x.hi, .slice ta tn tc] v3 ∧ Bx v3 w3.heap.size Y3 da3 dc3 sa3 sc3 ta3 tc3) := by
      have hd : D5 w #[.int .i64 x.letters, .slice da dn dc, .slice sa sn sc, .int .i64 x.beg, .int .i64 x.fin, .int .i64 x.front, .int .i64 x.back, .bool x.banded, .int .i64 x.lo, .int .i64 x.hi, .slice ta tn tc] w3 := HB2.out.1.next hb3 HB2.out.1.sz
      refine ⟨hd.next (B := w3.heap.size) (by rw [hv3]; exact (Below.refl _ _).alloc (Nat.le_refl _) _) hd.sz, ?_⟩
      rw [hv3]
      exact Bx.new ho3 HFit.out.2.2
    obtain ⟨g3, hg3⟩ : ∃ g3, w3.heap.size = g3 := ⟨_, rfl⟩
    rw [hg3] at HB3 ⊢
    clear hb3 ho3 hv3 hg3 HB2 HF3 c0 c1 c2 c3 c4 c5 c6 c7 c8 c9 c10
    have c0 : v3.cell? ⟨g3, 0, none⟩ = some (.int .i64 Y3.letters) := blk HB3.out.2.box rfl
    have c1 : v3.cell? ⟨g3, 1, none⟩ = some (.slice da3 Y3.defs.length dc3) := blk HB3.out.2.box rfl
    have c2 : v3.cell? ⟨g3, 2, none⟩ = some (.slice sa3 Y3.subst.length sc3) := blk HB3.out.2.box rfl
    have c3 : v3.cell? ⟨g3, 3, none⟩ = some (.int .i64 Y3.beg) := blk HB3.out.2.box rfl
    have c4 : v3.cell? ⟨g3, 4, none⟩ = some (.int .i64 Y3.fin) := blk HB3.out.2.box rfl
    have c5 : v3.cell? ⟨g3, 5, none⟩ = some (.int .i64 Y3.front) := blk HB3.out.2.box rfl
    have c6 : v3.cell? ⟨g3, 6, none⟩ = some (.int .i64 Y3.back) := blk HB3.out.2.box rfl
    have c7 : v3.cell? ⟨g3, 7, none⟩ = some (.bool Y3.banded) := blk HB3.out.2.box rfl
    have c8 : v3.cell? ⟨g3, 8, none⟩ = some (.int .i64 Y3.lo) := blk HB3.out.2.box rfl
    have c9 : v3.cell? ⟨g3, 9, none⟩ = some (.int .i64 Y3.hi) := blk HB3.out.2.box rfl
    have c10 : v3.cell? ⟨g3, 10, none⟩ = some (.slice ta3 Y3.states.length tc3) := blk HB3.out.2.box rfl
    go_wp2_with fail
    refine (HF4.out v3 _ _ _ _ _ _ HB3.out.2.at').mono ?_
    rintro e w4 ⟨da4, dc4, sa4, sc4, ta4, tc4, rfl, hb4, ho4⟩
    unfold rcCells
    have HB4 : Hid (D5 w #[.int .i64 x.letters, .slice da dn dc, .slice sa sn sc, .int .i64 x.beg, .int .i64 x.fin, .int .i64 x.front, .int .i64 x.back, .bool x.banded, .int .i64 x.lo, .int .i64 x.hi, .slice ta tn tc] w4 ∧ RcO w4 w.heap.size Y4 da4 dc4 sa4 sc4 ta4 tc4) := ⟨HB3.out.1.next hb4 HB3.out.1.sz, ho4.low HB3.out.1.low.size⟩
    clear hb4 ho4 HB3 HF4 c0 c1 c2 c3 c4 c5 c6 c7 c8 c9 c10
    have r0 : w4.cell? ⟨w.heap.size + 1, 0, none⟩ = some (.int .i64 0) := blk HB4.out.1.res rfl
    have r1 : w4.cell? ⟨w.heap.size + 1, 1, none⟩ = some (.slice none 0 0) := blk HB4.out.1.res rfl
    have r2 : w4.cell? ⟨w.heap.size + 1, 2, none⟩ = some (.slice none 0 0) := blk HB4.out.1.res rfl
    have r3 : w4.cell? ⟨w.heap.size + 1, 3, none⟩ = some (.int .i64 0) := blk HB4.out.1.res rfl
    have r4 : w4.cell? ⟨w.heap.size + 1, 4, none⟩ = some (.int .i64 0) := blk HB4.out.1.res rfl
    have r5 : w4.cell? ⟨w.heap.size + 1, 5, none⟩ = some (.int .i64 0) := blk HB4.out.1.res rfl
    have r6 : w4.cell? ⟨w.heap.size + 1, 6, none⟩ = some (.int .i64 0) := blk HB4.out.1.res rfl
    have r7 : w4.cell? ⟨w.heap.size + 1, 7, none⟩ = some (.bool false) := blk HB4.out.1.res rfl
    have r8 : w4.cell? ⟨w.heap.size + 1, 8, none⟩ = some (.int .i64 0) := blk HB4.out.1.res rfl
    have r9 : w4.cell? ⟨w.heap.size + 1, 9, none⟩ = some (.int .i64 0) := blk HB4.out.1.res rfl
    have r10 : w4.cell? ⟨w.heap.size + 1, 10, none⟩ = some (.slice none 0 0) := blk HB4.out.1.res rfl
    have rf : ∀ i, w4.frozen? ⟨w.heap.size + 1, i, none⟩ = false := fun i => frozen_of_row w4 _ i _ _ HB4.out.1.res
    go_wp2
    refine bodyPost_ret (v := .tuple #[.agg #[.int .i64 Y4.letters, .slice da4 Y4.defs.length dc4, .slice sa4 Y4.subst.length sc4, .int .i64 Y4.beg, .int .i64 Y4.fin, .int .i64 Y4.front, .int .i64 Y4.back, .bool Y4.banded, .int .i64 Y4.lo, .int .i64 Y4.hi, .slice ta4 Y4.states.length tc4], .int .i64 0]) ?_ rfl ?_
    · simp only [results, hres]
      go_simp
    · rw [HY4.out]
      exact ⟨da4, dc4, sa4, sc4, ta4, tc4, rfl, below_r HB4.out.1.low _ _ _ _ _ _ _ _ _ _ _, HB4.out.2.by HB4.out.1.res (grown_r _ _ _ _ _ _ _ _ _ _ _)⟩
end Go.Proofs.Ytolehoibpnenlaa
namespace Go.Proofs.Ytolehoibpnenlaa
open Go.RowKit Go.Deep Go.Maps

set_option maxRecDepth 20000 in
set_option maxHeartbeats 4000000 in
theorem walkAll (x : Rc) (da : Option Addr) (dn dc : Nat) (sa : Option Addr) (sn sc : Nat) (ta : Option Addr) (tn tc : Nat) (w : World) (h : RcAt w x da dn sa sn ta tn) :
    Calls Try.prog 7 #[.agg (rcCells x da dn dc sa sn sc ta tn tc)] w fun e w' => e = .returned (.bool true) ∧ Below w.heap.size w w' := by
  have HB0 : Hid (Rb w (rcCells x da dn dc sa sn sc ta tn tc) (w.alloc (.cells (rcCells x da dn dc sa sn sc ta tn tc) 26))) := Rb.start _ _
  have hpa : ∀ p ∈ [foldP, pruneP, drpP, clampP], PassOk p := fun p hp => by
    simp only [List.mem_cons, List.not_mem_nil, or_false] at hp
    rcases hp with rfl | rfl | rfl | rfl
    · exact foldP_ok
    · exact pruneP_ok
    · exact drpP_ok
    · exact clampP_ok
  obtain ⟨Y0, hY0⟩ : ∃ Y0, okX (rightR x) (runP [foldP, pruneP, drpP, clampP] x (valsB x.defs).1).1 = Y0 := ⟨_, rfl⟩
  obtain ⟨Y1, hY1⟩ : ∃ Y1, okX (rightR x) (al1 x) = Y1 := ⟨_, rfl⟩
  obtain ⟨er, her⟩ : ∃ er, okE (rightR x) = er := ⟨_, rfl⟩
  have HA : Hid (∀ W, Below w.heap.size w W → Calls Try.prog 20 #[.agg (rcCells x da dn dc sa sn sc ta tn tc)] W fun e w' => UPost Y0 er W e w') := fun W hW => by
    rw [← hY0, ← her]
    exact (allF_any hpa da dn dc sa sn sc ta tn tc W (h.below hW)).mono fun _ _ hp => pass_u hp
  have HF1 : Hid (∀ W, Below w.heap.size w W → Calls Try.prog 10 #[.agg (rcCells x da dn dc sa sn sc ta tn tc)] W fun e w' => UPost Y1 er W e w') := fun W hW => by
    rw [← hY1, ← her]
    exact (foldF_any (.inl foldP_ok) da dn dc sa sn sc ta tn tc W (h.below hW)).mono fun _ _ hp => pass_u hp
  have HRf : Hid (∀ W, Below w.heap.size w W → Calls Try.prog 21 #[.agg (rcCells x da dn dc sa sn sc ta tn tc)] W fun e w' => UPost (okX (rightR x) (al4 x)) er W e w') := fun W hW => by
    rw [← her]
    exact refAll_calls x da dn dc sa sn sc ta tn tc W (h.below hW)
  have hfit := h.defs.fits
  obtain ⟨ok, hok⟩ : ∃ ok, rightR x = ok := ⟨_, rfl⟩
  have HOK : Hid (rightR x = ok ∧ (∀ d ∈ x.defs, InR d.num) ∧ okX ok (al1 x) = Y1 ∧ okX ok (runP [foldP, pruneP, drpP, clampP] x (valsB x.defs).1).1 = Y0 ∧ okE ok = er) := ⟨hok, hfit, by rw [← hok]; exact hY1, by rw [← hok]; exact hY0, by rw [← hok]; exact her⟩
  rw [hok] at HRf
  clear h hok hfit hY1 hY0 her hpa
  unfold rcCells at HB0 HA HF1 HRf ⊢
  cases ok with
  | false =>
    obtain rfl : 120 = er := HOK.out.2.2.2.2
    go_enter Try.func7, Try.ntmps7
    go_wp2_with fail
    refine (awake_calls _).mono ?_
    rintro e w1 ⟨rfl, hb1⟩
    have HB1 : Hid (Rb w #[.int .i64 x.letters, .slice da dn dc, .slice sa sn sc, .int .i64 x.beg, .int .i64 x.fin, .int .i64 x.front, .int .i64 x.back, .bool x.banded, .int .i64 x.lo, .int .i64 x.hi, .slice ta tn tc] w1) := HB0.out.next hb1
    clear hb1 HB0
    have c0 : w1.cell? ⟨w.heap.size, 0, none⟩ = some (.int .i64 x.letters) := blk HB1.out.box rfl
    have c1 : w1.cell? ⟨w.heap.size, 1, none⟩ = some (.slice da dn dc) := blk HB1.out.box rfl
    have c2 : w1.cell? ⟨w.heap.size, 2, none⟩ = some (.slice sa sn sc) := blk HB1.out.box rfl
    have c3 : w1.cell? ⟨w.heap.size, 3, none⟩ = some (.int .i64 x.beg) := blk HB1.out.box rfl
    have c4 : w1.cell? ⟨w.heap.size, 4, none⟩ = some (.int .i64 x.fin) := blk HB1.out.box rfl
    have c5 : w1.cell? ⟨w.heap.size, 5, none⟩ = some (.int .i64 x.front) := blk HB1.out.box rfl
    have c6 : w1.cell? ⟨w.heap.size, 6, none⟩ = some (.int .i64 x.back) := blk HB1.out.box rfl
    have c7 : w1.cell? ⟨w.heap.size, 7, none⟩ = some (.bool x.banded) := blk HB1.out.box rfl
    have c8 : w1.cell? ⟨w.heap.size, 8, none⟩ = some (.int .i64 x.lo) := blk HB1.out.box rfl
    have c9 : w1.cell? ⟨w.heap.size, 9, none⟩ = some (.int .i64 x.hi) := blk HB1.out.box rfl
    have c10 : w1.cell? ⟨w.heap.size, 10, none⟩ = some (.slice ta tn tc) := blk HB1.out.box rfl
    go_wp2_with fail
    refine (HA.out w1 HB1.out.low).mono ?_
    rintro e w2 ⟨daA, dcA, saA, scA, taA, tcA, rfl, hb2, _⟩
    unfold rcCells
    go_upto_region 3 with (fail)
    obtain ⟨v2, hv2⟩ : ∃ v2, v2 = w2.alloc (.cells #[.int .i64 Y0.letters, .slice daA Y0.defs.length dcA, .slice saA Y0.subst.length scA, .int .i64 Y0.beg, .int .i64 Y0.fin, .int .i64 Y0.front, .int .i64 Y0.back, .bool Y0.banded, .int .i64 Y0.lo, .int .i64 Y0.hi, .slice taA Y0.states.length tcA] 26) := ⟨_, rfl⟩
    rw [← hv2]
    have HB2 : Hid (Rb w #[.int .i64 x.letters, .slice da dn dc, .slice sa sn sc, .int .i64 x.beg, .int .i64 x.fin, .int .i64 x.front, .int .i64 x.back, .bool x.banded, .int .i64 x.lo, .int .i64 x.hi, .slice ta tn tc] v2) := (HB1.out.next hb2).next (by rw [hv2]; exact (Below.refl _ _).alloc (Nat.le_refl _) _)
    clear hb2 hv2 HB1 HA c0 c1 c2 c3 c4 c5 c6 c7 c8 c9 c10
    have c0 : v2.cell? ⟨w.heap.size, 0, none⟩ = some (.int .i64 x.letters) := blk HB2.out.box rfl
    have c1 : v2.cell? ⟨w.heap.size, 1, none⟩ = some (.slice da dn dc) := blk HB2.out.box rfl
    have c2 : v2.cell? ⟨w.heap.size, 2, none⟩ = some (.slice sa sn sc) := blk HB2.out.box rfl
    have c3 : v2.cell? ⟨w.heap.size, 3, none⟩ = some (.int .i64 x.beg) := blk HB2.out.box rfl
    have c4 : v2.cell? ⟨w.heap.size, 4, none⟩ = some (.int .i64 x.fin) := blk HB2.out.box rfl
    have c5 : v2.cell? ⟨w.heap.size, 5, none⟩ = some (.int .i64 x.front) := blk HB2.out.box rfl
    have c6 : v2.cell? ⟨w.heap.size, 6, none⟩ = some (.int .i64 x.back) := blk HB2.out.box rfl
    have c7 : v2.cell? ⟨w.heap.size, 7, none⟩ = some (.bool x.banded) := blk HB2.out.box rfl
    have c8 : v2.cell? ⟨w.heap.size, 8, none⟩ = some (.int .i64 x.lo) := blk HB2.out.box rfl
    have c9 : v2.cell? ⟨w.heap.size, 9, none⟩ = some (.int .i64 x.hi) := blk HB2.out.box rfl
    have c10 : v2.cell? ⟨w.heap.size, 10, none⟩ = some (.slice ta tn tc) := blk HB2.out.box rfl
    go_wp2_with fail
    refine (HF1.out v2 HB2.out.low).mono ?_
    rintro e w3 ⟨daB, dcB, saB, scB, taB, tcB, rfl, hb3, _⟩
    unfold rcCells
    have HB3 : Hid (Below w.heap.size w (w3.alloc (.cells #[.int .i64 Y1.letters, .slice daB Y1.defs.length dcB, .slice saB Y1.subst.length scB, .int .i64 Y1.beg, .int .i64 Y1.fin, .int .i64 Y1.front, .int .i64 Y1.back, .bool Y1.banded, .int .i64 Y1.lo, .int .i64 Y1.hi, .slice taB Y1.states.length tcB] 26))) := (HB2.out.next hb3).low.alloc (HB2.out.next hb3).low.size _
    clear hb3 HB2 HF1 c0 c1 c2 c3 c4 c5 c6 c7 c8 c9 c10
    go_wp2
    go_ret
    exact ⟨rfl, HB3.out⟩
  | true =>
    obtain rfl : 0 = er := HOK.out.2.2.2.2
    obtain ⟨Y2, hY2⟩ : ∃ Y2, al2 x = Y2 := ⟨_, rfl⟩
    obtain ⟨Y3, hY3⟩ : ∃ Y3, al3 x = Y3 := ⟨_, rfl⟩
    have hY0 : al4 x = Y0 := by rw [← HOK.out.2.2.2.1]; exact (al_run HOK.out.1).symm
    have hY1 : al1 x = Y1 := HOK.out.2.2.1
    obtain ⟨f1, f2, f3, f4⟩ := al_fits HOK.out.1 HOK.out.2.1
    obtain ⟨r1, r2, r3, _⟩ := al_right HOK.out.1
    have HF2 : Hid (∀ W da1 dc1 sa1 sc1 ta1 tc1, RcAt W Y1 da1 Y1.defs.length sa1 Y1.subst.length ta1 Y1.states.length → Calls Try.prog 14 #[.agg (rcCells Y1 da1 Y1.defs.length dc1 sa1 Y1.subst.length sc1 ta1 Y1.states.length tc1)] W fun e w' => UPost Y2 0 W e w') := fun W da1 dc1 sa1 sc1 ta1 tc1 hW => by
      have := (pruneF_any (x := Y1) (.inl pruneP_ok) da1 Y1.defs.length dc1 sa1 Y1.subst.length sc1 ta1 Y1.states.length tc1 W hW).mono fun _ _ hp => pass_u hp
      rw [← hY1] at this ⊢
      rw [r1] at this
      rw [← hY2]
      exact this
    have HF3 : Hid (∀ W da1 dc1 sa1 sc1 ta1 tc1, RcAt W Y2 da1 Y2.defs.length sa1 Y2.subst.length ta1 Y2.states.length → Calls Try.prog 16 #[.agg (rcCells Y2 da1 Y2.defs.length dc1 sa1 Y2.subst.length sc1 ta1 Y2.states.length tc1)] W fun e w' => UPost Y3 0 W e w') := fun W da1 dc1 sa1 sc1 ta1 tc1 hW => by
      have := (dropF_any (x := Y2) (.inl drpP_ok) da1 Y2.defs.length dc1 sa1 Y2.subst.length sc1 ta1 Y2.states.length tc1 W hW).mono fun _ _ hp => pass_u hp
      rw [← hY2] at this ⊢
      rw [r2] at this
      rw [← hY3]
      exact this
    have HF4 : Hid (∀ W da1 dc1 sa1 sc1 ta1 tc1, RcAt W Y3 da1 Y3.defs.length sa1 Y3.subst.length ta1 Y3.states.length → Calls Try.prog 18 #[.agg (rcCells Y3 da1 Y3.defs.length dc1 sa1 Y3.subst.length sc1 ta1 Y3.states.length tc1)] W fun e w' => UPost Y0 0 W e w') := fun W da1 dc1 sa1 sc1 ta1 tc1 hW => by
      have := (clampF_any (x := Y3) (.inl clampP_ok) da1 Y3.defs.length dc1 sa1 Y3.subst.length sc1 ta1 Y3.states.length tc1 W hW).mono fun _ _ hp => pass_u hp
      rw [← hY3] at this ⊢
      rw [r3] at this
      rw [← hY0]
      exact this
    have HFit : Hid (Fit Y0 ∧ Fit Y1 ∧ Fit Y2 ∧ Fit Y3) := ⟨by rw [← hY0]; exact f4, by rw [← hY1]; exact f1, by rw [← hY2]; exact f2, by rw [← hY3]; exact f3⟩
    have HRf2 : Hid (∀ W, Below w.heap.size w W → Calls Try.prog 21 #[.agg #[.int .i64 x.letters, .slice da dn dc, .slice sa sn sc, .int .i64 x.beg, .int .i64 x.fin, .int .i64 x.front, .int .i64 x.back, .bool x.banded, .int .i64 x.lo, .int .i64 x.hi, .slice ta tn tc]] W fun e w' => UPost Y0 0 W e w') := fun W hW => by
      have := HRf.out W hW
      rw [show okX true (al4 x) = Y0 from hY0] at this
      exact this
    clear hY0 hY1 hY2 hY3 f1 f2 f3 f4 r1 r2 r3 HRf
    unfold rcCells at HF2 HF3 HF4
    go_enter Try.func7, Try.ntmps7
    go_wp2_with fail
    refine (awake_calls _).mono ?_
    rintro e w1 ⟨rfl, hb1⟩
    have HB1 : Hid (Rb w #[.int .i64 x.letters, .slice da dn dc, .slice sa sn sc, .int .i64 x.beg, .int .i64 x.fin, .int .i64 x.front, .int .i64 x.back, .bool x.banded, .int .i64 x.lo, .int .i64 x.hi, .slice ta tn tc] w1) := HB0.out.next hb1
    clear hb1 HB0
    have c0 : w1.cell? ⟨w.heap.size, 0, none⟩ = some (.int .i64 x.letters) := blk HB1.out.box rfl
    have c1 : w1.cell? ⟨w.heap.size, 1, none⟩ = some (.slice da dn dc) := blk HB1.out.box rfl
    have c2 : w1.cell? ⟨w.heap.size, 2, none⟩ = some (.slice sa sn sc) := blk HB1.out.box rfl
    have c3 : w1.cell? ⟨w.heap.size, 3, none⟩ = some (.int .i64 x.beg) := blk HB1.out.box rfl
    have c4 : w1.cell? ⟨w.heap.size, 4, none⟩ = some (.int .i64 x.fin) := blk HB1.out.box rfl
    have c5 : w1.cell? ⟨w.heap.size, 5, none⟩ = some (.int .i64 x.front) := blk HB1.out.box rfl
    have c6 : w1.cell? ⟨w.heap.size, 6, none⟩ = some (.int .i64 x.back) := blk HB1.out.box rfl
    have c7 : w1.cell? ⟨w.heap.size, 7, none⟩ = some (.bool x.banded) := blk HB1.out.box rfl
    have c8 : w1.cell? ⟨w.heap.size, 8, none⟩ = some (.int .i64 x.lo) := blk HB1.out.box rfl
    have c9 : w1.cell? ⟨w.heap.size, 9, none⟩ = some (.int .i64 x.hi) := blk HB1.out.box rfl
    have c10 : w1.cell? ⟨w.heap.size, 10, none⟩ = some (.slice ta tn tc) := blk HB1.out.box rfl
    go_wp2_with fail
    refine (HA.out w1 HB1.out.low).mono ?_
    rintro e w2 ⟨daA, dcA, saA, scA, taA, tcA, rfl, hb, ho⟩
    unfold rcCells
    go_upto_region 3 with (fail)
    obtain ⟨v2, hv⟩ : ∃ v2, v2 = w2.alloc (.cells #[.int .i64 Y0.letters, .slice daA Y0.defs.length dcA, .slice saA Y0.subst.length scA, .int .i64 Y0.beg, .int .i64 Y0.fin, .int .i64 Y0.front, .int .i64 Y0.back, .bool Y0.banded, .int .i64 Y0.lo, .int .i64 Y0.hi, .slice taA Y0.states.length tcA] 26) := ⟨_, rfl⟩
    rw [← hv]
    obtain ⟨gA, hg⟩ : ∃ gA, w2.heap.size = gA := ⟨_, rfl⟩
    rw [hg]
    have HB2 : Hid (Rb w #[.int .i64 x.letters, .slice da dn dc, .slice sa sn sc, .int .i64 x.beg, .int .i64 x.fin, .int .i64 x.front, .int .i64 x.back, .bool x.banded, .int .i64 x.lo, .int .i64 x.hi, .slice ta tn tc] v2 ∧ Bx v2 gA Y0 daA dcA saA scA taA tcA) := by
      have hn : Below w2.heap.size w2 v2 := by rw [hv]; exact (Below.refl _ _).alloc (Nat.le_refl _) _
      exact ⟨(HB1.out.next hb).next hn, by rw [← hg, hv]; exact Bx.new ho HFit.out.1⟩
    clear hb ho hv hg HB1 c0 c1 c2 c3 c4 c5 c6 c7 c8 c9 c10
    have c0 : v2.cell? ⟨w.heap.size, 0, none⟩ = some (.int .i64 x.letters) := blk HB2.out.1.box rfl
    have c1 : v2.cell? ⟨w.heap.size, 1, none⟩ = some (.slice da dn dc) := blk HB2.out.1.box rfl
    have c2 : v2.cell? ⟨w.heap.size, 2, none⟩ = some (.slice sa sn sc) := blk HB2.out.1.box rfl
    have c3 : v2.cell? ⟨w.heap.size, 3, none⟩ = some (.int .i64 x.beg) := blk HB2.out.1.box rfl
    have c4 : v2.cell? ⟨w.heap.size, 4, none⟩ = some (.int .i64 x.fin) := blk HB2.out.1.box rfl
    have c5 : v2.cell? ⟨w.heap.size, 5, none⟩ = some (.int .i64 x.front) := blk HB2.out.1.box rfl
    have c6 : v2.cell? ⟨w.heap.size, 6, none⟩ = some (.int .i64 x.back) := blk HB2.out.1.box rfl
    have c7 : v2.cell? ⟨w.heap.size, 7, none⟩ = some (.bool x.banded) := blk HB2.out.1.box rfl
    have c8 : v2.cell? ⟨w.heap.size, 8, none⟩ = some (.int .i64 x.lo) := blk HB2.out.1.box rfl
    have c9 : v2.cell? ⟨w.heap.size, 9, none⟩ = some (.int .i64 x.hi) := blk HB2.out.1.box rfl
    have c10 : v2.cell? ⟨w.heap.size, 10, none⟩ = some (.slice ta tn tc) := blk HB2.out.1.box rfl
    go_wp2_with fail
    refine (HF1.out v2 HB2.out.1.low).mono ?_
    rintro e w3 ⟨daB, dcB, saB, scB, taB, tcB, rfl, hb, ho⟩
    unfold rcCells
    go_upto_region 4 with (fail)
    obtain ⟨v3, hv⟩ : ∃ v3, v3 = w3.alloc (.cells #[.int .i64 Y1.letters, .slice daB Y1.defs.length dcB, .slice saB Y1.subst.length scB, .int .i64 Y1.beg, .int .i64 Y1.fin, .int .i64 Y1.front, .int .i64 Y1.back, .bool Y1.banded, .int .i64 Y1.lo, .int .i64 Y1.hi, .slice taB Y1.states.length tcB] 26) := ⟨_, rfl⟩
    rw [← hv]
    obtain ⟨gB, hg⟩ : ∃ gB, w3.heap.size = gB := ⟨_, rfl⟩
    rw [hg]
    have HB3 : Hid (Rb w #[.int .i64 x.letters, .slice da dn dc, .slice sa sn sc, .int .i64 x.beg, .int .i64 x.fin, .int .i64 x.front, .int .i64 x.back, .bool x.banded, .int .i64 x.lo, .int .i64 x.hi, .slice ta tn tc] v3 ∧ Bx v3 gA Y0 daA dcA saA scA taA tcA ∧ Bx v3 gB Y1 daB dcB saB scB taB tcB) := by
      have hn : Below w3.heap.size w3 v3 := by rw [hv]; exact (Below.refl _ _).alloc (Nat.le_refl _) _
      exact ⟨(HB2.out.1.next hb).next hn, (HB2.out.2.next hb).next hn, by rw [← hg, hv]; exact Bx.new ho HFit.out.2.1⟩
    clear hb ho hv hg HB2 c0 c1 c2 c3 c4 c5 c6 c7 c8 c9 c10
    have c0 : v3.cell? ⟨gB, 0, none⟩ = some (.int .i64 Y1.letters) := blk HB3.out.2.2.box rfl
    have c1 : v3.cell? ⟨gB, 1, none⟩ = some (.slice daB Y1.defs.length dcB) := blk HB3.out.2.2.box rfl
    have c2 : v3.cell? ⟨gB, 2, none⟩ = some (.slice saB Y1.subst.length scB) := blk HB3.out.2.2.box rfl
    have c3 : v3.cell? ⟨gB, 3, none⟩ = some (.int .i64 Y1.beg) := blk HB3.out.2.2.box rfl
    have c4 : v3.cell? ⟨gB, 4, none⟩ = some (.int .i64 Y1.fin) := blk HB3.out.2.2.box rfl
    have c5 : v3.cell? ⟨gB, 5, none⟩ = some (.int .i64 Y1.front) := blk HB3.out.2.2.box rfl
    have c6 : v3.cell? ⟨gB, 6, none⟩ = some (.int .i64 Y1.back) := blk HB3.out.2.2.box rfl
    have c7 : v3.cell? ⟨gB, 7, none⟩ = some (.bool Y1.banded) := blk HB3.out.2.2.box rfl
    have c8 : v3.cell? ⟨gB, 8, none⟩ = some (.int .i64 Y1.lo) := blk HB3.out.2.2.box rfl
    have c9 : v3.cell? ⟨gB, 9, none⟩ = some (.int .i64 Y1.hi) := blk HB3.out.2.2.box rfl
    have c10 : v3.cell? ⟨gB, 10, none⟩ = some (.slice taB Y1.states.length tcB) := blk HB3.out.2.2.box rfl
    go_wp2_with fail
    refine (HF2.out v3 _ _ _ _ _ _ HB3.out.2.2.at').mono ?_
    rintro e w4 ⟨daC, dcC, saC, scC, taC, tcC, rfl, hb, ho⟩
    unfold rcCells
    go_upto_region 7 with (fail)
    obtain ⟨v4, hv⟩ : ∃ v4, v4 = w4.alloc (.cells #[.int .i64 Y2.letters, .slice daC Y2.defs.length dcC, .slice saC Y2.subst.length scC, .int .i64 Y2.beg, .int .i64 Y2.fin, .int .i64 Y2.front, .int .i64 Y2.back, .bool Y2.banded, .int .i64 Y2.lo, .int .i64 Y2.hi, .slice taC Y2.states.length tcC] 26) := ⟨_, rfl⟩
    rw [← hv]
    obtain ⟨gC, hg⟩ : ∃ gC, w4.heap.size = gC := ⟨_, rfl⟩
    rw [hg]
    have HB4 : Hid (Rb w #[.int .i64 x.letters, .slice da dn dc, .slice sa sn sc, .int .i64 x.beg, .int .i64 x.fin, .int .i64 x.front, .int .i64 x.back, .bool x.banded, .int .i64 x.lo, .int .i64 x.hi, .slice ta tn tc] v4 ∧ Bx v4 gA Y0 daA dcA saA scA taA tcA ∧ Bx v4 gB Y1 daB dcB saB scB taB tcB ∧ Bx v4 gC Y2 daC dcC saC scC taC tcC) := by
      have hn : Below w4.heap.size w4 v4 := by rw [hv]; exact (Below.refl _ _).alloc (Nat.le_refl _) _
      exact ⟨(HB3.out.1.next hb).next hn, (HB3.out.2.1.next hb).next hn, (HB3.out.2.2.next hb).next hn, by rw [← hg, hv]; exact Bx.new ho HFit.out.2.2.1⟩
    clear hb ho hv hg HB3 c0 c1 c2 c3 c4 c5 c6 c7 c8 c9 c10
    have c0 : v4.cell? ⟨gC, 0, none⟩ = some (.int .i64 Y2.letters) := blk HB4.out.2.2.2.box rfl
    have c1 : v4.cell? ⟨gC, 1, none⟩ = some (.slice daC Y2.defs.length dcC) := blk HB4.out.2.2.2.box rfl
    have c2 : v4.cell? ⟨gC, 2, none⟩ = some (.slice saC Y2.subst.length scC) := blk HB4.out.2.2.2.box rfl
    have c3 : v4.cell? ⟨gC, 3, none⟩ = some (.int .i64 Y2.beg) := blk HB4.out.2.2.2.box rfl
    have c4 : v4.cell? ⟨gC, 4, none⟩ = some (.int .i64 Y2.fin) := blk HB4.out.2.2.2.box rfl
    have c5 : v4.cell? ⟨gC, 5, none⟩ = some (.int .i64 Y2.front) := blk HB4.out.2.2.2.box rfl
    have c6 : v4.cell? ⟨gC, 6, none⟩ = some (.int .i64 Y2.back) := blk HB4.out.2.2.2.box rfl
    have c7 : v4.cell? ⟨gC, 7, none⟩ = some (.bool Y2.banded) := blk HB4.out.2.2.2.box rfl
    have c8 : v4.cell? ⟨gC, 8, none⟩ = some (.int .i64 Y2.lo) := blk HB4.out.2.2.2.box rfl
    have c9 : v4.cell? ⟨gC, 9, none⟩ = some (.int .i64 Y2.hi) := blk HB4.out.2.2.2.box rfl
    have c10 : v4.cell? ⟨gC, 10, none⟩ = some (.slice taC Y2.states.length tcC) := blk HB4.out.2.2.2.box rfl
    go_wp2_with fail
    refine (HF3.out v4 _ _ _ _ _ _ HB4.out.2.2.2.at').mono ?_
    rintro e w5 ⟨daD, dcD, saD, scD, taD, tcD, rfl, hb, ho⟩
    unfold rcCells
    go_upto_region 8 with (fail)
    obtain ⟨v5, hv⟩ : ∃ v5, v5 = w5.alloc (.cells #[.int .i64 Y3.letters, .slice daD Y3.defs.length dcD, .slice saD Y3.subst.length scD, .int .i64 Y3.beg, .int .i64 Y3.fin, .int .i64 Y3.front, .int .i64 Y3.back, .bool Y3.banded, .int .i64 Y3.lo, .int .i64 Y3.hi, .slice taD Y3.states.length tcD] 26) := ⟨_, rfl⟩
    rw [← hv]
    obtain ⟨gD, hg⟩ : ∃ gD, w5.heap.size = gD := ⟨_, rfl⟩
    rw [hg]
    have HB5 : Hid (Rb w #[.int .i64 x.letters, .slice da dn dc, .slice sa sn sc, .int .i64 x.beg, .int .i64 x.fin, .int .i64 x.front, .int .i64 x.back, .bool x.banded, .int .i64 x.lo, .int .i64 x.hi, .slice ta tn tc] v5 ∧ Bx v5 gA Y0 daA dcA saA scA taA tcA ∧ Bx v5 gB Y1 daB dcB saB scB taB tcB ∧ Bx v5 gC Y2 daC dcC saC scC taC tcC ∧ Bx v5 gD Y3 daD dcD saD scD taD tcD) := by
      have hn : Below w5.heap.size w5 v5 := by rw [hv]; exact (Below.refl _ _).alloc (Nat.le_refl _) _
      exact ⟨(HB4.out.1.next hb).next hn, (HB4.out.2.1.next hb).next hn, (HB4.out.2.2.1.next hb).next hn, (HB4.out.2.2.2.next hb).next hn, by rw [← hg, hv]; exact Bx.new ho HFit.out.2.2.2⟩
    clear hb ho hv hg HB4 c0 c1 c2 c3 c4 c5 c6 c7 c8 c9 c10
    have c0 : v5.cell? ⟨gD, 0, none⟩ = some (.int .i64 Y3.letters) := blk HB5.out.2.2.2.2.box rfl
    have c1 : v5.cell? ⟨gD, 1, none⟩ = some (.slice daD Y3.defs.length dcD) := blk HB5.out.2.2.2.2.box rfl
    have c2 : v5.cell? ⟨gD, 2, none⟩ = some (.slice saD Y3.subst.length scD) := blk HB5.out.2.2.2.2.box rfl
    have c3 : v5.cell? ⟨gD, 3, none⟩ = some (.int .i64 Y3.beg) := blk HB5.out.2.2.2.2.box rfl
    have c4 : v5.cell? ⟨gD, 4, none⟩ = some (.int .i64 Y3.fin) := blk HB5.out.2.2.2.2.box rfl
    have c5 : v5.cell? ⟨gD, 5, none⟩ = some (.int .i64 Y3.front) := blk HB5.out.2.2.2.2.box rfl
    have c6 : v5.cell? ⟨gD, 6, none⟩ = some (.int .i64 Y3.back) := blk HB5.out.2.2.2.2.box rfl
    have c7 : v5.cell? ⟨gD, 7, none⟩ = some (.bool Y3.banded) := blk HB5.out.2.2.2.2.box rfl
    have c8 : v5.cell? ⟨gD, 8, none⟩ = some (.int .i64 Y3.lo) := blk HB5.out.2.2.2.2.box rfl
    have c9 : v5.cell? ⟨gD, 9, none⟩ = some (.int .i64 Y3.hi) := blk HB5.out.2.2.2.2.box rfl
    have c10 : v5.cell? ⟨gD, 10, none⟩ = some (.slice taD Y3.states.length tcD) := blk HB5.out.2.2.2.2.box rfl
    go_wp2_with fail
    refine (HF4.out v5 _ _ _ _ _ _ HB5.out.2.2.2.2.at').mono ?_
    rintro e w6 ⟨daX, dcX, saX, scX, taX, tcX, rfl, hb, ho⟩
    unfold rcCells
    go_upto_region 9 with (fail)
    obtain ⟨v6, hv⟩ : ∃ v6, v6 = w6.alloc (.cells #[.int .i64 Y0.letters, .slice daX Y0.defs.length dcX, .slice saX Y0.subst.length scX, .int .i64 Y0.beg, .int .i64 Y0.fin, .int .i64 Y0.front, .int .i64 Y0.back, .bool Y0.banded, .int .i64 Y0.lo, .int .i64 Y0.hi, .slice taX Y0.states.length tcX] 26) := ⟨_, rfl⟩
    rw [← hv]
    obtain ⟨gX, hg⟩ : ∃ gX, w6.heap.size = gX := ⟨_, rfl⟩
    rw [hg]
    have HB6 : Hid (Rb w #[.int .i64 x.letters, .slice da dn dc, .slice sa sn sc, .int .i64 x.beg, .int .i64 x.fin, .int .i64 x.front, .int .i64 x.back, .bool x.banded, .int .i64 x.lo, .int .i64 x.hi, .slice ta tn tc] v6 ∧ Bx v6 gA Y0 daA dcA saA scA taA tcA ∧ Bx v6 gB Y1 daB dcB saB scB taB tcB ∧ Bx v6 gC Y2 daC dcC saC scC taC tcC ∧ Bx v6 gD Y3 daD dcD saD scD taD tcD ∧ Bx v6 gX Y0 daX dcX saX scX taX tcX) := by
      have hn : Below w6.heap.size w6 v6 := by rw [hv]; exact (Below.refl _ _).alloc (Nat.le_refl _) _
      exact ⟨(HB5.out.1.next hb).next hn, (HB5.out.2.1.next hb).next hn, (HB5.out.2.2.1.next hb).next hn, (HB5.out.2.2.2.1.next hb).next hn, (HB5.out.2.2.2.2.next hb).next hn, by rw [← hg, hv]; exact Bx.new ho HFit.out.1⟩
    clear hb ho hv hg HB5 c0 c1 c2 c3 c4 c5 c6 c7 c8 c9 c10
    have c0 : v6.cell? ⟨gA, 0, none⟩ = some (.int .i64 Y0.letters) := blk HB6.out.2.1.box rfl
    have c1 : v6.cell? ⟨gA, 1, none⟩ = some (.slice daA Y0.defs.length dcA) := blk HB6.out.2.1.box rfl
    have c2 : v6.cell? ⟨gA, 2, none⟩ = some (.slice saA Y0.subst.length scA) := blk HB6.out.2.1.box rfl
    have c3 : v6.cell? ⟨gA, 3, none⟩ = some (.int .i64 Y0.beg) := blk HB6.out.2.1.box rfl
    have c4 : v6.cell? ⟨gA, 4, none⟩ = some (.int .i64 Y0.fin) := blk HB6.out.2.1.box rfl
    have c5 : v6.cell? ⟨gA, 5, none⟩ = some (.int .i64 Y0.front) := blk HB6.out.2.1.box rfl
    have c6 : v6.cell? ⟨gA, 6, none⟩ = some (.int .i64 Y0.back) := blk HB6.out.2.1.box rfl
    have c7 : v6.cell? ⟨gA, 7, none⟩ = some (.bool Y0.banded) := blk HB6.out.2.1.box rfl
    have c8 : v6.cell? ⟨gA, 8, none⟩ = some (.int .i64 Y0.lo) := blk HB6.out.2.1.box rfl
    have c9 : v6.cell? ⟨gA, 9, none⟩ = some (.int .i64 Y0.hi) := blk HB6.out.2.1.box rfl
    have c10 : v6.cell? ⟨gA, 10, none⟩ = some (.slice taA Y0.states.length tcA) := blk HB6.out.2.1.box rfl
    have d0 : v6.cell? ⟨gX, 0, none⟩ = some (.int .i64 Y0.letters) := blk HB6.out.2.2.2.2.2.box rfl
    have d1 : v6.cell? ⟨gX, 1, none⟩ = some (.slice daX Y0.defs.length dcX) := blk HB6.out.2.2.2.2.2.box rfl
    have d2 : v6.cell? ⟨gX, 2, none⟩ = some (.slice saX Y0.subst.length scX) := blk HB6.out.2.2.2.2.2.box rfl
    have d3 : v6.cell? ⟨gX, 3, none⟩ = some (.int .i64 Y0.beg) := blk HB6.out.2.2.2.2.2.box rfl
    have d4 : v6.cell? ⟨gX, 4, none⟩ = some (.int .i64 Y0.fin) := blk HB6.out.2.2.2.2.2.box rfl
    have d5 : v6.cell? ⟨gX, 5, none⟩ = some (.int .i64 Y0.front) := blk HB6.out.2.2.2.2.2.box rfl
    have d6 : v6.cell? ⟨gX, 6, none⟩ = some (.int .i64 Y0.back) := blk HB6.out.2.2.2.2.2.box rfl
    have d7 : v6.cell? ⟨gX, 7, none⟩ = some (.bool Y0.banded) := blk HB6.out.2.2.2.2.2.box rfl
    have d8 : v6.cell? ⟨gX, 8, none⟩ = some (.int .i64 Y0.lo) := blk HB6.out.2.2.2.2.2.box rfl
    have d9 : v6.cell? ⟨gX, 9, none⟩ = some (.int .i64 Y0.hi) := blk HB6.out.2.2.2.2.2.box rfl
    have d10 : v6.cell? ⟨gX, 10, none⟩ = some (.slice taX Y0.states.length tcX) := blk HB6.out.2.2.2.2.2.box rfl
    have HSm : Hid (Calls Try.prog 12 #[.agg #[.int .i64 Y0.letters, .slice daA Y0.defs.length dcA, .slice saA Y0.subst.length scA, .int .i64 Y0.beg, .int .i64 Y0.fin, .int .i64 Y0.front, .int .i64 Y0.back, .bool Y0.banded, .int .i64 Y0.lo, .int .i64 Y0.hi, .slice taA Y0.states.length tcA], .agg #[.int .i64 Y0.letters, .slice daX Y0.defs.length dcX, .slice saX Y0.subst.length scX, .int .i64 Y0.beg, .int .i64 Y0.fin, .int .i64 Y0.front, .int .i64 Y0.back, .bool Y0.banded, .int .i64 Y0.lo, .int .i64 Y0.hi, .slice taX Y0.states.length tcX]] v6 fun e w' => e = .returned (.bool true) ∧ Below v6.heap.size v6 w') := same_calls Y0 daA Y0.defs.length dcA saA Y0.subst.length scA taA Y0.states.length tcA daX dcX saX scX taX tcX v6 HB6.out.2.1.at' HB6.out.2.2.2.2.2.at'
    go_wp2_with fail
    refine HSm.out.mono ?_
    rintro e w7 ⟨rfl, hb⟩
    have HB7 : Hid (Rb w #[.int .i64 x.letters, .slice da dn dc, .slice sa sn sc, .int .i64 x.beg, .int .i64 x.fin, .int .i64 x.front, .int .i64 x.back, .bool x.banded, .int .i64 x.lo, .int .i64 x.hi, .slice ta tn tc] w7 ∧ Bx w7 gA Y0 daA dcA saA scA taA tcA ∧ Bx w7 gB Y1 daB dcB saB scB taB tcB ∧ Bx w7 gC Y2 daC dcC saC scC taC tcC ∧ Bx w7 gD Y3 daD dcD saD scD taD tcD ∧ Bx w7 gX Y0 daX dcX saX scX taX tcX) := ⟨HB6.out.1.next hb, HB6.out.2.1.next hb, HB6.out.2.2.1.next hb, HB6.out.2.2.2.1.next hb, HB6.out.2.2.2.2.1.next hb, HB6.out.2.2.2.2.2.next hb⟩
    clear hb HSm HB6 c0 c1 c2 c3 c4 c5 c6 c7 c8 c9 c10 d0 d1 d2 d3 d4 d5 d6 d7 d8 d9 d10
    have c0 : w7.cell? ⟨w.heap.size, 0, none⟩ = some (.int .i64 x.letters) := blk HB7.out.1.box rfl
    have c1 : w7.cell? ⟨w.heap.size, 1, none⟩ = some (.slice da dn dc) := blk HB7.out.1.box rfl
    have c2 : w7.cell? ⟨w.heap.size, 2, none⟩ = some (.slice sa sn sc) := blk HB7.out.1.box rfl
    have c3 : w7.cell? ⟨w.heap.size, 3, none⟩ = some (.int .i64 x.beg) := blk HB7.out.1.box rfl
    have c4 : w7.cell? ⟨w.heap.size, 4, none⟩ = some (.int .i64 x.fin) := blk HB7.out.1.box rfl
    have c5 : w7.cell? ⟨w.heap.size, 5, none⟩ = some (.int .i64 x.front) := blk HB7.out.1.box rfl
    have c6 : w7.cell? ⟨w.heap.size, 6, none⟩ = some (.int .i64 x.back) := blk HB7.out.1.box rfl
    have c7 : w7.cell? ⟨w.heap.size, 7, none⟩ = some (.bool x.banded) := blk HB7.out.1.box rfl
    have c8 : w7.cell? ⟨w.heap.size, 8, none⟩ = some (.int .i64 x.lo) := blk HB7.out.1.box rfl
    have c9 : w7.cell? ⟨w.heap.size, 9, none⟩ = some (.int .i64 x.hi) := blk HB7.out.1.box rfl
    have c10 : w7.cell? ⟨w.heap.size, 10, none⟩ = some (.slice ta tn tc) := blk HB7.out.1.box rfl
    go_wp2_with fail
    refine (HRf2.out w7 HB7.out.1.low).mono ?_
    rintro e w8 ⟨daR, dcR, saR, scR, taR, tcR, rfl, hb, ho⟩
    unfold rcCells
    go_upto_region 11 with (fail)
    obtain ⟨v8, hv⟩ : ∃ v8, v8 = w8.alloc (.cells #[.int .i64 Y0.letters, .slice daR Y0.defs.length dcR, .slice saR Y0.subst.length scR, .int .i64 Y0.beg, .int .i64 Y0.fin, .int .i64 Y0.front, .int .i64 Y0.back, .bool Y0.banded, .int .i64 Y0.lo, .int .i64 Y0.hi, .slice taR Y0.states.length tcR] 26) := ⟨_, rfl⟩
    rw [← hv]
    obtain ⟨gR, hg⟩ : ∃ gR, w8.heap.size = gR := ⟨_, rfl⟩
    rw [hg]
    have HB8 : Hid (Rb w #[.int .i64 x.letters, .slice da dn dc, .slice sa sn sc, .int .i64 x.beg, .int .i64 x.fin, .int .i64 x.front, .int .i64 x.back, .bool x.banded, .int .i64 x.lo, .int .i64 x.hi, .slice ta tn tc] v8 ∧ Bx v8 gA Y0 daA dcA saA scA taA tcA ∧ Bx v8 gB Y1 daB dcB saB scB taB tcB ∧ Bx v8 gC Y2 daC dcC saC scC taC tcC ∧ Bx v8 gD Y3 daD dcD saD scD taD tcD ∧ Bx v8 gX Y0 daX dcX saX scX taX tcX ∧ Bx v8 gR Y0 daR dcR saR scR taR tcR) := by
      have hn : Below w8.heap.size w8 v8 := by rw [hv]; exact (Below.refl _ _).alloc (Nat.le_refl _) _
      exact ⟨(HB7.out.1.next hb).next hn, (HB7.out.2.1.next hb).next hn, (HB7.out.2.2.1.next hb).next hn, (HB7.out.2.2.2.1.next hb).next hn, (HB7.out.2.2.2.2.1.next hb).next hn, (HB7.out.2.2.2.2.2.next hb).next hn, by rw [← hg, hv]; exact Bx.new ho HFit.out.1⟩
    clear hb ho hv hg HB7 c0 c1 c2 c3 c4 c5 c6 c7 c8 c9 c10
    have c0 : v8.cell? ⟨gA, 0, none⟩ = some (.int .i64 Y0.letters) := blk HB8.out.2.1.box rfl
    have c1 : v8.cell? ⟨gA, 1, none⟩ = some (.slice daA Y0.defs.length dcA) := blk HB8.out.2.1.box rfl
    have c2 : v8.cell? ⟨gA, 2, none⟩ = some (.slice saA Y0.subst.length scA) := blk HB8.out.2.1.box rfl
    have c3 : v8.cell? ⟨gA, 3, none⟩ = some (.int .i64 Y0.beg) := blk HB8.out.2.1.box rfl
    have c4 : v8.cell? ⟨gA, 4, none⟩ = some (.int .i64 Y0.fin) := blk HB8.out.2.1.box rfl
    have c5 : v8.cell? ⟨gA, 5, none⟩ = some (.int .i64 Y0.front) := blk HB8.out.2.1.box rfl
    have c6 : v8.cell? ⟨gA, 6, none⟩ = some (.int .i64 Y0.back) := blk HB8.out.2.1.box rfl
    have c7 : v8.cell? ⟨gA, 7, none⟩ = some (.bool Y0.banded) := blk HB8.out.2.1.box rfl
    have c8 : v8.cell? ⟨gA, 8, none⟩ = some (.int .i64 Y0.lo) := blk HB8.out.2.1.box rfl
    have c9 : v8.cell? ⟨gA, 9, none⟩ = some (.int .i64 Y0.hi) := blk HB8.out.2.1.box rfl
    have c10 : v8.cell? ⟨gA, 10, none⟩ = some (.slice taA Y0.states.length tcA) := blk HB8.out.2.1.box rfl
    have d0 : v8.cell? ⟨gR, 0, none⟩ = some (.int .i64 Y0.letters) := blk HB8.out.2.2.2.2.2.2.box rfl
    have d1 : v8.cell? ⟨gR, 1, none⟩ = some (.slice daR Y0.defs.length dcR) := blk HB8.out.2.2.2.2.2.2.box rfl
    have d2 : v8.cell? ⟨gR, 2, none⟩ = some (.slice saR Y0.subst.length scR) := blk HB8.out.2.2.2.2.2.2.box rfl
    have d3 : v8.cell? ⟨gR, 3, none⟩ = some (.int .i64 Y0.beg) := blk HB8.out.2.2.2.2.2.2.box rfl
    have d4 : v8.cell? ⟨gR, 4, none⟩ = some (.int .i64 Y0.fin) := blk HB8.out.2.2.2.2.2.2.box rfl
    have d5 : v8.cell? ⟨gR, 5, none⟩ = some (.int .i64 Y0.front) := blk HB8.out.2.2.2.2.2.2.box rfl
    have d6 : v8.cell? ⟨gR, 6, none⟩ = some (.int .i64 Y0.back) := blk HB8.out.2.2.2.2.2.2.box rfl
    have d7 : v8.cell? ⟨gR, 7, none⟩ = some (.bool Y0.banded) := blk HB8.out.2.2.2.2.2.2.box rfl
    have d8 : v8.cell? ⟨gR, 8, none⟩ = some (.int .i64 Y0.lo) := blk HB8.out.2.2.2.2.2.2.box rfl
    have d9 : v8.cell? ⟨gR, 9, none⟩ = some (.int .i64 Y0.hi) := blk HB8.out.2.2.2.2.2.2.box rfl
    have d10 : v8.cell? ⟨gR, 10, none⟩ = some (.slice taR Y0.states.length tcR) := blk HB8.out.2.2.2.2.2.2.box rfl
    have HSm : Hid (Calls Try.prog 12 #[.agg #[.int .i64 Y0.letters, .slice daA Y0.defs.length dcA, .slice saA Y0.subst.length scA, .int .i64 Y0.beg, .int .i64 Y0.fin, .int .i64 Y0.front, .int .i64 Y0.back, .bool Y0.banded, .int .i64 Y0.lo, .int .i64 Y0.hi, .slice taA Y0.states.length tcA], .agg #[.int .i64 Y0.letters, .slice daR Y0.defs.length dcR, .slice saR Y0.subst.length scR, .int .i64 Y0.beg, .int .i64 Y0.fin, .int .i64 Y0.front, .int .i64 Y0.back, .bool Y0.banded, .int .i64 Y0.lo, .int .i64 Y0.hi, .slice taR Y0.states.length tcR]] v8 fun e w' => e = .returned (.bool true) ∧ Below v8.heap.size v8 w') := same_calls Y0 daA Y0.defs.length dcA saA Y0.subst.length scA taA Y0.states.length tcA daR dcR saR scR taR tcR v8 HB8.out.2.1.at' HB8.out.2.2.2.2.2.2.at'
    go_wp2_with fail
    refine HSm.out.mono ?_
    rintro e w9 ⟨rfl, hb⟩
    have HB9 : Hid (Rb w #[.int .i64 x.letters, .slice da dn dc, .slice sa sn sc, .int .i64 x.beg, .int .i64 x.fin, .int .i64 x.front, .int .i64 x.back, .bool x.banded, .int .i64 x.lo, .int .i64 x.hi, .slice ta tn tc] w9 ∧ Bx w9 gA Y0 daA dcA saA scA taA tcA ∧ Bx w9 gB Y1 daB dcB saB scB taB tcB ∧ Bx w9 gC Y2 daC dcC saC scC taC tcC ∧ Bx w9 gD Y3 daD dcD saD scD taD tcD ∧ Bx w9 gX Y0 daX dcX saX scX taX tcX ∧ Bx w9 gR Y0 daR dcR saR scR taR tcR) := ⟨HB8.out.1.next hb, HB8.out.2.1.next hb, HB8.out.2.2.1.next hb, HB8.out.2.2.2.1.next hb, HB8.out.2.2.2.2.1.next hb, HB8.out.2.2.2.2.2.1.next hb, HB8.out.2.2.2.2.2.2.next hb⟩
    clear hb HSm HB8 c0 c1 c2 c3 c4 c5 c6 c7 c8 c9 c10 d0 d1 d2 d3 d4 d5 d6 d7 d8 d9 d10
    go_wp2
    go_ret
    exact ⟨rfl, HB9.out.1.low⟩
end Go.Proofs.Ytolehoibpnenlaa
