/-
  The walk of one law.
-/
import Derived.Test.YtolehoibpnenlaaMr
namespace Go.Proofs.Ytolehoibpnenlaa
open Go.RowKit Go.Deep Go.Maps

set_option maxRecDepth 20000 in
set_option maxHeartbeats 8000000 in
theorem walkPrune (x : Rc) (da : Option Addr) (dn dc : Nat) (sa : Option Addr) (sn sc : Nat) (ta : Option Addr) (tn tc : Nat) (w : World) (h : RcAt w x da dn sa sn ta tn) (hbx : RcB x) (Y : Rc) (er : Int) (hY : Fit Y)
    (hP : ∀ W, RcAt W x da dn sa sn ta tn → Calls Try.prog 14 #[.agg (rcCells x da dn dc sa sn sc ta tn tc)] W fun e w' => UPost Y er W e w')
    (hR : ∀ W, RcAt W x da dn sa sn ta tn → Calls Try.prog 15 #[.agg (rcCells x da dn dc sa sn sc ta tn tc)] W fun e w' => UPost Y er W e w') :
    Calls Try.prog 4 #[.agg (rcCells x da dn dc sa sn sc ta tn tc)] w fun e w' => e = .returned (.bool true) ∧ Below w.heap.size w w' := by
  have HX : Hid ((∀ W, Below w.heap.size w W → RcAt W x da dn sa sn ta tn) ∧ RcB x ∧ ∀ d ∈ x.defs, InR d.num) := ⟨fun W hW => h.below hW, hbx, h.defs.fits⟩
  have HL : Hid (x.defs.length = dn ∧ x.subst.length = sn ∧ x.states.length = tn) := ⟨h.defs.length, h.subst.length, h.states.length⟩
  obtain ⟨yd, hyd⟩ : ∃ yd, Y.defs.length = yd := ⟨_, rfl⟩
  obtain ⟨ys, hys⟩ : ∃ ys, Y.subst.length = ys := ⟨_, rfl⟩
  obtain ⟨yt, hyt⟩ : ∃ yt, Y.states.length = yt := ⟨_, rfl⟩
  have HY : Hid (Fit Y ∧ Y.defs.length = yd ∧ Y.subst.length = ys ∧ Y.states.length = yt) := ⟨hY, hyd, hys, hyt⟩
  have HP : Hid (∀ W, Below w.heap.size w W → Calls Try.prog 14 #[.agg (rcCells x da dn dc sa sn sc ta tn tc)] W fun e w' => UPost Y er W e w') := fun W hW => hP W (h.below hW)
  have HR : Hid (∀ W, Below w.heap.size w W → Calls Try.prog 15 #[.agg (rcCells x da dn dc sa sn sc ta tn tc)] W fun e w' => UPost Y er W e w') := fun W hW => hR W (h.below hW)
  have HCp : Hid (∀ W, Below w.heap.size w W → Calls Try.prog 9 #[.agg (rcCells x da dn dc sa sn sc ta tn tc)] W fun e w' => ∃ da2 dc2 sa2 sc2 ta2 tc2 sl, e = .returned (.agg (rcCells x da2 x.defs.length dc2 sa2 x.subst.length sc2 ta2 x.states.length tc2)) ∧ Below W.heap.size W w' ∧ CpO w' W.heap.size x da2 dc2 sa2 sc2 ta2 tc2 sl) := fun W hW => copyL_calls x da dn dc sa sn sc ta tn tc W (h.below hW) hbx
  have HB0 : Hid (Rb w (rcCells x da dn dc sa sn sc ta tn tc) (w.alloc (.cells (rcCells x da dn dc sa sn sc ta tn tc) 26))) := Rb.start _ _
  unfold UPost at HP HR
  rw [hyd, hys, hyt] at HP HR
  rw [h.defs.length, h.subst.length, h.states.length] at HCp
  clear h hbx hY hP hR hyd hys hyt
  unfold rcCells at HP HR HCp HB0 ⊢
  go_enter Try.func4, Try.ntmps4
  go_wp2_with fail
  refine (awake_calls _).mono ?_
  rintro e w1 ⟨rfl, hb⟩
  have HB1 : Hid (Rb w #[.int .i64 x.letters, .slice da dn dc, .slice sa sn sc, .int .i64 x.beg, .int .i64 x.fin, .int .i64 x.front, .int .i64 x.back, .bool x.banded, .int .i64 x.lo, .int .i64 x.hi, .slice ta tn tc] w1) := HB0.out.next hb
  clear hb HB0
  have c0 : w1.cell? ⟨w.heap.size, 0, none⟩ = some (.int .i64 x.letters) := blk (HB1.out.box) rfl
  have c1 : w1.cell? ⟨w.heap.size, 1, none⟩ = some (.slice da dn dc) := blk (HB1.out.box) rfl
  have c2 : w1.cell? ⟨w.heap.size, 2, none⟩ = some (.slice sa sn sc) := blk (HB1.out.box) rfl
  have c3 : w1.cell? ⟨w.heap.size, 3, none⟩ = some (.int .i64 x.beg) := blk (HB1.out.box) rfl
  have c4 : w1.cell? ⟨w.heap.size, 4, none⟩ = some (.int .i64 x.fin) := blk (HB1.out.box) rfl
  have c5 : w1.cell? ⟨w.heap.size, 5, none⟩ = some (.int .i64 x.front) := blk (HB1.out.box) rfl
  have c6 : w1.cell? ⟨w.heap.size, 6, none⟩ = some (.int .i64 x.back) := blk (HB1.out.box) rfl
  have c7 : w1.cell? ⟨w.heap.size, 7, none⟩ = some (.bool x.banded) := blk (HB1.out.box) rfl
  have c8 : w1.cell? ⟨w.heap.size, 8, none⟩ = some (.int .i64 x.lo) := blk (HB1.out.box) rfl
  have c9 : w1.cell? ⟨w.heap.size, 9, none⟩ = some (.int .i64 x.hi) := blk (HB1.out.box) rfl
  have c10 : w1.cell? ⟨w.heap.size, 10, none⟩ = some (.slice ta tn tc) := blk (HB1.out.box) rfl
  go_wp2_with fail
  refine (HCp.out w1 HB1.out.low).mono ?_
  rintro e w2 ⟨oda, odc, osa, osc, ota, otc, osl, rfl, hb2, hcp⟩
  go_upto_region 3 with (fail)
  obtain ⟨w3, hw3⟩ : ∃ w3, w3 = w2.alloc (.cells #[.int .i64 x.letters, .slice oda dn odc, .slice osa sn osc, .int .i64 x.beg, .int .i64 x.fin, .int .i64 x.front, .int .i64 x.back, .bool x.banded, .int .i64 x.lo, .int .i64 x.hi, .slice ota tn otc] 26) := ⟨_, rfl⟩
  rw [← hw3]
  have HO : Hid (∀ W, Below w3.heap.size w3 W → Rb w #[.int .i64 x.letters, .slice da dn dc, .slice sa sn sc, .int .i64 x.beg, .int .i64 x.fin, .int .i64 x.front, .int .i64 x.back, .bool x.banded, .int .i64 x.lo, .int .i64 x.hi, .slice ta tn tc] W ∧ W.heap[w2.heap.size]? = some (.cells #[.int .i64 x.letters, .slice oda dn odc, .slice osa sn osc, .int .i64 x.beg, .int .i64 x.fin, .int .i64 x.front, .int .i64 x.back, .bool x.banded, .int .i64 x.lo, .int .i64 x.hi, .slice ota tn otc] 26 (0, 0)) ∧ RcAt W x oda dn osa sn ota tn) := fun W hW => by
    have h0 : Below w2.heap.size w2 w3 := by rw [hw3]; exact (Below.refl _ _).alloc (Nat.le_refl _) _
    have hn : w3.heap[w2.heap.size]? = some (.cells #[.int .i64 x.letters, .slice oda dn odc, .slice osa sn osc, .int .i64 x.beg, .int .i64 x.fin, .int .i64 x.front, .int .i64 x.back, .bool x.banded, .int .i64 x.lo, .int .i64 x.hi, .slice ota tn otc] 26 (0, 0)) := by rw [hw3]; exact heap_alloc_new w2 _
    refine ⟨((HB1.out.next hb2).next h0).next hW, by rw [hW.block _ (lt_block hn)]; exact hn, ?_⟩
    have := ((hcp.below h0).below hW).at HX.out.2.2 HX.out.2.1
    rw [HL.out.1, HL.out.2.1, HL.out.2.2] at this
    exact this
  clear hb2 hcp hw3 HB1 HCp
  clear c0 c1 c2 c3 c4 c5 c6 c7 c8 c9 c10
  have c0 : w3.cell? ⟨w.heap.size, 0, none⟩ = some (.int .i64 x.letters) := blk ((HO.out w3 (Below.refl _ _)).1.box) rfl
  have c1 : w3.cell? ⟨w.heap.size, 1, none⟩ = some (.slice da dn dc) := blk ((HO.out w3 (Below.refl _ _)).1.box) rfl
  have c2 : w3.cell? ⟨w.heap.size, 2, none⟩ = some (.slice sa sn sc) := blk ((HO.out w3 (Below.refl _ _)).1.box) rfl
  have c3 : w3.cell? ⟨w.heap.size, 3, none⟩ = some (.int .i64 x.beg) := blk ((HO.out w3 (Below.refl _ _)).1.box) rfl
  have c4 : w3.cell? ⟨w.heap.size, 4, none⟩ = some (.int .i64 x.fin) := blk ((HO.out w3 (Below.refl _ _)).1.box) rfl
  have c5 : w3.cell? ⟨w.heap.size, 5, none⟩ = some (.int .i64 x.front) := blk ((HO.out w3 (Below.refl _ _)).1.box) rfl
  have c6 : w3.cell? ⟨w.heap.size, 6, none⟩ = some (.int .i64 x.back) := blk ((HO.out w3 (Below.refl _ _)).1.box) rfl
  have c7 : w3.cell? ⟨w.heap.size, 7, none⟩ = some (.bool x.banded) := blk ((HO.out w3 (Below.refl _ _)).1.box) rfl
  have c8 : w3.cell? ⟨w.heap.size, 8, none⟩ = some (.int .i64 x.lo) := blk ((HO.out w3 (Below.refl _ _)).1.box) rfl
  have c9 : w3.cell? ⟨w.heap.size, 9, none⟩ = some (.int .i64 x.hi) := blk ((HO.out w3 (Below.refl _ _)).1.box) rfl
  have c10 : w3.cell? ⟨w.heap.size, 10, none⟩ = some (.slice ta tn tc) := blk ((HO.out w3 (Below.refl _ _)).1.box) rfl
  go_wp2_with fail
  refine (HP.out w3 (HO.out w3 (Below.refl _ _)).1.low).mono ?_
  rintro e w4 ⟨ada, adc, asa, asc, ata, atc, rfl, hb4, ho4⟩
  go_upto_region 4 with (fail)
  obtain ⟨w5, hw5⟩ : ∃ w5, w5 = w4.alloc (.cells #[.int .i64 Y.letters, .slice ada yd adc, .slice asa ys asc, .int .i64 Y.beg, .int .i64 Y.fin, .int .i64 Y.front, .int .i64 Y.back, .bool Y.banded, .int .i64 Y.lo, .int .i64 Y.hi, .slice ata yt atc] 26) := ⟨_, rfl⟩
  rw [← hw5]
  have HA : Hid (RcO w4 w3.heap.size Y ada adc asa asc ata atc ∧ Below w3.heap.size w3 w5 ∧ Below w4.heap.size w4 w5 ∧ w5.heap[w4.heap.size]? = some (.cells #[.int .i64 Y.letters, .slice ada yd adc, .slice asa ys asc, .int .i64 Y.beg, .int .i64 Y.fin, .int .i64 Y.front, .int .i64 Y.back, .bool Y.banded, .int .i64 Y.lo, .int .i64 Y.hi, .slice ata yt atc] 26 (0, 0))) := by
    have h0 : Below w4.heap.size w4 w5 := by rw [hw5]; exact (Below.refl _ _).alloc (Nat.le_refl _) _
    exact ⟨ho4, hb4.trans (h0.mono hb4.size), h0, by rw [hw5]; exact heap_alloc_new w4 _⟩
  have HS34 : Hid (w3.heap.size ≤ w4.heap.size) := hb4.size
  clear hb4 ho4 hw5
  clear c0 c1 c2 c3 c4 c5 c6 c7 c8 c9 c10
  have c0 : w5.cell? ⟨w.heap.size, 0, none⟩ = some (.int .i64 x.letters) := blk ((HO.out w5 HA.out.2.1).1.box) rfl
  have c1 : w5.cell? ⟨w.heap.size, 1, none⟩ = some (.slice da dn dc) := blk ((HO.out w5 HA.out.2.1).1.box) rfl
  have c2 : w5.cell? ⟨w.heap.size, 2, none⟩ = some (.slice sa sn sc) := blk ((HO.out w5 HA.out.2.1).1.box) rfl
  have c3 : w5.cell? ⟨w.heap.size, 3, none⟩ = some (.int .i64 x.beg) := blk ((HO.out w5 HA.out.2.1).1.box) rfl
  have c4 : w5.cell? ⟨w.heap.size, 4, none⟩ = some (.int .i64 x.fin) := blk ((HO.out w5 HA.out.2.1).1.box) rfl
  have c5 : w5.cell? ⟨w.heap.size, 5, none⟩ = some (.int .i64 x.front) := blk ((HO.out w5 HA.out.2.1).1.box) rfl
  have c6 : w5.cell? ⟨w.heap.size, 6, none⟩ = some (.int .i64 x.back) := blk ((HO.out w5 HA.out.2.1).1.box) rfl
  have c7 : w5.cell? ⟨w.heap.size, 7, none⟩ = some (.bool x.banded) := blk ((HO.out w5 HA.out.2.1).1.box) rfl
  have c8 : w5.cell? ⟨w.heap.size, 8, none⟩ = some (.int .i64 x.lo) := blk ((HO.out w5 HA.out.2.1).1.box) rfl
  have c9 : w5.cell? ⟨w.heap.size, 9, none⟩ = some (.int .i64 x.hi) := blk ((HO.out w5 HA.out.2.1).1.box) rfl
  have c10 : w5.cell? ⟨w.heap.size, 10, none⟩ = some (.slice ta tn tc) := blk ((HO.out w5 HA.out.2.1).1.box) rfl
  go_wp2_with fail
  refine (HR.out w5 (HO.out w5 HA.out.2.1).1.low).mono ?_
  rintro e w6 ⟨qda, qdc, qsa, qsc, qta, qtc, rfl, hb6, ho6⟩
  go_upto_region 5 with (fail)
  obtain ⟨w7, hw7⟩ : ∃ w7, w7 = w6.alloc (.cells #[.int .i64 Y.letters, .slice qda yd qdc, .slice qsa ys qsc, .int .i64 Y.beg, .int .i64 Y.fin, .int .i64 Y.front, .int .i64 Y.back, .bool Y.banded, .int .i64 Y.lo, .int .i64 Y.hi, .slice qta yt qtc] 26) := ⟨_, rfl⟩
  rw [← hw7]
  have HQ : Hid (RcO w7 w5.heap.size Y qda qdc qsa qsc qta qtc ∧ Below w5.heap.size w5 w7 ∧ w7.heap[w6.heap.size]? = some (.cells #[.int .i64 Y.letters, .slice qda yd qdc, .slice qsa ys qsc, .int .i64 Y.beg, .int .i64 Y.fin, .int .i64 Y.front, .int .i64 Y.back, .bool Y.banded, .int .i64 Y.lo, .int .i64 Y.hi, .slice qta yt qtc] 26 (0, 0)) ∧ w4.heap.size < w5.heap.size ∧ w5.heap.size ≤ w6.heap.size) := by
    have h0 : Below w6.heap.size w6 w7 := by rw [hw7]; exact (Below.refl _ _).alloc (Nat.le_refl _) _
    exact ⟨ho6.below h0, hb6.trans (h0.mono hb6.size), by rw [hw7]; exact heap_alloc_new w6 _, lt_block HA.out.2.2.2, hb6.size⟩
  clear hb6 ho6 hw7 HR
  clear c0 c1 c2 c3 c4 c5 c6 c7 c8 c9 c10
  have a0 : w7.cell? ⟨w4.heap.size, 0, none⟩ = some (.int .i64 Y.letters) := blk ((HQ.out.2.1.block _ (lt_block HA.out.2.2.2)).trans HA.out.2.2.2) rfl
  have a1 : w7.cell? ⟨w4.heap.size, 1, none⟩ = some (.slice ada yd adc) := blk ((HQ.out.2.1.block _ (lt_block HA.out.2.2.2)).trans HA.out.2.2.2) rfl
  have a2 : w7.cell? ⟨w4.heap.size, 2, none⟩ = some (.slice asa ys asc) := blk ((HQ.out.2.1.block _ (lt_block HA.out.2.2.2)).trans HA.out.2.2.2) rfl
  have a3 : w7.cell? ⟨w4.heap.size, 3, none⟩ = some (.int .i64 Y.beg) := blk ((HQ.out.2.1.block _ (lt_block HA.out.2.2.2)).trans HA.out.2.2.2) rfl
  have a4 : w7.cell? ⟨w4.heap.size, 4, none⟩ = some (.int .i64 Y.fin) := blk ((HQ.out.2.1.block _ (lt_block HA.out.2.2.2)).trans HA.out.2.2.2) rfl
  have a5 : w7.cell? ⟨w4.heap.size, 5, none⟩ = some (.int .i64 Y.front) := blk ((HQ.out.2.1.block _ (lt_block HA.out.2.2.2)).trans HA.out.2.2.2) rfl
  have a6 : w7.cell? ⟨w4.heap.size, 6, none⟩ = some (.int .i64 Y.back) := blk ((HQ.out.2.1.block _ (lt_block HA.out.2.2.2)).trans HA.out.2.2.2) rfl
  have a7 : w7.cell? ⟨w4.heap.size, 7, none⟩ = some (.bool Y.banded) := blk ((HQ.out.2.1.block _ (lt_block HA.out.2.2.2)).trans HA.out.2.2.2) rfl
  have a8 : w7.cell? ⟨w4.heap.size, 8, none⟩ = some (.int .i64 Y.lo) := blk ((HQ.out.2.1.block _ (lt_block HA.out.2.2.2)).trans HA.out.2.2.2) rfl
  have a9 : w7.cell? ⟨w4.heap.size, 9, none⟩ = some (.int .i64 Y.hi) := blk ((HQ.out.2.1.block _ (lt_block HA.out.2.2.2)).trans HA.out.2.2.2) rfl
  have a10 : w7.cell? ⟨w4.heap.size, 10, none⟩ = some (.slice ata yt atc) := blk ((HQ.out.2.1.block _ (lt_block HA.out.2.2.2)).trans HA.out.2.2.2) rfl
  have q0 : w7.cell? ⟨w6.heap.size, 0, none⟩ = some (.int .i64 Y.letters) := blk (HQ.out.2.2.1) rfl
  have q1 : w7.cell? ⟨w6.heap.size, 1, none⟩ = some (.slice qda yd qdc) := blk (HQ.out.2.2.1) rfl
  have q2 : w7.cell? ⟨w6.heap.size, 2, none⟩ = some (.slice qsa ys qsc) := blk (HQ.out.2.2.1) rfl
  have q3 : w7.cell? ⟨w6.heap.size, 3, none⟩ = some (.int .i64 Y.beg) := blk (HQ.out.2.2.1) rfl
  have q4 : w7.cell? ⟨w6.heap.size, 4, none⟩ = some (.int .i64 Y.fin) := blk (HQ.out.2.2.1) rfl
  have q5 : w7.cell? ⟨w6.heap.size, 5, none⟩ = some (.int .i64 Y.front) := blk (HQ.out.2.2.1) rfl
  have q6 : w7.cell? ⟨w6.heap.size, 6, none⟩ = some (.int .i64 Y.back) := blk (HQ.out.2.2.1) rfl
  have q7 : w7.cell? ⟨w6.heap.size, 7, none⟩ = some (.bool Y.banded) := blk (HQ.out.2.2.1) rfl
  have q8 : w7.cell? ⟨w6.heap.size, 8, none⟩ = some (.int .i64 Y.lo) := blk (HQ.out.2.2.1) rfl
  have q9 : w7.cell? ⟨w6.heap.size, 9, none⟩ = some (.int .i64 Y.hi) := blk (HQ.out.2.2.1) rfl
  have q10 : w7.cell? ⟨w6.heap.size, 10, none⟩ = some (.slice qta yt qtc) := blk (HQ.out.2.2.1) rfl
  have HAY : Hid (∀ W, Below w5.heap.size w5 W → RcAt W Y ada yd asa ys ata yt) := fun W hW => by
    have := ((HA.out.1.below HA.out.2.2.1).below hW).at HY.out.1
    rw [HY.out.2.1, HY.out.2.2.1, HY.out.2.2.2] at this
    exact this
  have HQY : Hid (∀ W, RcO W w5.heap.size Y qda qdc qsa qsc qta qtc → RcAt W Y qda yd qsa ys qta yt) := fun W hW => by
    have := hW.at HY.out.1
    rw [HY.out.2.1, HY.out.2.2.1, HY.out.2.2.2] at this
    exact this
  have HSm : Hid (Calls Try.prog 12 #[.agg #[.int .i64 Y.letters, .slice ada yd adc, .slice asa ys asc, .int .i64 Y.beg, .int .i64 Y.fin, .int .i64 Y.front, .int .i64 Y.back, .bool Y.banded, .int .i64 Y.lo, .int .i64 Y.hi, .slice ata yt atc], .agg #[.int .i64 Y.letters, .slice qda yd qdc, .slice qsa ys qsc, .int .i64 Y.beg, .int .i64 Y.fin, .int .i64 Y.front, .int .i64 Y.back, .bool Y.banded, .int .i64 Y.lo, .int .i64 Y.hi, .slice qta yt qtc]] w7 fun e w' => e = .returned (.bool true) ∧ Below w7.heap.size w7 w') := same_calls Y ada yd adc asa ys asc ata yt atc qda qdc qsa qsc qta qtc w7 (HAY.out w7 HQ.out.2.1) (HQY.out w7 HQ.out.1)
  go_wp2_with fail
  refine HSm.out.mono ?_
  rintro e w8 ⟨rfl, hb8⟩
  have HB8 : Hid (Below w7.heap.size w7 w8 ∧ Below w5.heap.size w5 w8) := ⟨hb8, HQ.out.2.1.trans (hb8.mono HQ.out.2.1.size)⟩
  clear hb8 HSm
  clear a0 a1 a2 a3 a4 a5 a6 a7 a8 a9 a10
  clear q0 q1 q2 q3 q4 q5 q6 q7 q8 q9 q10
  have a0 : w8.cell? ⟨w4.heap.size, 0, none⟩ = some (.int .i64 Y.letters) := blk ((HB8.out.2.block _ (lt_block HA.out.2.2.2)).trans HA.out.2.2.2) rfl
  have a1 : w8.cell? ⟨w4.heap.size, 1, none⟩ = some (.slice ada yd adc) := blk ((HB8.out.2.block _ (lt_block HA.out.2.2.2)).trans HA.out.2.2.2) rfl
  have a2 : w8.cell? ⟨w4.heap.size, 2, none⟩ = some (.slice asa ys asc) := blk ((HB8.out.2.block _ (lt_block HA.out.2.2.2)).trans HA.out.2.2.2) rfl
  have a3 : w8.cell? ⟨w4.heap.size, 3, none⟩ = some (.int .i64 Y.beg) := blk ((HB8.out.2.block _ (lt_block HA.out.2.2.2)).trans HA.out.2.2.2) rfl
  have a4 : w8.cell? ⟨w4.heap.size, 4, none⟩ = some (.int .i64 Y.fin) := blk ((HB8.out.2.block _ (lt_block HA.out.2.2.2)).trans HA.out.2.2.2) rfl
  have a5 : w8.cell? ⟨w4.heap.size, 5, none⟩ = some (.int .i64 Y.front) := blk ((HB8.out.2.block _ (lt_block HA.out.2.2.2)).trans HA.out.2.2.2) rfl
  have a6 : w8.cell? ⟨w4.heap.size, 6, none⟩ = some (.int .i64 Y.back) := blk ((HB8.out.2.block _ (lt_block HA.out.2.2.2)).trans HA.out.2.2.2) rfl
  have a7 : w8.cell? ⟨w4.heap.size, 7, none⟩ = some (.bool Y.banded) := blk ((HB8.out.2.block _ (lt_block HA.out.2.2.2)).trans HA.out.2.2.2) rfl
  have a8 : w8.cell? ⟨w4.heap.size, 8, none⟩ = some (.int .i64 Y.lo) := blk ((HB8.out.2.block _ (lt_block HA.out.2.2.2)).trans HA.out.2.2.2) rfl
  have a9 : w8.cell? ⟨w4.heap.size, 9, none⟩ = some (.int .i64 Y.hi) := blk ((HB8.out.2.block _ (lt_block HA.out.2.2.2)).trans HA.out.2.2.2) rfl
  have a10 : w8.cell? ⟨w4.heap.size, 10, none⟩ = some (.slice ata yt atc) := blk ((HB8.out.2.block _ (lt_block HA.out.2.2.2)).trans HA.out.2.2.2) rfl
  have HTu : Hid (Calls Try.prog 13 #[.agg #[.int .i64 Y.letters, .slice ada yd adc, .slice asa ys asc, .int .i64 Y.beg, .int .i64 Y.fin, .int .i64 Y.front, .int .i64 Y.back, .bool Y.banded, .int .i64 Y.lo, .int .i64 Y.hi, .slice ata yt atc]] w8 fun e w' => e = .returned (.tuple #[]) ∧ Below w3.heap.size w8 w' ∧ ∀ k, w4.heap.size ≤ k → k < w8.heap.size → w'.heap[k]? = w8.heap[k]?) := by
    have h45 : Below w4.heap.size w4 w8 := HA.out.2.2.1.trans (HB8.out.2.mono HA.out.2.2.1.size)
    have := turned_calls Y ada adc asa asc ata atc w3.heap.size w4.heap.size w8 w4 HA.out.1 (Nat.le_refl _) h45 (Nat.le_trans HS34.out h45.size) HY.out.1.defs HY.out.1.subst HY.out.1.states
    rw [HY.out.2.1, HY.out.2.2.1, HY.out.2.2.2] at this
    exact this
  go_wp2_with fail
  refine HTu.out.mono ?_
  rintro e w9 ⟨rfl, hb9, hk9⟩
  have HB9 : Hid (Below w3.heap.size w3 w9 ∧ RcO w9 w5.heap.size Y qda qdc qsa qsc qta qtc ∧ w9.heap[w6.heap.size]? = some (.cells #[.int .i64 Y.letters, .slice qda yd qdc, .slice qsa ys qsc, .int .i64 Y.beg, .int .i64 Y.fin, .int .i64 Y.front, .int .i64 Y.back, .bool Y.banded, .int .i64 Y.lo, .int .i64 Y.hi, .slice qta yt qtc] 26 (0, 0))) := by
    have h58 := HB8.out.2
    have hq8 := HQ.out.1.below HB8.out.1
    have hq8b : w8.heap[w6.heap.size]? = some (.cells #[.int .i64 Y.letters, .slice qda yd qdc, .slice qsa ys qsc, .int .i64 Y.beg, .int .i64 Y.fin, .int .i64 Y.front, .int .i64 Y.back, .bool Y.banded, .int .i64 Y.lo, .int .i64 Y.hi, .slice qta yt qtc] 26 (0, 0)) := (HB8.out.1.block _ (lt_block HQ.out.2.2.1)).trans HQ.out.2.2.1
    refine ⟨(HA.out.2.1.trans (h58.mono (Nat.le_trans HS34.out (Nat.le_of_lt HQ.out.2.2.2.1)))).trans hb9, hq8.keep (fun k h1 h2 => hk9 k (Nat.le_trans (Nat.le_of_lt HQ.out.2.2.2.1) h1) h2), ?_⟩
    rw [hk9 _ (Nat.le_trans (Nat.le_of_lt HQ.out.2.2.2.1) HQ.out.2.2.2.2) (lt_block hq8b)]
    exact hq8b
  clear hb9 hk9 HTu HB8 HAY HA
  clear a0 a1 a2 a3 a4 a5 a6 a7 a8 a9 a10
  have c0 : w9.cell? ⟨w.heap.size, 0, none⟩ = some (.int .i64 x.letters) := blk ((HO.out w9 HB9.out.1).1.box) rfl
  have c1 : w9.cell? ⟨w.heap.size, 1, none⟩ = some (.slice da dn dc) := blk ((HO.out w9 HB9.out.1).1.box) rfl
  have c2 : w9.cell? ⟨w.heap.size, 2, none⟩ = some (.slice sa sn sc) := blk ((HO.out w9 HB9.out.1).1.box) rfl
  have c3 : w9.cell? ⟨w.heap.size, 3, none⟩ = some (.int .i64 x.beg) := blk ((HO.out w9 HB9.out.1).1.box) rfl
  have c4 : w9.cell? ⟨w.heap.size, 4, none⟩ = some (.int .i64 x.fin) := blk ((HO.out w9 HB9.out.1).1.box) rfl
  have c5 : w9.cell? ⟨w.heap.size, 5, none⟩ = some (.int .i64 x.front) := blk ((HO.out w9 HB9.out.1).1.box) rfl
  have c6 : w9.cell? ⟨w.heap.size, 6, none⟩ = some (.int .i64 x.back) := blk ((HO.out w9 HB9.out.1).1.box) rfl
  have c7 : w9.cell? ⟨w.heap.size, 7, none⟩ = some (.bool x.banded) := blk ((HO.out w9 HB9.out.1).1.box) rfl
  have c8 : w9.cell? ⟨w.heap.size, 8, none⟩ = some (.int .i64 x.lo) := blk ((HO.out w9 HB9.out.1).1.box) rfl
  have c9 : w9.cell? ⟨w.heap.size, 9, none⟩ = some (.int .i64 x.hi) := blk ((HO.out w9 HB9.out.1).1.box) rfl
  have c10 : w9.cell? ⟨w.heap.size, 10, none⟩ = some (.slice ta tn tc) := blk ((HO.out w9 HB9.out.1).1.box) rfl
  have o0 : w9.cell? ⟨w2.heap.size, 0, none⟩ = some (.int .i64 x.letters) := blk ((HO.out w9 HB9.out.1).2.1) rfl
  have o1 : w9.cell? ⟨w2.heap.size, 1, none⟩ = some (.slice oda dn odc) := blk ((HO.out w9 HB9.out.1).2.1) rfl
  have o2 : w9.cell? ⟨w2.heap.size, 2, none⟩ = some (.slice osa sn osc) := blk ((HO.out w9 HB9.out.1).2.1) rfl
  have o3 : w9.cell? ⟨w2.heap.size, 3, none⟩ = some (.int .i64 x.beg) := blk ((HO.out w9 HB9.out.1).2.1) rfl
  have o4 : w9.cell? ⟨w2.heap.size, 4, none⟩ = some (.int .i64 x.fin) := blk ((HO.out w9 HB9.out.1).2.1) rfl
  have o5 : w9.cell? ⟨w2.heap.size, 5, none⟩ = some (.int .i64 x.front) := blk ((HO.out w9 HB9.out.1).2.1) rfl
  have o6 : w9.cell? ⟨w2.heap.size, 6, none⟩ = some (.int .i64 x.back) := blk ((HO.out w9 HB9.out.1).2.1) rfl
  have o7 : w9.cell? ⟨w2.heap.size, 7, none⟩ = some (.bool x.banded) := blk ((HO.out w9 HB9.out.1).2.1) rfl
  have o8 : w9.cell? ⟨w2.heap.size, 8, none⟩ = some (.int .i64 x.lo) := blk ((HO.out w9 HB9.out.1).2.1) rfl
  have o9 : w9.cell? ⟨w2.heap.size, 9, none⟩ = some (.int .i64 x.hi) := blk ((HO.out w9 HB9.out.1).2.1) rfl
  have o10 : w9.cell? ⟨w2.heap.size, 10, none⟩ = some (.slice ota tn otc) := blk ((HO.out w9 HB9.out.1).2.1) rfl
  have HSm : Hid (Calls Try.prog 12 #[.agg #[.int .i64 x.letters, .slice da dn dc, .slice sa sn sc, .int .i64 x.beg, .int .i64 x.fin, .int .i64 x.front, .int .i64 x.back, .bool x.banded, .int .i64 x.lo, .int .i64 x.hi, .slice ta tn tc], .agg #[.int .i64 x.letters, .slice oda dn odc, .slice osa sn osc, .int .i64 x.beg, .int .i64 x.fin, .int .i64 x.front, .int .i64 x.back, .bool x.banded, .int .i64 x.lo, .int .i64 x.hi, .slice ota tn otc]] w9 fun e w' => e = .returned (.bool true) ∧ Below w9.heap.size w9 w') := same_calls x da dn dc sa sn sc ta tn tc oda odc osa osc ota otc w9 (HX.out.1 w9 (HO.out w9 HB9.out.1).1.low) (HO.out w9 HB9.out.1).2.2
  go_wp2_with fail
  refine HSm.out.mono ?_
  rintro e w10 ⟨rfl, hb10⟩
  have HB10 : Hid (Below w3.heap.size w3 w10 ∧ RcO w10 w5.heap.size Y qda qdc qsa qsc qta qtc ∧ w10.heap[w6.heap.size]? = some (.cells #[.int .i64 Y.letters, .slice qda yd qdc, .slice qsa ys qsc, .int .i64 Y.beg, .int .i64 Y.fin, .int .i64 Y.front, .int .i64 Y.back, .bool Y.banded, .int .i64 Y.lo, .int .i64 Y.hi, .slice qta yt qtc] 26 (0, 0)) ∧ w3.heap.size ≤ w9.heap.size) := by
    have hs : w3.heap.size ≤ w9.heap.size := HB9.out.1.size
    exact ⟨HB9.out.1.trans (hb10.mono hs), HB9.out.2.1.below hb10, by rw [hb10.block _ (lt_block HB9.out.2.2)]; exact HB9.out.2.2, hs⟩
  clear hb10 HSm HB9
  clear c0 c1 c2 c3 c4 c5 c6 c7 c8 c9 c10
  clear o0 o1 o2 o3 o4 o5 o6 o7 o8 o9 o10
  have c0 : w10.cell? ⟨w.heap.size, 0, none⟩ = some (.int .i64 x.letters) := blk ((HO.out w10 HB10.out.1).1.box) rfl
  have c1 : w10.cell? ⟨w.heap.size, 1, none⟩ = some (.slice da dn dc) := blk ((HO.out w10 HB10.out.1).1.box) rfl
  have c2 : w10.cell? ⟨w.heap.size, 2, none⟩ = some (.slice sa sn sc) := blk ((HO.out w10 HB10.out.1).1.box) rfl
  have c3 : w10.cell? ⟨w.heap.size, 3, none⟩ = some (.int .i64 x.beg) := blk ((HO.out w10 HB10.out.1).1.box) rfl
  have c4 : w10.cell? ⟨w.heap.size, 4, none⟩ = some (.int .i64 x.fin) := blk ((HO.out w10 HB10.out.1).1.box) rfl
  have c5 : w10.cell? ⟨w.heap.size, 5, none⟩ = some (.int .i64 x.front) := blk ((HO.out w10 HB10.out.1).1.box) rfl
  have c6 : w10.cell? ⟨w.heap.size, 6, none⟩ = some (.int .i64 x.back) := blk ((HO.out w10 HB10.out.1).1.box) rfl
  have c7 : w10.cell? ⟨w.heap.size, 7, none⟩ = some (.bool x.banded) := blk ((HO.out w10 HB10.out.1).1.box) rfl
  have c8 : w10.cell? ⟨w.heap.size, 8, none⟩ = some (.int .i64 x.lo) := blk ((HO.out w10 HB10.out.1).1.box) rfl
  have c9 : w10.cell? ⟨w.heap.size, 9, none⟩ = some (.int .i64 x.hi) := blk ((HO.out w10 HB10.out.1).1.box) rfl
  have c10 : w10.cell? ⟨w.heap.size, 10, none⟩ = some (.slice ta tn tc) := blk ((HO.out w10 HB10.out.1).1.box) rfl
  go_wp2_with fail
  refine (HP.out w10 (HO.out w10 HB10.out.1).1.low).mono ?_
  rintro e w11 ⟨bda, bdc, bsa, bsc, bta, btc, rfl, hb11, ho11⟩
  go_upto_region 9 with (fail)
  obtain ⟨w12, hw12⟩ : ∃ w12, w12 = w11.alloc (.cells #[.int .i64 Y.letters, .slice bda yd bdc, .slice bsa ys bsc, .int .i64 Y.beg, .int .i64 Y.fin, .int .i64 Y.front, .int .i64 Y.back, .bool Y.banded, .int .i64 Y.lo, .int .i64 Y.hi, .slice bta yt btc] 26) := ⟨_, rfl⟩
  rw [← hw12]
  have HB12 : Hid (RcAt w12 Y bda yd bsa ys bta yt ∧ RcAt w12 Y qda yd qsa ys qta yt ∧ Below w.heap.size w w12 ∧ w12.heap[w6.heap.size]? = some (.cells #[.int .i64 Y.letters, .slice qda yd qdc, .slice qsa ys qsc, .int .i64 Y.beg, .int .i64 Y.fin, .int .i64 Y.front, .int .i64 Y.back, .bool Y.banded, .int .i64 Y.lo, .int .i64 Y.hi, .slice qta yt qtc] 26 (0, 0)) ∧ w12.heap[w11.heap.size]? = some (.cells #[.int .i64 Y.letters, .slice bda yd bdc, .slice bsa ys bsc, .int .i64 Y.beg, .int .i64 Y.fin, .int .i64 Y.front, .int .i64 Y.back, .bool Y.banded, .int .i64 Y.lo, .int .i64 Y.hi, .slice bta yt btc] 26 (0, 0))) := by
    have h0 : Below w11.heap.size w11 w12 := by rw [hw12]; exact (Below.refl _ _).alloc (Nat.le_refl _) _
    have h1 := hb11.trans (h0.mono hb11.size)
    have hat := (ho11.below h0).at HY.out.1
    rw [HY.out.2.1, HY.out.2.2.1, HY.out.2.2.2] at hat
    have hl := (HO.out w10 HB10.out.1).1.low
    exact ⟨hat, HQY.out w12 (HB10.out.2.1.below h1), hl.trans (h1.mono hl.size), by rw [h1.block _ (lt_block HB10.out.2.2.1)]; exact HB10.out.2.2.1, by rw [hw12]; exact heap_alloc_new w11 _⟩
  clear hb11 ho11 hw12 HB10 HP
  clear c0 c1 c2 c3 c4 c5 c6 c7 c8 c9 c10
  have b0 : w12.cell? ⟨w11.heap.size, 0, none⟩ = some (.int .i64 Y.letters) := blk (HB12.out.2.2.2.2) rfl
  have b1 : w12.cell? ⟨w11.heap.size, 1, none⟩ = some (.slice bda yd bdc) := blk (HB12.out.2.2.2.2) rfl
  have b2 : w12.cell? ⟨w11.heap.size, 2, none⟩ = some (.slice bsa ys bsc) := blk (HB12.out.2.2.2.2) rfl
  have b3 : w12.cell? ⟨w11.heap.size, 3, none⟩ = some (.int .i64 Y.beg) := blk (HB12.out.2.2.2.2) rfl
  have b4 : w12.cell? ⟨w11.heap.size, 4, none⟩ = some (.int .i64 Y.fin) := blk (HB12.out.2.2.2.2) rfl
  have b5 : w12.cell? ⟨w11.heap.size, 5, none⟩ = some (.int .i64 Y.front) := blk (HB12.out.2.2.2.2) rfl
  have b6 : w12.cell? ⟨w11.heap.size, 6, none⟩ = some (.int .i64 Y.back) := blk (HB12.out.2.2.2.2) rfl
  have b7 : w12.cell? ⟨w11.heap.size, 7, none⟩ = some (.bool Y.banded) := blk (HB12.out.2.2.2.2) rfl
  have b8 : w12.cell? ⟨w11.heap.size, 8, none⟩ = some (.int .i64 Y.lo) := blk (HB12.out.2.2.2.2) rfl
  have b9 : w12.cell? ⟨w11.heap.size, 9, none⟩ = some (.int .i64 Y.hi) := blk (HB12.out.2.2.2.2) rfl
  have b10 : w12.cell? ⟨w11.heap.size, 10, none⟩ = some (.slice bta yt btc) := blk (HB12.out.2.2.2.2) rfl
  have q0 : w12.cell? ⟨w6.heap.size, 0, none⟩ = some (.int .i64 Y.letters) := blk (HB12.out.2.2.2.1) rfl
  have q1 : w12.cell? ⟨w6.heap.size, 1, none⟩ = some (.slice qda yd qdc) := blk (HB12.out.2.2.2.1) rfl
  have q2 : w12.cell? ⟨w6.heap.size, 2, none⟩ = some (.slice qsa ys qsc) := blk (HB12.out.2.2.2.1) rfl
  have q3 : w12.cell? ⟨w6.heap.size, 3, none⟩ = some (.int .i64 Y.beg) := blk (HB12.out.2.2.2.1) rfl
  have q4 : w12.cell? ⟨w6.heap.size, 4, none⟩ = some (.int .i64 Y.fin) := blk (HB12.out.2.2.2.1) rfl
  have q5 : w12.cell? ⟨w6.heap.size, 5, none⟩ = some (.int .i64 Y.front) := blk (HB12.out.2.2.2.1) rfl
  have q6 : w12.cell? ⟨w6.heap.size, 6, none⟩ = some (.int .i64 Y.back) := blk (HB12.out.2.2.2.1) rfl
  have q7 : w12.cell? ⟨w6.heap.size, 7, none⟩ = some (.bool Y.banded) := blk (HB12.out.2.2.2.1) rfl
  have q8 : w12.cell? ⟨w6.heap.size, 8, none⟩ = some (.int .i64 Y.lo) := blk (HB12.out.2.2.2.1) rfl
  have q9 : w12.cell? ⟨w6.heap.size, 9, none⟩ = some (.int .i64 Y.hi) := blk (HB12.out.2.2.2.1) rfl
  have q10 : w12.cell? ⟨w6.heap.size, 10, none⟩ = some (.slice qta yt qtc) := blk (HB12.out.2.2.2.1) rfl
  have HSm : Hid (Calls Try.prog 12 #[.agg #[.int .i64 Y.letters, .slice bda yd bdc, .slice bsa ys bsc, .int .i64 Y.beg, .int .i64 Y.fin, .int .i64 Y.front, .int .i64 Y.back, .bool Y.banded, .int .i64 Y.lo, .int .i64 Y.hi, .slice bta yt btc], .agg #[.int .i64 Y.letters, .slice qda yd qdc, .slice qsa ys qsc, .int .i64 Y.beg, .int .i64 Y.fin, .int .i64 Y.front, .int .i64 Y.back, .bool Y.banded, .int .i64 Y.lo, .int .i64 Y.hi, .slice qta yt qtc]] w12 fun e w' => e = .returned (.bool true) ∧ Below w12.heap.size w12 w') := same_calls Y bda yd bdc bsa ys bsc bta yt btc qda qdc qsa qsc qta qtc w12 HB12.out.1 HB12.out.2.1
  go_wp2_with fail
  refine HSm.out.mono ?_
  rintro e w13 ⟨rfl, hb13⟩
  have HE : Hid (Below w.heap.size w w13) := HB12.out.2.2.1.trans (hb13.mono HB12.out.2.2.1.size)
  clear hb13 HSm HB12
  clear b0 b1 b2 b3 b4 b5 b6 b7 b8 b9 b10
  clear q0 q1 q2 q3 q4 q5 q6 q7 q8 q9 q10
  have her : (er == er) = true := by simp
  go_wp2
  go_ret
  exact ⟨rfl, HE.out⟩
end Go.Proofs.Ytolehoibpnenlaa
