/-
  The walks of sealed and Decode.
-/
import Derived.Test.YtignpgoicoojiaaDoorRdI
namespace Go.Proofs.YtignpgoicoojiaaDoor
open Go.RowKit

theorem CdOwn.mono {B B2 : Nat} {W : World} {c : Cd} {g1 g2 g3 g4 : Nat} (h : CdOwn B2 W c g1 g2 g3 g4) (hB : B ≤ B2) : CdOwn B W c g1 g2 g3 g4 := ⟨owned_mono h.t hB, owned_mono h.k hB, owned_mono h.i hB, owned_mono h.r hB, h.ne⟩
structure SG (w : World) (b : Nat) (s : ByteArray) (st : Sr) (g0 g : Nat) (c : Cd) (g1 g2 g3 g4 : Nat) (W : World) : Prop where
  rd : Rd W b s st
  r0 : W.heap[g0]? = some (.cells #[.int .i64 0, .int .i64 0, .int .i64 0, .int .i64 0, .int .i64 0, .int .i64 0, .slice none 0 0, .slice none 0 0, .slice none 0 0, .slice none 0 0] 26 (0, 0))
  r1 : W.heap[g]? = some (.cells (cdCells c (ownS c g1 g2 g3 g4)) 26 (0, 0))
  gr : w.grownBy W (some b)
  own : CdOwn w.heap.size W c g1 g2 g3 g4
theorem SG.next {w : World} {b : Nat} {s : ByteArray} {st st2 : Sr} {g0 g : Nat} {c : Cd} {g1 g2 g3 g4 : Nat} {W w1 : World} (h : SG w b s st g0 g c g1 g2 g3 g4 W) (hr : Rd w1 b s st2) (hg : W.grownBy w1 (some b)) : SG w b s st2 g0 g c g1 g2 g3 g4 w1 := by
  have key : ∀ {k : Nat} {c : Array Value}, W.heap[k]? = some (.cells c 26 (0, 0)) → w1.heap[k]? = some (.cells c 26 (0, 0)) := fun hk => by
    rw [hg.block _ (lt_block hk) (fun e => by cases e; rw [h.rd.box] at hk; cases hk)]; exact hk
  exact ⟨hr, key h.r0, key h.r1, grown_trans h.gr hg, h.own.rd h.rd hg⟩
theorem SG.low {w : World} {b : Nat} {s : ByteArray} {st : Sr} {g0 g : Nat} {c : Cd} {g1 g2 g3 g4 : Nat} {W w1 : World} (h : SG w b s st g0 g c g1 g2 g3 g4 W) (hb : Below W.heap.size W w1) : SG w b s st g0 g c g1 g2 g3 g4 w1 :=
  h.next (h.rd.other (grown_below (r := none) hb) (by simp)) (grown_below hb)
theorem SG.ten {w : World} {b : Nat} {s : ByteArray} {st : Sr} {g0 g : Nat} {c : Cd} {g1 g2 g3 g4 : Nat} {W : World} (h : SG w b s st g0 g c g1 g2 g3 g4 W) (hn : w.heap.size ≤ g0) (v0 v1 v2 v3 v4 v5 v6 v7 v8 v9 : Value) : CdOwn w.heap.size ((((((((((W.setCell ⟨g0, 0, none⟩ v0).setCell ⟨g0, 1, none⟩ v1).setCell ⟨g0, 2, none⟩ v2).setCell ⟨g0, 3, none⟩ v3).setCell ⟨g0, 4, none⟩ v4).setCell ⟨g0, 5, none⟩ v5).setCell ⟨g0, 6, none⟩ v6).setCell ⟨g0, 7, none⟩ v7).setCell ⟨g0, 8, none⟩ v8).setCell ⟨g0, 9, none⟩ v9) c g1 g2 g3 g4 ∧ Rd ((((((((((W.setCell ⟨g0, 0, none⟩ v0).setCell ⟨g0, 1, none⟩ v1).setCell ⟨g0, 2, none⟩ v2).setCell ⟨g0, 3, none⟩ v3).setCell ⟨g0, 4, none⟩ v4).setCell ⟨g0, 5, none⟩ v5).setCell ⟨g0, 6, none⟩ v6).setCell ⟨g0, 7, none⟩ v7).setCell ⟨g0, 8, none⟩ v8).setCell ⟨g0, 9, none⟩ v9) b s st ∧ w.grownBy ((((((((((W.setCell ⟨g0, 0, none⟩ v0).setCell ⟨g0, 1, none⟩ v1).setCell ⟨g0, 2, none⟩ v2).setCell ⟨g0, 3, none⟩ v3).setCell ⟨g0, 4, none⟩ v4).setCell ⟨g0, 5, none⟩ v5).setCell ⟨g0, 6, none⟩ v6).setCell ⟨g0, 7, none⟩ v7).setCell ⟨g0, 8, none⟩ v8).setCell ⟨g0, 9, none⟩ v9) (some b) := by
  have hg := grown_ten W g0 v0 v1 v2 v3 v4 v5 v6 v7 v8 v9
  have hne : b ≠ g0 := fun e => by
    have h1 := h.rd.box
    rw [e, h.r0] at h1; cases h1
  refine ⟨h.own.box h.r0 hg, h.rd.other hg (fun e => by cases e; exact hne rfl), ?_⟩
  exact ⟨hg.os.trans h.gr.os, hg.tape.trans h.gr.tape, hg.output.trans h.gr.output, Nat.le_trans h.gr.size hg.size, fun k hk hr => (hg.block k (Nat.lt_of_lt_of_le hk h.gr.size) (by intro e; cases e; omega)).trans (h.gr.block k hk hr)⟩
theorem extract0 (s : ByteArray) (i : Nat) : (s.extract 0 i).data.toList = s.data.toList.take i := by
  simp [ByteArray.data_extract, Array.toList_extract, List.extract]
theorem extract0_le (s : ByteArray) (i : Nat) : (s.extract 0 i).size ≤ s.size := by
  rw [← size_toList, extract0, List.length_take, size_toList]; omega
def SealP (w : World) (b : Nat) (s : ByteArray) (e : Ending) (w' : World) : Prop :=
  ∃ g1 g2 g3 g4, e = .returned (.agg (cdCells (sealR s.data.toList).1 (ownS (sealR s.data.toList).1 g1 g2 g3 g4))) ∧ CdOwn w.heap.size w' (sealR s.data.toList).1 g1 g2 g3 g4 ∧ Rd w' b s (sealR s.data.toList).2 ∧ w.grownBy w' (some b)

set_option maxHeartbeats 4000000 in
theorem sealed_calls (b : Nat) (s : ByteArray) (w : World) (h : Rd w b s (0, false)) :
    Calls Tryd.prog 35 #[.pointer (some ⟨b, 0, none⟩)] w fun e w' => SealP w b s e w' := by
  have hbl : b < w.heap.size := lt_block h.box
  have hsh := h.short
  have HR : Hid (Rd w b s (0, false)) := h
  clear h
  obtain ⟨e1, he1⟩ : ∃ r, expR s.data.toList markB (0, false) = r := ⟨_, rfl⟩
  obtain ⟨cr, hcr⟩ : ∃ r, codeR s.data.toList e1 = r := ⟨_, rfl⟩
  obtain ⟨e3, he3⟩ : ∃ r, expR s.data.toList (checkB (s.data.toList.take cr.2.1)) cr.2 = r := ⟨_, rfl⟩
  have HSR : Hid (sealR s.data.toList = (cr.1, (e3.1, e3.2 || decide (e3.1 < s.size)))) := by
    show _ = _
    simp only [sealR]
    rw [he1, hcr, he3, size_toList]
  have L1 : Hid (expR s.data.toList markB (0, false) = e1) := he1
  have L2 : Hid (codeR s.data.toList e1 = cr) := hcr
  have L3 : Hid (expR s.data.toList (checkB (s.data.toList.take cr.2.1)) cr.2 = e3) := he3
  clear he1 hcr he3
  have hres : Tryd.f35.results = #[.cell 2 26] := by kernel_rfl
  go_enter Tryd.func35, Tryd.ntmps35
  go_wp2_with fail
  refine (show ExpC _ b s (0, false) ⟨#[72, 76, 88, 49]⟩ from expect_calls b s _ (0, false) _ (HR.out.other (grown_below (r := none) (below_new _)) (by simp)) (by rw [mk_mark]; omega)).mono ?_
  rintro e w1 ⟨rfl, hr1, hg1⟩
  rw [show expR s.data.toList (⟨#[72, 76, 88, 49]⟩ : ByteArray).data.toList (0, false) = e1 from L1.out] at hr1
  have H0 : Hid (w1.heap[w.heap.size]? = some (.cells #[.int .i64 0, .int .i64 0, .int .i64 0, .int .i64 0, .int .i64 0, .int .i64 0, .slice none 0 0, .slice none 0 0, .slice none 0 0, .slice none 0 0] 26 (0, 0)) ∧ w.grownBy w1 (some b) ∧ Rd w1 b s e1) := by
    refine ⟨?_, grown_trans (grown_below (below_new _)) hg1, hr1⟩
    rw [hg1.block _ (by simp) (fun e => by cases e; omega), heap_alloc_new]
  clear hr1 hg1 HR
  go_wp2_with fail
  refine (code_calls b s e1 w1 H0.out.2.2).mono ?_
  rintro e w2 ⟨g1, g2, g3, g4, rfl, hown, hr2, hg2⟩
  rw [L2.out] at hown hr2 ⊢
  obtain ⟨c, st2⟩ := cr
  simp only at hown hr2 L3 HSR
  rw [show cdCells c (ownS c g1 g2 g3 g4) = #[.int .i64 c.letters, .int .i64 c.planes, .int .i64 c.regs, .int .i64 c.lo, .int .i64 c.hi, .int .i64 c.most, .slice (some ⟨g1, 0, none⟩) c.table.length c.table.length, .slice (some ⟨g2, 0, none⟩) c.consts.length c.consts.length, .slice (some ⟨g3, 0, none⟩) c.cell.length c.cell.length, .slice (some ⟨g4, 0, none⟩) c.arrows.length c.arrows.length] from rfl]
  have HS : Hid (SG w b s st2 w.heap.size w2.heap.size c g1 g2 g3 g4 (w2.alloc (.cells #[.int .i64 c.letters, .int .i64 c.planes, .int .i64 c.regs, .int .i64 c.lo, .int .i64 c.hi, .int .i64 c.most, .slice (some ⟨g1, 0, none⟩) c.table.length c.table.length, .slice (some ⟨g2, 0, none⟩) c.consts.length c.consts.length, .slice (some ⟨g3, 0, none⟩) c.cell.length c.cell.length, .slice (some ⟨g4, 0, none⟩) c.arrows.length c.arrows.length] 26))) := by
    obtain ⟨k0, k1, k2⟩ := H0.out
    refine ⟨hr2.other (grown_below (r := none) (below_new _)) (by simp), ?_, heap_alloc_new _ _, grown_trans (grown_trans k1 hg2) (grown_below (below_new _)), (hown.mono k1.size).low (below_new _)⟩
    have hk : w2.heap[w.heap.size]? = some (.cells #[.int .i64 0, .int .i64 0, .int .i64 0, .int .i64 0, .int .i64 0, .int .i64 0, .slice none 0 0, .slice none 0 0, .slice none 0 0, .slice none 0 0] 26 (0, 0)) := by rw [hg2.block _ (lt_block k0) (fun e => by cases e; omega)]; exact k0
    rw [(below_new (w := w2) _).block _ (lt_block hk)]; exact hk
  clear hr2 hg2 H0 hown
  go_upto_region 3 with (fail)
  obtain ⟨g0, hg0⟩ : ∃ g0, w.heap.size = g0 := ⟨_, rfl⟩
  have HG0 : Hid (w.heap.size = g0) := hg0
  rw [hg0] at HS
  clear hg0
  obtain ⟨g, hg⟩ : ∃ g, w2.heap.size = g := ⟨_, rfl⟩
  have HG : Hid (w2.heap.size = g) := hg
  rw [hg] at HS
  clear hg
  obtain ⟨w3, hw3⟩ : ∃ w3, w2.alloc (.cells #[.int .i64 c.letters, .int .i64 c.planes, .int .i64 c.regs, .int .i64 c.lo, .int .i64 c.hi, .int .i64 c.most, .slice (some ⟨g1, 0, none⟩) c.table.length c.table.length, .slice (some ⟨g2, 0, none⟩) c.consts.length c.consts.length, .slice (some ⟨g3, 0, none⟩) c.cell.length c.cell.length, .slice (some ⟨g4, 0, none⟩) c.arrows.length c.arrows.length] 26) = w3 := ⟨_, rfl⟩
  have HW3 : Hid (w2.alloc (.cells #[.int .i64 c.letters, .int .i64 c.planes, .int .i64 c.regs, .int .i64 c.lo, .int .i64 c.hi, .int .i64 c.most, .slice (some ⟨g1, 0, none⟩) c.table.length c.table.length, .slice (some ⟨g2, 0, none⟩) c.consts.length c.consts.length, .slice (some ⟨g3, 0, none⟩) c.cell.length c.cell.length, .slice (some ⟨g4, 0, none⟩) c.arrows.length c.arrows.length] 26) = w3) := hw3
  rw [hw3] at HS
  clear hw3
  have HSd : Hid (SG w b s st2 g0 g c g1 g2 g3 g4 w3.drew) := HS.out.next HS.out.rd.drew grown_drew
  rw [HW3.out, HG.out, HG0.out]
  refine wp_region_Y (fun j => [].contains j) (fun W : World => True) (by kernel_rfl) ?_
  refine wpAnyY_pure (i := 0) 10 (v := .pointer (some ⟨b, 0, none⟩)) rfl rfl (by kernel_rfl) (by kernel_rfl) (by kernel_rfl) (fun _ _ _ h => h) (Or.inl ⟨by rfl, by (intro W _; go_simp)⟩) ?_
  simp only [Act.put, List.setIfInBounds_toArray, List.set_cons_succ, List.set_cons_zero]
  refine wpAnyY_pure (i := 1) 11 (v := .pointer (some ⟨b, 0, none⟩)) rfl rfl (by kernel_rfl) (by kernel_rfl) (by kernel_rfl) (fun _ _ _ h => h) (Or.inl ⟨by rfl, by (intro W _; go_simp)⟩) ?_
  simp only [Act.put, List.setIfInBounds_toArray, List.set_cons_succ, List.set_cons_zero]
  refine wpAnyY_pure (i := 2) 12 (v := .pointer (some ⟨b, 0, none⟩)) rfl rfl (by kernel_rfl) (by kernel_rfl) (by kernel_rfl) (fun _ _ _ h => h) (Or.inl ⟨by rfl, by (intro W _; go_simp)⟩) ?_
  simp only [Act.put, List.setIfInBounds_toArray, List.set_cons_succ, List.set_cons_zero]
  refine wpAnyY_pure (i := 3) 13 (v := .pointer (some ⟨b, 0, none⟩)) rfl rfl (by kernel_rfl) (by kernel_rfl) (by kernel_rfl) (fun _ _ _ h => h) (Or.inl ⟨by rfl, by (intro W _; go_simp)⟩) ?_
  simp only [Act.put, List.setIfInBounds_toArray, List.set_cons_succ, List.set_cons_zero]
  refine wpAnyY_pure (i := 4) 14 (v := .pointer (some ⟨b, 0, none⟩)) rfl rfl (by kernel_rfl) (by kernel_rfl) (by kernel_rfl) (fun _ _ _ h => h) (Or.inl ⟨by rfl, by (intro W _; go_simp)⟩) ?_
  simp only [Act.put, List.setIfInBounds_toArray, List.set_cons_succ, List.set_cons_zero]
  refine wpAnyY_pure (i := 5) 15 (v := .pointer (some ⟨b, 0, none⟩)) rfl rfl (by kernel_rfl) (by kernel_rfl) (by kernel_rfl) (fun _ _ _ h => h) (Or.inl ⟨by rfl, by (intro W _; go_simp)⟩) ?_
  simp only [Act.put, List.setIfInBounds_toArray, List.set_cons_succ, List.set_cons_zero]
  refine wpAnyY_one (i := 6) rfl (by kernel_rfl) (fun Kc hKc => ?_)
  refine step_fnD 16 rfl (by rfl) 45 _ _ rfl Tryd.f45 Tryd.func45 (by kernel_rfl) (by kernel_rfl) #[.pointer (some ⟨b, 0, none⟩)] (by simp [Act.eval]) (read_calls b s st2 _ HSd.out.rd) ?_
  rintro e w4 ⟨rfl, n4, hw4⟩
  have HS4 : Hid (SG w b s st2 g0 g c g1 g2 g3 g4 w4) := by rw [hw4]; exact HSd.out.next (HSd.out.rd.drewN n4) (grown_drewN n4)
  clear hw4
  refine ⟨_, rfl, hKc.out _ _ (fun _ _ => trivial) ?_⟩
  clear hKc Kc
  simp only [Act.put, List.setIfInBounds_toArray, List.set_cons_succ, List.set_cons_zero]
  refine wpAnyY_one (i := 7) rfl (by kernel_rfl) (fun Kc hKc => ?_)
  refine step_fnD 17 rfl (by rfl) 31 _ _ rfl Tryd.f31 Tryd.func31 (by kernel_rfl) (by kernel_rfl) #[.string (s.extract 0 st2.1)] (by simp [Act.eval]) (check_calls (s.extract 0 st2.1) _ (Nat.le_trans (extract0_le _ _) hsh)) ?_
  rintro e w5 ⟨k5, rfl, hk5, hb5⟩
  have HS5 : Hid (SG w b s st2 g0 g c g1 g2 g3 g4 w5) := HS4.out.low hb5
  have hks : k5.size = 4 := by rw [← size_toList, hk5]; rfl
  have HK5 : Hid (k5.data.toList = checkB (s.data.toList.take st2.1)) := by show _ = _; rw [hk5, extract0]
  clear hb5 hk5
  refine ⟨_, rfl, hKc.out _ _ (fun _ _ => trivial) ?_⟩
  clear hKc Kc
  simp only [Act.put, List.setIfInBounds_toArray, List.set_cons_succ, List.set_cons_zero]
  refine wpAnyY_one (i := 8) rfl (by kernel_rfl) (fun Kc hKc => ?_)
  refine step_fnD 18 rfl (by rfl) 43 _ _ rfl Tryd.f43 Tryd.func43 (by kernel_rfl) (by kernel_rfl) #[.pointer (some ⟨b, 0, none⟩), .string k5] (by simp [Act.eval]) (show ExpC _ b s st2 k5 from expect_calls b s k5 st2 _ HS5.out.rd (by omega)) ?_
  rintro e w6 ⟨rfl, hr6, hg6⟩
  rw [HK5.out, L3.out] at hr6
  have HS6 : Hid (SG w b s e3 g0 g c g1 g2 g3 g4 w6) := HS5.out.next hr6 hg6
  clear hr6 hg6
  refine ⟨_, rfl, hKc.out _ _ (fun _ _ => trivial) ?_⟩
  clear hKc Kc
  simp only [Act.put, List.setIfInBounds_toArray, List.set_cons_succ, List.set_cons_zero]
  refine wpAnyY_done (by kernel_rfl) ?_ _
  clear HS HS4 HS5 HSd
  go_wp2_with fail
  refine (end_calls b s e3 w6 HS6.out.rd).mono ?_
  rintro e w7 ⟨rfl, hr7, hg7⟩
  have HS7 : Hid (SG w b s (e3.1, e3.2 || decide (e3.1 < s.size)) g0 g c g1 g2 g3 g4 w7) := HS6.out.next hr7 hg7
  clear hr7 hg7 HS6
  have d0 : w7.cell? ⟨g, 0, none⟩ = some (.int .i64 c.letters) := cell_block HS7.out.r1 0 _ rfl
  have d1 : w7.cell? ⟨g, 1, none⟩ = some (.int .i64 c.planes) := cell_block HS7.out.r1 1 _ rfl
  have d2 : w7.cell? ⟨g, 2, none⟩ = some (.int .i64 c.regs) := cell_block HS7.out.r1 2 _ rfl
  have d3 : w7.cell? ⟨g, 3, none⟩ = some (.int .i64 c.lo) := cell_block HS7.out.r1 3 _ rfl
  have d4 : w7.cell? ⟨g, 4, none⟩ = some (.int .i64 c.hi) := cell_block HS7.out.r1 4 _ rfl
  have d5 : w7.cell? ⟨g, 5, none⟩ = some (.int .i64 c.most) := cell_block HS7.out.r1 5 _ rfl
  have d6 : w7.cell? ⟨g, 6, none⟩ = some (.slice (some ⟨g1, 0, none⟩) c.table.length c.table.length) := cell_block HS7.out.r1 6 _ rfl
  have d7 : w7.cell? ⟨g, 7, none⟩ = some (.slice (some ⟨g2, 0, none⟩) c.consts.length c.consts.length) := cell_block HS7.out.r1 7 _ rfl
  have d8 : w7.cell? ⟨g, 8, none⟩ = some (.slice (some ⟨g3, 0, none⟩) c.cell.length c.cell.length) := cell_block HS7.out.r1 8 _ rfl
  have d9 : w7.cell? ⟨g, 9, none⟩ = some (.slice (some ⟨g4, 0, none⟩) c.arrows.length c.arrows.length) := cell_block HS7.out.r1 9 _ rfl
  have e0' : w7.cell? ⟨g0, 0, none⟩ = some (.int .i64 0) := cell_block HS7.out.r0 0 _ rfl
  have e1' : w7.cell? ⟨g0, 1, none⟩ = some (.int .i64 0) := cell_block HS7.out.r0 1 _ rfl
  have e2' : w7.cell? ⟨g0, 2, none⟩ = some (.int .i64 0) := cell_block HS7.out.r0 2 _ rfl
  have e3' : w7.cell? ⟨g0, 3, none⟩ = some (.int .i64 0) := cell_block HS7.out.r0 3 _ rfl
  have e4' : w7.cell? ⟨g0, 4, none⟩ = some (.int .i64 0) := cell_block HS7.out.r0 4 _ rfl
  have e5' : w7.cell? ⟨g0, 5, none⟩ = some (.int .i64 0) := cell_block HS7.out.r0 5 _ rfl
  have e6' : w7.cell? ⟨g0, 6, none⟩ = some (.slice none 0 0) := cell_block HS7.out.r0 6 _ rfl
  have e7' : w7.cell? ⟨g0, 7, none⟩ = some (.slice none 0 0) := cell_block HS7.out.r0 7 _ rfl
  have e8' : w7.cell? ⟨g0, 8, none⟩ = some (.slice none 0 0) := cell_block HS7.out.r0 8 _ rfl
  have e9' : w7.cell? ⟨g0, 9, none⟩ = some (.slice none 0 0) := cell_block HS7.out.r0 9 _ rfl
  have ef : ∀ i, w7.frozen? ⟨g0, i, none⟩ = false := fun i => frozen_of_row w7 _ i _ _ HS7.out.r0
  go_wp2
  refine bodyPost_ret (v := .agg #[.int .i64 c.letters, .int .i64 c.planes, .int .i64 c.regs, .int .i64 c.lo, .int .i64 c.hi, .int .i64 c.most, .slice (some ⟨g1, 0, none⟩) c.table.length c.table.length, .slice (some ⟨g2, 0, none⟩) c.consts.length c.consts.length, .slice (some ⟨g3, 0, none⟩) c.cell.length c.cell.length, .slice (some ⟨g4, 0, none⟩) c.arrows.length c.arrows.length]) ?_ rfl ⟨g1, g2, g3, g4, ?_, ?_⟩
  · simp only [results, hres]
    go_simp
  · rw [HSR.out]; rfl
  · rw [HSR.out]
    exact SG.ten HS7.out (by rw [HG0.out]; exact Nat.le_refl _) _ _ _ _ _ _ _ _ _ _

def nilS : Ls := ⟨⟨none, 0, 0⟩, ⟨none, 0, 0⟩, ⟨none, 0, 0⟩, ⟨none, 0, 0⟩⟩
def DecP (s : ByteArray) (w : World) (e : Ending) (w' : World) : Prop :=
  ∃ sl, e = .returned (.tuple #[.agg (cdCells (decA s.data.toList).1 sl), .int .i64 (decA s.data.toList).2]) ∧ CdAt w' (decA s.data.toList).1 sl ∧ Below w.heap.size w w' ∧ ((sl = nilS ∧ (decA s.data.toList).1 = noCd) ∨ ∃ g1 g2 g3 g4, sl = ownS (decA s.data.toList).1 g1 g2 g3 g4 ∧ CdOwn w.heap.size w' (decA s.data.toList).1 g1 g2 g3 g4)
theorem no_at (w : World) : CdAt w noCd nilS := ⟨IntsAt.nil _ _, IntsAt.nil _ _, QdsAt.nil _ _, QdsAt.nil _ _⟩

set_option maxHeartbeats 4000000 in
theorem decode_calls (s : ByteArray) (w : World) (hs : s.size ≤ maxLen) :
    Calls Tryd.prog 17 #[.string s] w fun e w' => DecP s w e w' := by
  have hres : Tryd.f17.results = #[.cell 2 26, .tmp 3] := by kernel_rfl
  obtain ⟨sr, hsr⟩ : ∃ r, sealR s.data.toList = r := ⟨_, rfl⟩
  have HSR : Hid (sealR s.data.toList = sr) := hsr
  have HDA : Hid (decA s.data.toList = if sr.2.2 = true ∨ rightB sr.1 = false then (noCd, 150) else (sr.1, 0)) := by show _ = _; rw [decA, hsr]
  clear hsr
  go_enter Tryd.func17, Tryd.ntmps17
  go_wp2_with fail
  have hrd : Rd ((w.alloc (.cells #[.int .i64 0, .int .i64 0, .int .i64 0, .int .i64 0, .int .i64 0, .int .i64 0, .slice none 0 0, .slice none 0 0, .slice none 0 0, .slice none 0 0] 26)).alloc (.cells #[.string s, .int .i64 0, .bool false] 56)) (w.heap.size + 1) s (0, false) := by
    refine ⟨?_, by simp, hs⟩
    rw [show w.heap.size + 1 = (w.alloc (.cells #[.int .i64 0, .int .i64 0, .int .i64 0, .int .i64 0, .int .i64 0, .int .i64 0, .slice none 0 0, .slice none 0 0, .slice none 0 0, .slice none 0 0] 26)).heap.size by simp, heap_alloc_new]; rfl
  refine (sealed_calls (w.heap.size + 1) s _ hrd).mono ?_
  rintro e w1 ⟨g1, g2, g3, g4, rfl, hown, hr1, hg1⟩
  rw [HSR.out] at hown hr1 ⊢
  obtain ⟨c, at0, wrg⟩ := sr
  simp only at hown hr1 HDA
  have k0 : w1.heap[w.heap.size]? = some (.cells #[.int .i64 0, .int .i64 0, .int .i64 0, .int .i64 0, .int .i64 0, .int .i64 0, .slice none 0 0, .slice none 0 0, .slice none 0 0, .slice none 0 0] 26 (0, 0)) := by
    rw [hg1.block _ (by simp; omega) (by simp), (below_new _).block _ (by simp), heap_alloc_new]
  have hb1 : Below w.heap.size w w1 := by
    have h2 : Below w.heap.size w ((w.alloc (.cells #[.int .i64 0, .int .i64 0, .int .i64 0, .int .i64 0, .int .i64 0, .int .i64 0, .slice none 0 0, .slice none 0 0, .slice none 0 0, .slice none 0 0] 26)).alloc (.cells #[.string s, .int .i64 0, .bool false] 56)) := below_al2 (Nat.le_refl _) _ _
    exact ⟨hg1.os.trans h2.os, hg1.tape.trans h2.tape, hg1.output.trans h2.output, Nat.le_trans h2.size hg1.size, fun k hk => (hg1.block k (Nat.lt_of_lt_of_le hk h2.size) (by intro e; cases e; omega)).trans (h2.block k hk)⟩
  rw [show cdCells c (ownS c g1 g2 g3 g4) = #[.int .i64 c.letters, .int .i64 c.planes, .int .i64 c.regs, .int .i64 c.lo, .int .i64 c.hi, .int .i64 c.most, .slice (some ⟨g1, 0, none⟩) c.table.length c.table.length, .slice (some ⟨g2, 0, none⟩) c.consts.length c.consts.length, .slice (some ⟨g3, 0, none⟩) c.cell.length c.cell.length, .slice (some ⟨g4, 0, none⟩) c.arrows.length c.arrows.length] from rfl]
  have HO : Hid (CdOwn w.heap.size w1 c g1 g2 g3 g4) := hown.mono (by simp; omega)
  have HB : Hid (Below w.heap.size w w1) := hb1
  have HK0 : Hid (w1.heap[w.heap.size]? = some (.cells #[.int .i64 0, .int .i64 0, .int .i64 0, .int .i64 0, .int .i64 0, .int .i64 0, .slice none 0 0, .slice none 0 0, .slice none 0 0, .slice none 0 0] 26 (0, 0))) := k0
  have hlt : w.heap.size < w1.heap.size := lt_block k0
  have hlt1 : w.heap.size + 1 < w1.heap.size := lt_block hr1.box
  have c2 := hr1.c2
  simp only at c2
  cases wrg with
  | true =>
    have HE : Hid (decA s.data.toList = (noCd, 150)) := by show _ = _; rw [HDA.out, if_pos (.inl rfl)]
    have e0 : w1.cell? ⟨w.heap.size, 0, none⟩ = some (.int .i64 0) := cell_block k0 0 _ rfl
    have e1 : w1.cell? ⟨w.heap.size, 1, none⟩ = some (.int .i64 0) := cell_block k0 1 _ rfl
    have e2 : w1.cell? ⟨w.heap.size, 2, none⟩ = some (.int .i64 0) := cell_block k0 2 _ rfl
    have e3 : w1.cell? ⟨w.heap.size, 3, none⟩ = some (.int .i64 0) := cell_block k0 3 _ rfl
    have e4 : w1.cell? ⟨w.heap.size, 4, none⟩ = some (.int .i64 0) := cell_block k0 4 _ rfl
    have e5 : w1.cell? ⟨w.heap.size, 5, none⟩ = some (.int .i64 0) := cell_block k0 5 _ rfl
    have e6 : w1.cell? ⟨w.heap.size, 6, none⟩ = some (.slice none 0 0) := cell_block k0 6 _ rfl
    have e7 : w1.cell? ⟨w.heap.size, 7, none⟩ = some (.slice none 0 0) := cell_block k0 7 _ rfl
    have e8 : w1.cell? ⟨w.heap.size, 8, none⟩ = some (.slice none 0 0) := cell_block k0 8 _ rfl
    have e9 : w1.cell? ⟨w.heap.size, 9, none⟩ = some (.slice none 0 0) := cell_block k0 9 _ rfl
    have ef : ∀ i, w1.frozen? ⟨w.heap.size, i, none⟩ = false := fun i => frozen_of_row w1 _ i _ _ k0
    clear hr1 hg1 k0 hb1 hrd hown
    go_wp2
    refine bodyPost_ret (v := .tuple #[.agg #[.int .i64 0, .int .i64 0, .int .i64 0, .int .i64 0, .int .i64 0, .int .i64 0, .slice none 0 0, .slice none 0 0, .slice none 0 0, .slice none 0 0], .int .i64 150]) ?_ rfl ⟨nilS, ?_, ?_, ?_, ?_⟩
    · simp only [results, hres]
      go_simp
    · rw [HE.out]; rfl
    · rw [HE.out]; exact no_at _
    · exact below_alS (ten_low HB.out _ _ _ _ _ _ _ _ _ _) _
    · rw [HE.out]; exact .inl ⟨rfl, rfl⟩
  | false =>
    have HX : Hid (w.heap.size < w1.heap.size ∧ CdAt (w1.alloc (.cells #[.int .i64 c.letters, .int .i64 c.planes, .int .i64 c.regs, .int .i64 c.lo, .int .i64 c.hi, .int .i64 c.most, .slice (some ⟨g1, 0, none⟩) c.table.length c.table.length, .slice (some ⟨g2, 0, none⟩) c.consts.length c.consts.length, .slice (some ⟨g3, 0, none⟩) c.cell.length c.cell.length, .slice (some ⟨g4, 0, none⟩) c.arrows.length c.arrows.length] 26)) c (ownS c g1 g2 g3 g4)) := ⟨hlt, HO.out.at'.below (below_new _)⟩
    clear hr1 hg1 k0 hb1 hrd hown
    go_wp2_with fail
    refine (right_calls c (ownS c g1 g2 g3 g4) _ HX.out.2).mono ?_
    rintro e w2 ⟨rfl, hb2⟩
    have k0 : w2.heap[w.heap.size]? = some (.cells #[.int .i64 0, .int .i64 0, .int .i64 0, .int .i64 0, .int .i64 0, .int .i64 0, .slice none 0 0, .slice none 0 0, .slice none 0 0, .slice none 0 0] 26 (0, 0)) := by
      have hq : (w1.alloc (.cells #[.int .i64 c.letters, .int .i64 c.planes, .int .i64 c.regs, .int .i64 c.lo, .int .i64 c.hi, .int .i64 c.most, .slice (some ⟨g1, 0, none⟩) c.table.length c.table.length, .slice (some ⟨g2, 0, none⟩) c.consts.length c.consts.length, .slice (some ⟨g3, 0, none⟩) c.cell.length c.cell.length, .slice (some ⟨g4, 0, none⟩) c.arrows.length c.arrows.length] 26)).heap[w.heap.size]? = some (.cells #[.int .i64 0, .int .i64 0, .int .i64 0, .int .i64 0, .int .i64 0, .int .i64 0, .slice none 0 0, .slice none 0 0, .slice none 0 0, .slice none 0 0] 26 (0, 0)) := by rw [(below_new (w := w1) _).block _ (lt_block HK0.out)]; exact HK0.out
      rw [hb2.block _ (lt_block hq)]; exact hq
    have HB2 : Hid (Below w.heap.size w w2) := (HB.out.alloc HB.out.size _).trans (hb2.mono (Nat.le_trans HB.out.size (by simp)))
    have HO2 : Hid (CdOwn w.heap.size w2 c g1 g2 g3 g4) := (HO.out.low (below_new _)).low hb2
    have kg : w2.heap[w1.heap.size]? = some (.cells #[.int .i64 c.letters, .int .i64 c.planes, .int .i64 c.regs, .int .i64 c.lo, .int .i64 c.hi, .int .i64 c.most, .slice (some ⟨g1, 0, none⟩) c.table.length c.table.length, .slice (some ⟨g2, 0, none⟩) c.consts.length c.consts.length, .slice (some ⟨g3, 0, none⟩) c.cell.length c.cell.length, .slice (some ⟨g4, 0, none⟩) c.arrows.length c.arrows.length] 26 (0, 0)) := by rw [hb2.block _ (by simp), heap_alloc_new]
    have HK2 : Hid (w2.heap[w.heap.size]? = some (.cells #[.int .i64 0, .int .i64 0, .int .i64 0, .int .i64 0, .int .i64 0, .int .i64 0, .slice none 0 0, .slice none 0 0, .slice none 0 0, .slice none 0 0] 26 (0, 0))) := k0
    obtain ⟨r, hr⟩ : ∃ r, rightB c = r := ⟨_, rfl⟩
    rw [hr]
    have e0 : w2.cell? ⟨w.heap.size, 0, none⟩ = some (.int .i64 0) := cell_block k0 0 _ rfl
    have e1 : w2.cell? ⟨w.heap.size, 1, none⟩ = some (.int .i64 0) := cell_block k0 1 _ rfl
    have e2 : w2.cell? ⟨w.heap.size, 2, none⟩ = some (.int .i64 0) := cell_block k0 2 _ rfl
    have e3 : w2.cell? ⟨w.heap.size, 3, none⟩ = some (.int .i64 0) := cell_block k0 3 _ rfl
    have e4 : w2.cell? ⟨w.heap.size, 4, none⟩ = some (.int .i64 0) := cell_block k0 4 _ rfl
    have e5 : w2.cell? ⟨w.heap.size, 5, none⟩ = some (.int .i64 0) := cell_block k0 5 _ rfl
    have e6 : w2.cell? ⟨w.heap.size, 6, none⟩ = some (.slice none 0 0) := cell_block k0 6 _ rfl
    have e7 : w2.cell? ⟨w.heap.size, 7, none⟩ = some (.slice none 0 0) := cell_block k0 7 _ rfl
    have e8 : w2.cell? ⟨w.heap.size, 8, none⟩ = some (.slice none 0 0) := cell_block k0 8 _ rfl
    have e9 : w2.cell? ⟨w.heap.size, 9, none⟩ = some (.slice none 0 0) := cell_block k0 9 _ rfl
    have d0 : w2.cell? ⟨w1.heap.size, 0, none⟩ = some (.int .i64 c.letters) := cell_block kg 0 _ rfl
    have d1 : w2.cell? ⟨w1.heap.size, 1, none⟩ = some (.int .i64 c.planes) := cell_block kg 1 _ rfl
    have d2 : w2.cell? ⟨w1.heap.size, 2, none⟩ = some (.int .i64 c.regs) := cell_block kg 2 _ rfl
    have d3 : w2.cell? ⟨w1.heap.size, 3, none⟩ = some (.int .i64 c.lo) := cell_block kg 3 _ rfl
    have d4 : w2.cell? ⟨w1.heap.size, 4, none⟩ = some (.int .i64 c.hi) := cell_block kg 4 _ rfl
    have d5 : w2.cell? ⟨w1.heap.size, 5, none⟩ = some (.int .i64 c.most) := cell_block kg 5 _ rfl
    have d6 : w2.cell? ⟨w1.heap.size, 6, none⟩ = some (.slice (some ⟨g1, 0, none⟩) c.table.length c.table.length) := cell_block kg 6 _ rfl
    have d7 : w2.cell? ⟨w1.heap.size, 7, none⟩ = some (.slice (some ⟨g2, 0, none⟩) c.consts.length c.consts.length) := cell_block kg 7 _ rfl
    have d8 : w2.cell? ⟨w1.heap.size, 8, none⟩ = some (.slice (some ⟨g3, 0, none⟩) c.cell.length c.cell.length) := cell_block kg 8 _ rfl
    have d9 : w2.cell? ⟨w1.heap.size, 9, none⟩ = some (.slice (some ⟨g4, 0, none⟩) c.arrows.length c.arrows.length) := cell_block kg 9 _ rfl
    have ef : ∀ i, w2.frozen? ⟨w.heap.size, i, none⟩ = false := fun i => frozen_of_row w2 _ i _ _ k0
    clear k0 kg hb2
    cases r
    · have HE : Hid (decA s.data.toList = (noCd, 150)) := by show _ = _; rw [HDA.out, if_pos (.inr hr)]
      clear hr
      go_wp2
      refine bodyPost_ret (v := .tuple #[.agg #[.int .i64 0, .int .i64 0, .int .i64 0, .int .i64 0, .int .i64 0, .int .i64 0, .slice none 0 0, .slice none 0 0, .slice none 0 0, .slice none 0 0], .int .i64 150]) ?_ rfl ⟨nilS, ?_, ?_, ?_, ?_⟩
      · simp only [results, hres]
        go_simp
      · rw [HE.out]; rfl
      · rw [HE.out]; exact no_at _
      · exact ten_low HB2.out _ _ _ _ _ _ _ _ _ _
      · rw [HE.out]; exact .inl ⟨rfl, rfl⟩
    · have HE : Hid (decA s.data.toList = (c, 0)) := by show _ = _; rw [HDA.out, if_neg (by rw [hr]; simp)]
      clear hr
      go_wp2
      have hF := HO2.out.box HK2.out (grown_ten w2 w.heap.size (.int .i64 c.letters) (.int .i64 c.planes) (.int .i64 c.regs) (.int .i64 c.lo) (.int .i64 c.hi) (.int .i64 c.most) (.slice (some ⟨g1, 0, none⟩) c.table.length c.table.length) (.slice (some ⟨g2, 0, none⟩) c.consts.length c.consts.length) (.slice (some ⟨g3, 0, none⟩) c.cell.length c.cell.length) (.slice (some ⟨g4, 0, none⟩) c.arrows.length c.arrows.length))
      refine bodyPost_ret (v := .tuple #[.agg #[.int .i64 c.letters, .int .i64 c.planes, .int .i64 c.regs, .int .i64 c.lo, .int .i64 c.hi, .int .i64 c.most, .slice (some ⟨g1, 0, none⟩) c.table.length c.table.length, .slice (some ⟨g2, 0, none⟩) c.consts.length c.consts.length, .slice (some ⟨g3, 0, none⟩) c.cell.length c.cell.length, .slice (some ⟨g4, 0, none⟩) c.arrows.length c.arrows.length], .int .i64 0]) ?_ rfl ⟨ownS c g1 g2 g3 g4, ?_, ?_, ?_, ?_⟩
      · simp only [results, hres]
        go_simp
      · rw [HE.out]; rfl
      · rw [HE.out]; exact hF.at'
      · exact ten_low HB2.out _ _ _ _ _ _ _ _ _ _
      · rw [HE.out]; exact .inr ⟨g1, g2, g3, g4, rfl, hF⟩

end Go.Proofs.YtignpgoicoojiaaDoor
