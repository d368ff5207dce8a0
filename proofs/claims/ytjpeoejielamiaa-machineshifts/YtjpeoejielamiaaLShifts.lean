/-
  All starts greater by one number: the law.
-/
import Derived.Test.YtjpeoejielamiaaMlS
namespace Go.Proofs.Ytjpeoejielamiaa
open Go.RowKit

set_option maxRecDepth 20000 in
set_option maxHeartbeats 8000000 in
theorem shifts_walk (c : Cd) (s : Ls) (sx : Sl) (x : List Int) (sy : Sl) (y : List Int) (n : Int) (w : World) (hc : CdIn w c s) (hx : IntsAt w sx.a sx.n x ∧ SlIn sx) (hy : IntsAt w sy.a sy.n y ∧ SlIn sy) :
    Calls Try.prog 5 #[.agg (cdCells c s ++ #[.slice sx.a sx.n sx.c, .slice sy.a sy.n sy.c, .int .i64 n])] w fun e w' => e = .returned (.bool true) ∧ Below w.heap.size w w' := by
  have HC : Hid (CdAt w c s ∧ IntsAt w sx.a sx.n x ∧ IntsAt w sy.a sy.n y) := ⟨hc.at', hx.1, hy.1⟩
  have HNk : Hid ((s.k.a = none → s.k.n = 0 ∧ s.k.c = 0) ∧ (s.i.a = none → s.i.n = 0 ∧ s.i.c = 0)) := ⟨hc.k.2, hc.i.2⟩
  have HLn : Hid (c.consts.length = s.k.n ∧ c.cell.length = s.i.n) := ⟨hc.at'.consts.length, hc.at'.cell.length⟩
  clear hc hx hy
  obtain ⟨xa, xn, xc⟩ := sx
  obtain ⟨ya, yn, yc⟩ := sy
  rw [show cdCells c s ++ #[.slice xa xn xc, .slice ya yn yc, .int .i64 n] = #[.int .i64 c.letters, .int .i64 c.planes, .int .i64 c.regs, .int .i64 c.lo, .int .i64 c.hi, .int .i64 c.most, .slice s.t.a s.t.n s.t.c, .slice s.k.a s.k.n s.k.c, .slice s.i.a s.i.n s.i.c, .slice s.r.a s.r.n s.r.c, .slice xa xn xc, .slice ya yn yc, .int .i64 n] from rfl]
  have H0 : Hid (Bk w ((w.alloc (.cells #[.int .i64 c.letters, .int .i64 c.planes, .int .i64 c.regs, .int .i64 c.lo, .int .i64 c.hi, .int .i64 c.most, .slice s.t.a s.t.n s.t.c, .slice s.k.a s.k.n s.k.c, .slice s.i.a s.i.n s.i.c, .slice s.r.a s.r.n s.r.c, .slice xa xn xc, .slice ya yn yc, .int .i64 n] 62)).alloc (.cells #[.int .i64 c.letters, .int .i64 c.planes, .int .i64 c.regs, .int .i64 c.lo, .int .i64 c.hi, .int .i64 c.most, .slice s.t.a s.t.n s.t.c, .slice s.k.a s.k.n s.k.c, .slice s.i.a s.i.n s.i.c, .slice s.r.a s.r.n s.r.c] 26)) (w.heap.size + 1) #[.int .i64 c.letters, .int .i64 c.planes, .int .i64 c.regs, .int .i64 c.lo, .int .i64 c.hi, .int .i64 c.most, .slice s.t.a s.t.n s.t.c, .slice s.k.a s.k.n s.k.c, .slice s.i.a s.i.n s.i.c, .slice s.r.a s.r.n s.r.c]) := ⟨(below_new _).alloc (by simp) _, (new_two _ _ _).1⟩
  have HX0 : Hid (((w.alloc (.cells #[.int .i64 c.letters, .int .i64 c.planes, .int .i64 c.regs, .int .i64 c.lo, .int .i64 c.hi, .int .i64 c.most, .slice s.t.a s.t.n s.t.c, .slice s.k.a s.k.n s.k.c, .slice s.i.a s.i.n s.i.c, .slice s.r.a s.r.n s.r.c, .slice xa xn xc, .slice ya yn yc, .int .i64 n] 62)).alloc (.cells #[.int .i64 c.letters, .int .i64 c.planes, .int .i64 c.regs, .int .i64 c.lo, .int .i64 c.hi, .int .i64 c.most, .slice s.t.a s.t.n s.t.c, .slice s.k.a s.k.n s.k.c, .slice s.i.a s.i.n s.i.c, .slice s.r.a s.r.n s.r.c] 26)).cell? ⟨w.heap.size, 12, none⟩ = some (.int .i64 n)) := cell_al (cell_block (heap_alloc_new _ _) 12 _ rfl) _
  go_enter Try.func5, Try.ntmps5
  go_wp2_with fail
  refine (small_calls c s ⟨xa, xn, xc⟩ ⟨ya, yn, yc⟩ x y _ (HC.out.1.below H0.out.low) (HC.out.2.1.below H0.out.low) (HC.out.2.2.below H0.out.low)).mono ?_
  rintro e w1 ⟨⟨b, rfl, hsm⟩, hb1⟩
  have H1 : Hid (Bk w w1 (w.heap.size + 1) #[.int .i64 c.letters, .int .i64 c.planes, .int .i64 c.regs, .int .i64 c.lo, .int .i64 c.hi, .int .i64 c.most, .slice s.t.a s.t.n s.t.c, .slice s.k.a s.k.n s.k.c, .slice s.i.a s.i.n s.i.c, .slice s.r.a s.r.n s.r.c]) := H0.out.next hb1
  have HSm : Hid (b = true → s.t.n ≤ 2147483647 ∧ s.k.n ≤ 2147483647 ∧ s.i.n ≤ 2147483647 ∧ s.r.n ≤ 2147483647 ∧ xn ≤ 2147483647 ∧ yn ≤ 2147483647) := hsm
  have HX1 := cell_bl hb1 HX0.out
  clear hb1 H0 hsm HX0
  cases b
  · clear HX1
    go_wp2
    go_ret
    exact ⟨rfl, H1.out.low⟩
  have HX1h : Hid _ := HX1
  clear HX1
  go_wp2_with fail
  refine (awake_calls _).mono ?_
  rintro e w2 ⟨rfl, hb2⟩
  have H2 : Hid (Bk w w2 (w.heap.size + 1) #[.int .i64 c.letters, .int .i64 c.planes, .int .i64 c.regs, .int .i64 c.lo, .int .i64 c.hi, .int .i64 c.most, .slice s.t.a s.t.n s.t.c, .slice s.k.a s.k.n s.k.c, .slice s.i.a s.i.n s.i.c, .slice s.r.a s.r.n s.r.c]) := H1.out.next hb2
  have HX2 := cell_bl hb2 HX1h.out
  clear hb2 H1 HX1h

  have HSz : Hid (s.k.n ≤ 2147483647 ∧ s.i.n ≤ 2147483647) := ⟨(HSm.out trivial).2.1, (HSm.out trivial).2.2.1⟩
  clear HSm
  obtain ⟨z, hz⟩ : ∃ z, n.tmod 1024 = z := ⟨_, rfl⟩
  have HZ : Hid (-1023 ≤ z ∧ z ≤ 1023) := by
    show _ ∧ _
    have h1 := Int.tmod_lt_of_pos n (b := 1024) (by omega)
    have h2 := Int.lt_tmod_of_pos n (b := 1024) (by omega)
    omega
  have c0 := H2.out.cell 0 (.int .i64 c.letters) rfl
  have c1 := H2.out.cell 1 (.int .i64 c.planes) rfl
  have c2 := H2.out.cell 2 (.int .i64 c.regs) rfl
  have c3 := H2.out.cell 3 (.int .i64 c.lo) rfl
  have c4 := H2.out.cell 4 (.int .i64 c.hi) rfl
  have c5 := H2.out.cell 5 (.int .i64 c.most) rfl
  have c6 := H2.out.cell 6 (.slice s.t.a s.t.n s.t.c) rfl
  have c7 := H2.out.cell 7 (.slice s.k.a s.k.n s.k.c) rfl
  have c8 := H2.out.cell 8 (.slice s.i.a s.i.n s.i.c) rfl
  have c9 := H2.out.cell 9 (.slice s.r.a s.r.n s.r.c) rfl
  have HB : Hid (Cq w #[.int .i64 c.letters, .int .i64 c.planes, .int .i64 c.regs, .int .i64 c.lo, .int .i64 c.hi, .int .i64 c.most, .slice s.t.a s.t.n s.t.c, .slice s.k.a s.k.n s.k.c, .slice s.i.a s.i.n s.i.c, .slice s.r.a s.r.n s.r.c] #[.int .i64 c.letters, .int .i64 c.planes, .int .i64 c.regs, .int .i64 c.lo, .int .i64 c.hi, .int .i64 c.most, .slice s.t.a s.t.n s.t.c, .slice s.k.a s.k.n s.k.c, .slice s.i.a s.i.n s.i.c, .slice s.r.a s.r.n s.r.c] w2.heap.size (w2.alloc (.cells #[.int .i64 c.letters, .int .i64 c.planes, .int .i64 c.regs, .int .i64 c.lo, .int .i64 c.hi, .int .i64 c.most, .slice s.t.a s.t.n s.t.c, .slice s.k.a s.k.n s.k.c, .slice s.i.a s.i.n s.i.c, .slice s.r.a s.r.n s.r.c] 26))) := ⟨H2.out.low.trans ((below_new _).mono H2.out.low.size), (row_next H2.out.box (below_new _)), heap_alloc_new _ _, lt_block H2.out.box⟩
  go_upto_region 10 with (fail)
  obtain ⟨bd, hbd⟩ : ∃ bd, w2.heap.size = bd := ⟨_, rfl⟩
  rw [hbd] at HB ⊢
  clear hbd c0 c1 c2 c3 c4 c5 c6 c7 c8 c9 H2 HX2 hz
  generalize w2.alloc (.cells #[.int .i64 c.letters, .int .i64 c.planes, .int .i64 c.regs, .int .i64 c.lo, .int .i64 c.hi, .int .i64 c.most, .slice s.t.a s.t.n s.t.c, .slice s.k.a s.k.n s.k.c, .slice s.i.a s.i.n s.i.c, .slice s.r.a s.r.n s.r.c] 26) = wA at *
  have x0 := HB.out.c 7 (.slice s.k.a s.k.n s.k.c) rfl
  obtain ⟨i1, hi1, hz1a, hz1b, hz1c⟩ := info_parts info3
  have hsz := HSz.out
  go_wp2_with (at_make; refine wpList_make_full _ rfl _ _ 22 rfl wA.heap.size 3 i1 (.int .i64 0) 1 Try.underlying22 hi1 hz1a hz1b .i64 .i64 _ _ (s.k.n) rfl rfl (by omega) (by omega) (by rw [hz1c]; omega) (by unfold maxLen; omega) (Nat.le_refl _) ?_)
  intro wa hown hgrow
  have HM : Hid (Laid wA 3 (List.replicate (s.k.n) (.int .i64 0)) wa) := by
    rw [made_one] at hown
    have hm := made_block hown hgrow
    exact ⟨hm.1, hm.2⟩
  clear hown hgrow x0 hi1 hz1a hz1b hz1c i1 hsz
  have y0 := (HB.out.next HM.out.low).d 7 (.slice s.k.a s.k.n s.k.c) rfl
  have f0 := (HB.out.next HM.out.low).fz 7
  have HB2 : Hid (Cq w #[.int .i64 c.letters, .int .i64 c.planes, .int .i64 c.regs, .int .i64 c.lo, .int .i64 c.hi, .int .i64 c.most, .slice s.t.a s.t.n s.t.c, .slice s.k.a s.k.n s.k.c, .slice s.i.a s.i.n s.i.c, .slice s.r.a s.r.n s.r.c] #[.int .i64 c.letters, .int .i64 c.planes, .int .i64 c.regs, .int .i64 c.lo, .int .i64 c.hi, .int .i64 c.most, .slice s.t.a s.t.n s.t.c, .slice (some ⟨wA.heap.size, 0, none⟩) s.k.n s.k.n, .slice s.i.a s.i.n s.i.c, .slice s.r.a s.r.n s.r.c] bd (wa.setCell ⟨bd, 7, none⟩ (.slice (some ⟨wA.heap.size, 0, none⟩) s.k.n s.k.n))) := (HB.out.next HM.out.low).put 7 _ rfl
  have HM2 : Hid ((wa.setCell ⟨bd, 7, none⟩ (.slice (some ⟨wA.heap.size, 0, none⟩) s.k.n s.k.n)).heap[wA.heap.size]? = some (.cells (List.replicate (s.k.n) (.int .i64 0)).toArray 3 (0, 0))) := (HB.out.next HM.out.low).row 7 _ (by decide) HM.out.row
  have HGe : Hid (bd < wA.heap.size) := lt_block HB.out.dbx
  go_upto_region 11 with (fail)
  clear y0 f0 HM HB
  generalize (wa.setCell ⟨bd, 7, none⟩ (.slice (some ⟨wA.heap.size, 0, none⟩) s.k.n s.k.n)) = wb at *
  obtain ⟨gc, hg⟩ : ∃ g, wA.heap.size = g := ⟨_, rfl⟩
  rw [hg] at HB2 HM2 HGe ⊢
  clear hg
  have x0 := HB2.out.c 7 (.slice s.k.a s.k.n s.k.c) rfl
  have y0 := HB2.out.d 7 (.slice (some ⟨gc, 0, none⟩) s.k.n s.k.n) rfl
  go_wp2_with (refine wpList_copyG Try.underlying22 size3 rfl (.tmp 52) (.tmp 54) rfl gc (s.k.n) (s.k.n) (s.k.a) (s.k.n) (s.k.c) rfl rfl (HNk.out.1) _ HM2.out (intVals c.consts) ?c0 ((HC.out.1.below HB2.out.low).consts.source) ?c1 (ints_oneC _) gc _ (Below.refl _ _) (Nat.le_refl _) ?_)
  case c0 => rw [intVals_length, HLn.out.1]; show _ = Nat.min s.k.n s.k.n * 1; rw [show Nat.min s.k.n s.k.n = s.k.n from Nat.min_eq_left (by omega)]; omega
  case c1 => rw [intVals_length, HLn.out.1]; first | (simp; done) | (simp; omega)
  intro wB hrow hlow vcopy
  have HB : Hid _ := HB2.out.nextB HGe.out hlow
  have HRk : Hid (wB.heap[gc]? = some (.cells (intVals c.consts).toArray 3 (0, 0))) := by
    show _ = _
    rw [hrow, intVals_length, HLn.out.1]
    simp
  have HGk : Hid (bd < gc) := HGe.out
  go_upto_region 12 with (fail)
  clear hrow hlow HB2 HM2 x0 y0 HGe
  have x0 := HB.out.c 8 (.slice s.i.a s.i.n s.i.c) rfl
  obtain ⟨i1, hi1, hz1a, hz1b, hz1c⟩ := info_parts info35
  have hsz := HSz.out
  go_wp2_with (at_make; refine wpList_make_full _ rfl _ _ 23 rfl wB.heap.size 39 i1 (.agg #[.int .i64 0, .int .i64 0, .int .i64 0, .int .i64 0]) 4 Try.underlying23 hi1 hz1a hz1b .i64 .i64 _ _ (s.i.n) rfl rfl (by omega) (by omega) (by rw [hz1c]; omega) (by unfold maxLen; omega) (Nat.le_refl _) ?_)
  intro wa hown hgrow
  have HM : Hid (Laid wB 39 (List.replicate (s.i.n * 4) (.int .i64 0)) wa) := by
    rw [made_four] at hown
    have hm := made_block hown hgrow
    exact ⟨hm.1, hm.2⟩
  clear hown hgrow x0 hi1 hz1a hz1b hz1c i1 hsz
  have y0 := (HB.out.next HM.out.low).d 8 (.slice s.i.a s.i.n s.i.c) rfl
  have f0 := (HB.out.next HM.out.low).fz 8
  have HB2 : Hid (Cq w #[.int .i64 c.letters, .int .i64 c.planes, .int .i64 c.regs, .int .i64 c.lo, .int .i64 c.hi, .int .i64 c.most, .slice s.t.a s.t.n s.t.c, .slice s.k.a s.k.n s.k.c, .slice s.i.a s.i.n s.i.c, .slice s.r.a s.r.n s.r.c] #[.int .i64 c.letters, .int .i64 c.planes, .int .i64 c.regs, .int .i64 c.lo, .int .i64 c.hi, .int .i64 c.most, .slice s.t.a s.t.n s.t.c, .slice (some ⟨gc, 0, none⟩) s.k.n s.k.n, .slice (some ⟨wB.heap.size, 0, none⟩) s.i.n s.i.n, .slice s.r.a s.r.n s.r.c] bd (wa.setCell ⟨bd, 8, none⟩ (.slice (some ⟨wB.heap.size, 0, none⟩) s.i.n s.i.n))) := (HB.out.next HM.out.low).put 8 _ rfl
  have HM2 : Hid ((wa.setCell ⟨bd, 8, none⟩ (.slice (some ⟨wB.heap.size, 0, none⟩) s.i.n s.i.n)).heap[wB.heap.size]? = some (.cells (List.replicate (s.i.n * 4) (.int .i64 0)).toArray 39 (0, 0))) := (HB.out.next HM.out.low).row 8 _ (by decide) HM.out.row
  have HRk2 : Hid ((wa.setCell ⟨bd, 8, none⟩ (.slice (some ⟨wB.heap.size, 0, none⟩) s.i.n s.i.n)).heap[gc]? = some (.cells (intVals c.consts).toArray 3 (0, 0))) := (HB.out.next HM.out.low).row 8 _ (by decide) (row_next HRk.out HM.out.low)
  have HGk2 : Hid (gc < wB.heap.size) := lt_block HRk.out
  have HGe : Hid (bd < wB.heap.size) := lt_block HB.out.dbx
  go_upto_region 13 with (fail)
  clear y0 f0 HM HB HRk
  generalize (wa.setCell ⟨bd, 8, none⟩ (.slice (some ⟨wB.heap.size, 0, none⟩) s.i.n s.i.n)) = wb at *
  obtain ⟨gi, hg⟩ : ∃ g, wB.heap.size = g := ⟨_, rfl⟩
  rw [hg] at HB2 HM2 HGe HGk2 ⊢
  clear hg
  have x0 := HB2.out.c 8 (.slice s.i.a s.i.n s.i.c) rfl
  have y0 := HB2.out.d 8 (.slice (some ⟨gi, 0, none⟩) s.i.n s.i.n) rfl
  go_wp2_with (refine wpList_copyG Try.underlying23 size35 rfl (.tmp 62) (.tmp 64) rfl gi (s.i.n) (s.i.n) (s.i.a) (s.i.n) (s.i.c) rfl rfl (HNk.out.2) _ HM2.out (qdVals c.cell) ?c0 ((HC.out.1.below HB2.out.low).cell.source) ?c1 (qds_oneC _) gi _ (Below.refl _ _) (Nat.le_refl _) ?_)
  case c0 => rw [qdVals_length, HLn.out.2]; show _ = Nat.min s.i.n s.i.n * 4; rw [show Nat.min s.i.n s.i.n = s.i.n from Nat.min_eq_left (by omega)]
  case c1 => rw [qdVals_length, HLn.out.2]; first | (simp; done) | (simp; omega)
  intro wC hrow hlow vcopy
  have HB : Hid _ := HB2.out.nextB HGe.out hlow
  have HRi : Hid (wC.heap[gi]? = some (.cells (qdVals c.cell).toArray 39 (0, 0))) := by
    show _ = _
    rw [hrow, qdVals_length, HLn.out.2]
    simp
  have HGi : Hid (bd < gi) := HGe.out
  have HRk : Hid (wC.heap[gc]? = some (.cells (intVals c.consts).toArray 3 (0, 0))) := by show _ = _; rw [hlow.block _ HGk2.out]; exact HRk2.out
  clear HRk2 HGk2
  go_upto_region 14 with (fail)
  clear hrow hlow HB2 HM2 x0 y0 HGe
  have HS0 : Hid (Sh w #[.int .i64 c.letters, .int .i64 c.planes, .int .i64 c.regs, .int .i64 c.lo, .int .i64 c.hi, .int .i64 c.most, .slice s.t.a s.t.n s.t.c, .slice s.k.a s.k.n s.k.c, .slice s.i.a s.i.n s.i.c, .slice s.r.a s.r.n s.r.c] #[.int .i64 c.letters, .int .i64 c.planes, .int .i64 c.regs, .int .i64 c.lo, .int .i64 c.hi, .int .i64 c.most, .slice s.t.a s.t.n s.t.c, .slice (some ⟨gc, 0, none⟩) c.consts.length c.consts.length, .slice (some ⟨gi, 0, none⟩) s.i.n s.i.n, .slice s.r.a s.r.n s.r.c] bd gi (.slice (some ⟨gc, 0, none⟩) c.consts.length c.consts.length) c.consts c.cell wC) := by
    rw [HLn.out.1]
    refine ⟨HB.out, ?_, HRi.out, HGi.out⟩
    have := own_row (base := bd) HRk.out (by have := HGk.out; omega) (by rw [HLn.out.1]; have := HSz.out; unfold maxLen; omega)
    rw [HLn.out.1] at this ⊢
    exact this
  clear HB HRk HRi HGk HGi
  have hsz := HSz.out
  go_wp2
  go_loopg [9] s.i.n (fun g iv wr => ∃ (i : Nat) (ao : Option Addr) (cap : Nat), i + g = s.i.n ∧ iv = .int .i64 i ∧ Hid (Sh w #[.int .i64 c.letters, .int .i64 c.planes, .int .i64 c.regs, .int .i64 c.lo, .int .i64 c.hi, .int .i64 c.most, .slice s.t.a s.t.n s.t.c, .slice s.k.a s.k.n s.k.c, .slice s.i.a s.i.n s.i.c, .slice s.r.a s.r.n s.r.c] #[.int .i64 c.letters, .int .i64 c.planes, .int .i64 c.regs, .int .i64 c.lo, .int .i64 c.hi, .int .i64 c.most, .slice s.t.a s.t.n s.t.c, .slice ao (c.consts ++ shK c z (c.cell.take i)).length cap, .slice (some ⟨gi, 0, none⟩) s.i.n s.i.n, .slice s.r.a s.r.n s.r.c] bd gi (.slice ao (c.consts ++ shK c z (c.cell.take i)).length cap) (c.consts ++ shK c z (c.cell.take i)) (shI c c.consts.length (c.cell.take i) ++ c.cell.drop i) wr))
  case atStart => exact ⟨0, some ⟨gc, 0, none⟩, c.consts.length, by omega, rfl, by have := HS0.out; show Sh _ _ _ _ _ _ _ _ _; simpa [shK, shI] using this⟩
  case round =>
    clear HS0
    obtain ⟨i, ao, cap, hiq, rfl, HS⟩ := hrel
    have c8 := HS.out.q.c 8 (.slice s.i.a s.i.n s.i.c) rfl
    by_cases hi : i < s.i.n
    rotate_left
    · have hd : decide ((i : Int) < (s.i.n : Int)) = false := decide_eq_false (by omega)
      have hin : i = s.i.n := by omega
      subst hin
      have e1 : c.cell.take s.i.n = c.cell := by rw [← HLn.out.2]; exact List.take_length
      have e2 : c.cell.drop s.i.n = [] := by rw [← HLn.out.2]; exact List.drop_length
      rw [e1, e2, List.append_nil] at HS
      clear e1 e2
      have HKb : Hid ((c.consts ++ shK c z c.cell).length ≤ maxLen ∧ (shI c c.consts.length c.cell).length = s.i.n) := by
        refine ⟨?_, by rw [shI_length]; exact HLn.out.2⟩
        rw [List.length_append]
        have h1 := shK_length c z c.cell
        have h2 := HLn.out.1
        have h3 := HLn.out.2
        have h4 := HSz.out
        unfold maxLen
        omega
      have HAt : Hid (∀ W, Below wr.heap.size wr W → CdAt W (shD c z) ⟨s.t, ⟨ao, (c.consts ++ shK c z c.cell).length, cap⟩, ⟨some ⟨gi, 0, none⟩, s.i.n, s.i.n⟩, s.r⟩) := fun W hW => by
        obtain ⟨h1, h2⟩ := HS.out.at' (by rw [HKb.out.2]; have := HSz.out; unfold maxLen; omega)
        rw [HKb.out.2] at h2
        have hl := HS.out.q.low.trans (hW.mono HS.out.q.low.size)
        exact ⟨HC.out.1.table.below hl, h1.below hW, h2.below hW, HC.out.1.arrows.below hl⟩
      have HBx : Hid (Bk w wr (w.heap.size + 1) #[.int .i64 c.letters, .int .i64 c.planes, .int .i64 c.regs, .int .i64 c.lo, .int .i64 c.hi, .int .i64 c.most, .slice s.t.a s.t.n s.t.c, .slice s.k.a s.k.n s.k.c, .slice s.i.a s.i.n s.i.c, .slice s.r.a s.r.n s.r.c] ∧ Bk w wr bd #[.int .i64 c.letters, .int .i64 c.planes, .int .i64 c.regs, .int .i64 c.lo, .int .i64 c.hi, .int .i64 c.most, .slice s.t.a s.t.n s.t.c, .slice ao (c.consts ++ shK c z c.cell).length cap, .slice (some ⟨gi, 0, none⟩) s.i.n s.i.n, .slice s.r.a s.r.n s.r.c]) := ⟨⟨HS.out.q.low, HS.out.q.box⟩, ⟨HS.out.q.low, HS.out.q.dbx⟩⟩
      clear HS HKb hsz
      obtain ⟨ks, hks⟩ : ∃ ks : Nat, (c.consts ++ shK c z c.cell).length = ks := ⟨_, rfl⟩
      rw [hks] at HAt HBx
      clear hks c8
      have c0 := HBx.out.1.cell 0 (.int .i64 c.letters) rfl
      have c1 := HBx.out.1.cell 1 (.int .i64 c.planes) rfl
      have c2 := HBx.out.1.cell 2 (.int .i64 c.regs) rfl
      have c3 := HBx.out.1.cell 3 (.int .i64 c.lo) rfl
      have c4 := HBx.out.1.cell 4 (.int .i64 c.hi) rfl
      have c5 := HBx.out.1.cell 5 (.int .i64 c.most) rfl
      have c6 := HBx.out.1.cell 6 (.slice s.t.a s.t.n s.t.c) rfl
      have c7 := HBx.out.1.cell 7 (.slice s.k.a s.k.n s.k.c) rfl
      have c8 := HBx.out.1.cell 8 (.slice s.i.a s.i.n s.i.c) rfl
      have c9 := HBx.out.1.cell 9 (.slice s.r.a s.r.n s.r.c) rfl
      go_wp2_with fail
      refine (dcheck_calls c s _ (HC.out.1.below HBx.out.1.low)).mono ?_
      rintro e w4 ⟨rfl, hb4⟩
      have HB4 : Hid (Bk w w4 (w.heap.size + 1) #[.int .i64 c.letters, .int .i64 c.planes, .int .i64 c.regs, .int .i64 c.lo, .int .i64 c.hi, .int .i64 c.most, .slice s.t.a s.t.n s.t.c, .slice s.k.a s.k.n s.k.c, .slice s.i.a s.i.n s.i.c, .slice s.r.a s.r.n s.r.c] ∧ Bk w w4 bd #[.int .i64 c.letters, .int .i64 c.planes, .int .i64 c.regs, .int .i64 c.lo, .int .i64 c.hi, .int .i64 c.most, .slice s.t.a s.t.n s.t.c, .slice ao ks cap, .slice (some ⟨gi, 0, none⟩) s.i.n s.i.n, .slice s.r.a s.r.n s.r.c] ∧ Below wr.heap.size wr w4) := ⟨HBx.out.1.next hb4, HBx.out.2.next hb4, hb4⟩
      clear hb4 HBx c0 c1 c2 c3 c4 c5 c6 c7 c8 c9
      obtain ⟨er, her⟩ : ∃ er, (chkB c).2 = er := ⟨_, rfl⟩
      obtain ⟨at1, hat⟩ : ∃ a, (chkB c).1 = a := ⟨_, rfl⟩
      have HEr : Hid ((chkB c).2 = er) := her
      rw [her, hat]
      clear her hat
      have d0 := HB4.out.2.1.cell 0 (.int .i64 c.letters) rfl
      have d1 := HB4.out.2.1.cell 1 (.int .i64 c.planes) rfl
      have d2 := HB4.out.2.1.cell 2 (.int .i64 c.regs) rfl
      have d3 := HB4.out.2.1.cell 3 (.int .i64 c.lo) rfl
      have d4 := HB4.out.2.1.cell 4 (.int .i64 c.hi) rfl
      have d5 := HB4.out.2.1.cell 5 (.int .i64 c.most) rfl
      have d6 := HB4.out.2.1.cell 6 (.slice s.t.a s.t.n s.t.c) rfl
      have d7 := HB4.out.2.1.cell 7 (.slice ao ks cap) rfl
      have d8 := HB4.out.2.1.cell 8 (.slice (some ⟨gi, 0, none⟩) s.i.n s.i.n) rfl
      have d9 := HB4.out.2.1.cell 9 (.slice s.r.a s.r.n s.r.c) rfl
      go_wp2_with fail
      refine (dcheck_calls (shD c z) ⟨s.t, ⟨ao, ks, cap⟩, ⟨some ⟨gi, 0, none⟩, s.i.n, s.i.n⟩, s.r⟩ _ (HAt.out _ HB4.out.2.2)).mono ?_
      rintro e w5 ⟨rfl, hb5⟩
      have HB5 : Hid (Bk w w5 (w.heap.size + 1) #[.int .i64 c.letters, .int .i64 c.planes, .int .i64 c.regs, .int .i64 c.lo, .int .i64 c.hi, .int .i64 c.most, .slice s.t.a s.t.n s.t.c, .slice s.k.a s.k.n s.k.c, .slice s.i.a s.i.n s.i.c, .slice s.r.a s.r.n s.r.c] ∧ Bk w w5 bd #[.int .i64 c.letters, .int .i64 c.planes, .int .i64 c.regs, .int .i64 c.lo, .int .i64 c.hi, .int .i64 c.most, .slice s.t.a s.t.n s.t.c, .slice ao ks cap, .slice (some ⟨gi, 0, none⟩) s.i.n s.i.n, .slice s.r.a s.r.n s.r.c] ∧ Below wr.heap.size wr w5) := ⟨HB4.out.1.next hb5, HB4.out.2.1.next hb5, HB4.out.2.2.trans (hb5.mono HB4.out.2.2.size)⟩
      clear hb5 HB4 d0 d1 d2 d3 d4 d5 d6 d7 d8 d9
      obtain ⟨er2, her2⟩ : ∃ er, (chkB (shD c z)).2 = er := ⟨_, rfl⟩
      obtain ⟨at2, hat2⟩ : ∃ a, (chkB (shD c z)).1 = a := ⟨_, rfl⟩
      have HEr2 : Hid ((chkB (shD c z)).2 = er2) := her2
      rw [her2, hat2]
      clear her2 hat2
      have c0 := HB5.out.1.cell 0 (.int .i64 c.letters) rfl
      have c1 := HB5.out.1.cell 1 (.int .i64 c.planes) rfl
      have c2 := HB5.out.1.cell 2 (.int .i64 c.regs) rfl
      have c3 := HB5.out.1.cell 3 (.int .i64 c.lo) rfl
      have c4 := HB5.out.1.cell 4 (.int .i64 c.hi) rfl
      have c5 := HB5.out.1.cell 5 (.int .i64 c.most) rfl
      have c6 := HB5.out.1.cell 6 (.slice s.t.a s.t.n s.t.c) rfl
      have c7 := HB5.out.1.cell 7 (.slice s.k.a s.k.n s.k.c) rfl
      have c8 := HB5.out.1.cell 8 (.slice s.i.a s.i.n s.i.c) rfl
      have c9 := HB5.out.1.cell 9 (.slice s.r.a s.r.n s.r.c) rfl
      go_wp2_with fail
      refine (run_calls c s ⟨xa, xn, xc⟩ ⟨ya, yn, yc⟩ x y _ (HC.out.1.below HB5.out.1.low) (HC.out.2.1.below HB5.out.1.low) (HC.out.2.2.below HB5.out.1.low)).mono ?_
      rintro e w6 ⟨hb6, r, rfl, hr1, hr0⟩
      rw [HEr.out] at hr1 hr0 ⊢
      have HB6 : Hid (Bk w w6 bd #[.int .i64 c.letters, .int .i64 c.planes, .int .i64 c.regs, .int .i64 c.lo, .int .i64 c.hi, .int .i64 c.most, .slice s.t.a s.t.n s.t.c, .slice ao ks cap, .slice (some ⟨gi, 0, none⟩) s.i.n s.i.n, .slice s.r.a s.r.n s.r.c] ∧ Below wr.heap.size wr w6) := ⟨HB5.out.2.1.next hb6, HB5.out.2.2.trans (hb6.mono HB5.out.2.2.size)⟩
      have HR1 : Hid (refB er c x y ≠ 0 → r = .pointer none) := hr1
      have HR0 : Hid (refB er c x y = 0 → ∃ g gs sa, r = .pointer (some ⟨g, 0, none⟩) ∧ Tb w6 g gs c.planes.toNat x.length y.length sa (runM c x y).slots (runM c x y).ends (runM c x y).steps) := fun h => by
        obtain ⟨g, gs, sa, q1, _, q3, _⟩ := hr0 h
        exact ⟨g, gs, sa, q1, q3⟩
      clear hb6 hr1 hr0 HB5 c0 c1 c2 c3 c4 c5 c6 c7 c8 c9
      obtain ⟨R, hR⟩ : ∃ R, refB er c x y = R := ⟨_, rfl⟩
      have HR : Hid (refB er c x y = R) := hR
      rw [hR] at HR1 HR0 ⊢
      clear hR
      have d0 := HB6.out.1.cell 0 (.int .i64 c.letters) rfl
      have d1 := HB6.out.1.cell 1 (.int .i64 c.planes) rfl
      have d2 := HB6.out.1.cell 2 (.int .i64 c.regs) rfl
      have d3 := HB6.out.1.cell 3 (.int .i64 c.lo) rfl
      have d4 := HB6.out.1.cell 4 (.int .i64 c.hi) rfl
      have d5 := HB6.out.1.cell 5 (.int .i64 c.most) rfl
      have d6 := HB6.out.1.cell 6 (.slice s.t.a s.t.n s.t.c) rfl
      have d7 := HB6.out.1.cell 7 (.slice ao ks cap) rfl
      have d8 := HB6.out.1.cell 8 (.slice (some ⟨gi, 0, none⟩) s.i.n s.i.n) rfl
      have d9 := HB6.out.1.cell 9 (.slice s.r.a s.r.n s.r.c) rfl
      go_wp2_with fail
      refine (run_calls (shD c z) ⟨s.t, ⟨ao, ks, cap⟩, ⟨some ⟨gi, 0, none⟩, s.i.n, s.i.n⟩, s.r⟩ ⟨xa, xn, xc⟩ ⟨ya, yn, yc⟩ x y _ (HAt.out _ HB6.out.2) (HC.out.2.1.below HB6.out.1.low) (HC.out.2.2.below HB6.out.1.low)).mono ?_
      rintro e w7 ⟨hb7, r2, rfl, hr1, hr0⟩
      rw [HEr2.out] at hr1 hr0 ⊢
      have HL7 : Hid (Below w.heap.size w w7 ∧ Below w6.heap.size w6 w7) := ⟨HB6.out.1.low.trans (hb7.mono HB6.out.1.low.size), hb7⟩
      have HR21 : Hid (refB er2 (shD c z) x y ≠ 0 → r2 = .pointer none) := hr1
      have HR20 : Hid (refB er2 (shD c z) x y = 0 → ∃ g gs sa, r2 = .pointer (some ⟨g, 0, none⟩) ∧ Tb w7 g gs c.planes.toNat x.length y.length sa (runM (shD c z) x y).slots (runM (shD c z) x y).ends (runM (shD c z) x y).steps) := fun h => by
        obtain ⟨g, gs, sa, q1, _, q3, _⟩ := hr0 h
        exact ⟨g, gs, sa, q1, q3⟩
      clear hb7 hr1 hr0 HB6 HAt d0 d1 d2 d3 d4 d5 d6 d7 d8 d9
      obtain ⟨R2, hR2⟩ : ∃ R, refB er2 (shD c z) x y = R := ⟨_, rfl⟩
      have HR2 : Hid (refB er2 (shD c z) x y = R2) := hR2
      rw [hR2] at HR21 HR20 ⊢
      clear hR2 hi hd
      by_cases h0 : er = 0
      rotate_left
      · have hd : (er != 0) = true := by simp [h0]
        have hdz : (er == 0) = false := by simp [h0]
        have hRe : R = er := by rw [← HR.out]; unfold refB; rw [if_pos h0]
        subst hRe
        obtain rfl := HR1.out h0
        have hee : (R == R) = true := by simp
        by_cases h2 : er2 = 0
        · subst h2
          clear h0
          go_wp2
          go_ret
          exact ⟨rfl, HL7.out.1⟩
        · have hd2 : (er2 != 0) = true := by simp [h2]
          have hdz2 : (er2 == 0) = false := by simp [h2]
          have hRe2 : R2 = er2 := by rw [← HR2.out]; unfold refB; rw [if_pos h2]
          subst hRe2
          obtain rfl := HR21.out h2
          have hee2 : (R2 == R2) = true := by simp
          clear h0 h2
          go_wp2
          go_ret
          exact ⟨rfl, HL7.out.1⟩
      subst h0
      by_cases h2 : er2 = 0
      rotate_left
      · have hd2 : (er2 != 0) = true := by simp [h2]
        have hdz2 : (er2 == 0) = false := by simp [h2]
        have hRe2 : R2 = er2 := by rw [← HR2.out]; unfold refB; rw [if_pos h2]
        subst hRe2
        obtain rfl := HR21.out h2
        have hee2 : (R2 == R2) = true := by simp
        clear h2
        go_wp2
        go_ret
        exact ⟨rfl, HL7.out.1⟩
      subst h2
      have hRR : R2 = R := by
        have := ref_sh c z x y HEr.out HEr2.out
        rw [HEr.out, HEr2.out, HR.out, HR2.out] at this
        exact this
      subst hRR
      by_cases hR0 : R2 = 0
      rotate_left
      · obtain rfl := HR1.out hR0
        obtain rfl := HR21.out hR0
        have hrd : (R2 != 0) = true := by simp [hR0]
        have hrr : (R2 != R2) = false := by simp
        clear hR0
        go_wp2
        go_ret
        exact ⟨rfl, HL7.out.1⟩
      obtain ⟨g, gs, sa, rfl, hT⟩ := HR0.out hR0
      obtain ⟨g2, gs2, sa2, rfl, hT2⟩ := HR20.out hR0
      have hrf : refB (chkB c).2 c x y = 0 := by rw [HEr.out, HR.out]; exact hR0
      have HOk : Hid ((x.length : Int) ≤ c.most ∧ (y.length : Int) ≤ c.most) := (ref_0 hrf).2.1
      have HShE := sh_ends HEr.out HEr2.out HZ.out x y HOk.out.1 HOk.out.2
      have hsb := (run_small (gk_of HEr.out) x y HOk.out.1 HOk.out.2).2
      subst hR0
      have HTT : Hid (Tb w7 g gs c.planes.toNat x.length y.length sa (runM c x y).slots (runM c x y).ends (runM c x y).steps ∧ Tb w7 g2 gs2 c.planes.toNat x.length y.length sa2 (runM (shD c z) x y).slots (runM (shD c z) x y).ends (runM (shD c z) x y).steps) := ⟨hT.next HL7.out.2, hT2⟩
      clear hT hT2 hrf HR0 HR1 HR20 HR21 HR HR2
      generalize (runM c x y).ends = E at *
      generalize (runM (shD c z) x y).ends = E2 at *
      obtain ⟨fd, sc, ei, ej, pl⟩ := E
      obtain ⟨fd2, sc2, ei2, ej2, pl2⟩ := E2
      obtain ⟨q1, q2, q3, q4, q5⟩ := HShE
      simp only at q1 q2 q3 q4 q5 hsb
      subst q1 q2 q3 q4
      have HQ5 : Hid (fd2 = true → sc2 = sc + z) := q5
      have HSb : Hid (bnd 4611686018427387904 sc) := hsb
      clear q5 hsb
      go_wp2_with fail
      refine (best_calls HTT.out.1).mono ?_
      rintro e w8 ⟨la, lc, rfl, ho, hb8⟩
      obtain ⟨RB, hRB⟩ : ∃ RB, risB ⟨fd2, sc, ei2, ej2, pl2⟩ = RB := ⟨_, rfl⟩
      have HRB : Hid (risB ⟨fd2, sc2, ei2, ej2, pl2⟩ = RB) := hRB
      have hl10 : RB.length ≤ 10 := by rw [← hRB]; unfold risB; rw [List.length_map]; exact Nat.le_trans (List.length_filter_le _ _) (by simp)
      rw [hRB] at ho ⊢
      clear hRB
      have HO : Hid (w8.ownsRow w7.heap.size 3 1 (.slice la RB.length lc) RB.length (intVals RB) ∧ Below w.heap.size w w8) := ⟨ho, HL7.out.1.trans (hb8.mono HL7.out.1.size)⟩
      have HT8 : Hid _ := HTT.out.2.next hb8
      clear hb8 HTT ho
      go_wp2_with fail
      refine (best_calls HT8.out).mono ?_
      rintro e w9 ⟨lb, ld, rfl, ho2, hb9⟩
      rw [HRB.out] at ho2 ⊢
      have HOO : Hid (w9.ownsRow w7.heap.size 3 1 (.slice la RB.length lc) RB.length (intVals RB) ∧ w9.ownsRow w8.heap.size 3 1 (.slice lb RB.length ld) RB.length (intVals RB) ∧ Below w.heap.size w w9) := ⟨owned_below HO.out.1 hb9, ho2, HO.out.2.trans (hb9.mono HO.out.2.size)⟩
      clear hb9 HO HT8 ho2
      have HGet : Hid (∀ p, p < RB.length → (intVals RB)[p]? = some (.int .i64 (RB.getD p 0))) := fun p hp => by
        rw [intVals, List.getElem?_map, getD_get hp]; rfl
      obtain ⟨ln, hln⟩ : ∃ ln, RB.length = ln := ⟨_, rfl⟩
      rw [hln] at HOO HGet hl10 ⊢
      clear hln
      have hff : (fd2 != fd2) = false := by simp
      have hll : ((ln : Int) != (ln : Int)) = false := by simp
      go_wp2
      clear hff hll
      go_loopg [28] ln (fun q pv wr => ∃ p : Nat, p + q = ln ∧ pv = .int .i64 p ∧ Hid (wr.ownsRow w7.heap.size 3 1 (.slice la ln lc) ln (intVals RB) ∧ wr.ownsRow w8.heap.size 3 1 (.slice lb ln ld) ln (intVals RB) ∧ Below w.heap.size w wr))
      case atStart => exact ⟨0, by omega, rfl, HOO.out⟩
      case round =>
        clear HOO
        obtain ⟨p, hpq, rfl, HP⟩ := hrel
        by_cases hp : p < ln
        rotate_left
        · have hd : decide ((p : Int) < (ln : Int)) = false := decide_eq_false (by omega)
          cases fd2 with
          | false =>
            go_wp2
            go_ret
            exact ⟨rfl, HP.out.2.2⟩
          | true =>
            have hsc := HQ5.out rfl
            have hb := HSb.out
            unfold bnd at hb
            obtain ⟨hb1, hb2⟩ := hb
            obtain ⟨hz1, hz2⟩ := HZ.out
            clear HQ5
            subst hsc
            go_wp2
            go_ret
            exact ⟨rfl, HP.out.2.2⟩
        have hd : decide ((p : Int) < (ln : Int)) = true := decide_eq_true (by omega)
        obtain ⟨ga, ca, hea, _⟩ := owned_some HP.out.1 (by omega)
        obtain ⟨gb, cb, heb, _⟩ := owned_some HP.out.2.1 (by omega)
        cases hea
        cases heb
        have ea := (owned_cells HP.out.1 p _ (HGet.out p hp)).1
        have eb := (owned_cells HP.out.2.1 p _ (HGet.out p hp)).1
        generalize RB.getD p 0 = v at *
        have hvv : (v != v) = false := by simp
        have hgk : 0 < gk := by omega
        go_upto_region 37 with (fail)
        go_quiet (fail)
        have HPn : Hid (_ ∧ _ ∧ Below w.heap.size w (wr.drewN nq)) := ⟨owned_below HP.out.1 (below_drewN (Below.refl _ _) nq), owned_below HP.out.2.1 (below_drewN (Below.refl _ _) nq), HP.out.2.2.trans ((below_drewN (Below.refl _ _) nq).mono HP.out.2.2.size)⟩
        clear HP ea eb
        generalize wr.drewN nq = wq at *
        go_wp2
        go_roundg (gk - 1)
        case rel => exact ⟨p + 1, by omega, by go_num, HPn⟩
        case measure => omega
    have hd : decide ((i : Int) < (s.i.n : Int)) = true := decide_eq_true (by omega)
    obtain ⟨q, hq⟩ : ∃ q, c.cell[i]? = some q := ⟨c.cell[i]'(by rw [HLn.out.2]; exact hi), List.getElem?_eq_getElem _⟩
    have HQ : Hid (c.cell[i]? = some q) := hq
    obtain ⟨ib, ioff, hia, hic⟩ := HC.out.1.cell.cells (by omega)
    obtain ⟨a1, a2, a3, a4⟩ := hic i q hq
    have HA3 : Hid (w.cell? ⟨ib, ioff + i * 4 + 2, none⟩ = some (.int .i64 q.2.2.1)) := a3
    have a1 := cell_bl HS.out.q.low a1
    have a3 := cell_bl HS.out.q.low a3
    have c7 := HS.out.q.c 7 (.slice s.k.a s.k.n s.k.c) rfl
    rw [hia] at c8
    have hli : ib < w.heap.size := World.block_lt_of_cell? _ _ a2
    have HIa : Hid (s.i.a = some ⟨ib, ioff, none⟩) := hia
    clear a2 a4 hq hia hic
    have hgk : 0 < gk := by omega
    obtain ⟨K, hK0⟩ : ∃ K, c.consts ++ shK c z (c.cell.take i) = K := ⟨_, rfl⟩
    obtain ⟨L, hL0⟩ : ∃ L, shI c c.consts.length (c.cell.take i) ++ c.cell.drop i = L := ⟨_, rfl⟩
    have HKL : Hid (c.consts ++ shK c z (c.cell.take i) = K ∧ shI c c.consts.length (c.cell.take i) ++ c.cell.drop i = L) := ⟨hK0, hL0⟩
    have HLi : Hid (L[i]? = some q) := by show _ = _; rw [← hL0]; exact sh_at c _ i q HQ.out
    have HKl : Hid (K.length = c.consts.length + (shK c z (c.cell.take i)).length ∧ K.length ≤ s.k.n + s.i.n) := by
      show _ ∧ _
      rw [← hK0, List.length_append]
      have h1 := shK_length c z (c.cell.take i)
      have h2 : (c.cell.take i).length ≤ i := by simp; omega
      have := HLn.out.1
      omega
    rw [hK0, hL0] at HS
    clear hK0 hL0
    go_upto_region 17 with (fail)
    by_cases hs : isS c q = true
    rotate_left
    · have HNX : Hid (∀ W, Below wr.heap.size wr W → Sh w #[.int .i64 c.letters, .int .i64 c.planes, .int .i64 c.regs, .int .i64 c.lo, .int .i64 c.hi, .int .i64 c.most, .slice s.t.a s.t.n s.t.c, .slice s.k.a s.k.n s.k.c, .slice s.i.a s.i.n s.i.c, .slice s.r.a s.r.n s.r.c] #[.int .i64 c.letters, .int .i64 c.planes, .int .i64 c.regs, .int .i64 c.lo, .int .i64 c.hi, .int .i64 c.most, .slice s.t.a s.t.n s.t.c, .slice ao (c.consts ++ shK c z (c.cell.take (i + 1))).length cap, .slice (some ⟨gi, 0, none⟩) s.i.n s.i.n, .slice s.r.a s.r.n s.r.c] bd gi (.slice ao (c.consts ++ shK c z (c.cell.take (i + 1))).length cap) (c.consts ++ shK c z (c.cell.take (i + 1))) (shI c c.consts.length (c.cell.take (i + 1)) ++ c.cell.drop (i + 1)) W) := fun W hW => by
        rw [shk_skip c z i q HQ.out hs, ← sh_skip c _ i q HQ.out hs, HKL.out.1, HKL.out.2]
        exact HS.out.next hW
      obtain ⟨o, a, b, cc⟩ := q
      have hs2 : ¬ (o = 2 ∧ 0 ≤ b ∧ b < (s.k.n : Int)) := fun h => hs ((isS_iff c _).2 (by rw [HLn.out.1]; exact h))
      simp only at a1 a3
      clear hs HS HQ HKL HLi HKl
      by_cases ho : o = 2
      · subst ho
        by_cases hb : 0 ≤ b
        · have hk : decide (b < (s.k.n : Int)) = false := decide_eq_false (fun h => hs2 ⟨rfl, hb, h⟩)
          have hbd : decide (0 ≤ b) = true := decide_eq_true hb
          clear hs2 hb
          go_quiet (fail)
          have HN2 : Hid _ := HNX.out _ (below_drewN (Below.refl _ _) nq)
          clear HNX
          generalize wr.drewN nq = wq at *
          go_wp2
          go_roundg (gk - 1)
          case rel => exact ⟨i + 1, ao, cap, by omega, by go_num, HN2⟩
          case measure => omega
        · have hbd : decide (0 ≤ b) = false := decide_eq_false hb
          clear hs2 hb
          go_quiet (fail)
          have HN2 : Hid _ := HNX.out _ (below_drewN (Below.refl _ _) nq)
          clear HNX
          generalize wr.drewN nq = wq at *
          go_wp2
          go_roundg (gk - 1)
          case rel => exact ⟨i + 1, ao, cap, by omega, by go_num, HN2⟩
          case measure => omega
      · have hod : (o == 2) = false := by simpa using ho
        clear hs2 ho
        go_quiet (fail)
        have HN2 : Hid _ := HNX.out _ (below_drewN (Below.refl _ _) nq)
        clear HNX
        generalize wr.drewN nq = wq at *
        go_wp2
        go_roundg (gk - 1)
        case rel => exact ⟨i + 1, ao, cap, by omega, by go_num, HN2⟩
        case measure => omega
    obtain ⟨o, a, b, cc⟩ := q
    obtain ⟨ho, hb0, hbk⟩ := (isS_iff c _).1 hs
    have HQs : Hid (isS c (o, a, b, cc) = true) := hs
    simp only at ho hb0 hbk a1 a3
    subst ho
    obtain ⟨bn, rfl⟩ : ∃ bn : Nat, b = bn := ⟨b.toNat, by omega⟩
    rw [HLn.out.1] at hbk
    have hk : decide ((bn : Int) < (s.k.n : Int)) = true := decide_eq_true hbk
    have hbn : bn < s.k.n := by omega
    obtain ⟨kb, koff, hka, hkc⟩ := HC.out.1.consts.cells (by omega)
    have hkc := hkc bn (by first | exact hbn | (rw [HLn.out.1]; exact hbn))
    have hlk : kb < w.heap.size := World.block_lt_of_cell? _ _ hkc
    have HKc : Hid (w.cell? ⟨kb, koff + bn, none⟩ = some (.int .i64 (c.consts.getD bn 0)) ∧ w.cell? ⟨ib, ioff + i * 4 + 2, none⟩ = some (.int .i64 bn)) := ⟨hkc, HA3.out⟩
    rw [hka] at c7
    have HKa : Hid (s.k.a = some ⟨kb, koff, none⟩) := hka
    clear hka
    have hd0 : decide (0 ≤ (bn : Int)) = true := decide_eq_true hb0
    have HC7 : Hid (∀ (W : World) (L2 : List Qd), Sh w #[.int .i64 c.letters, .int .i64 c.planes, .int .i64 c.regs, .int .i64 c.lo, .int .i64 c.hi, .int .i64 c.most, .slice s.t.a s.t.n s.t.c, .slice s.k.a s.k.n s.k.c, .slice s.i.a s.i.n s.i.c, .slice s.r.a s.r.n s.r.c] #[.int .i64 c.letters, .int .i64 c.planes, .int .i64 c.regs, .int .i64 c.lo, .int .i64 c.hi, .int .i64 c.most, .slice s.t.a s.t.n s.t.c, .slice ao K.length cap, .slice (some ⟨gi, 0, none⟩) s.i.n s.i.n, .slice s.r.a s.r.n s.r.c] bd gi (.slice ao K.length cap) K L2 W → W.cell? ⟨w.heap.size + 1, 7, none⟩ = some (.slice (some ⟨kb, koff, none⟩) s.k.n s.k.c) ∧ W.cell? ⟨w.heap.size + 1, 8, none⟩ = some (.slice (some ⟨ib, ioff, none⟩) s.i.n s.i.c)) := fun W _ hW => by
      have h1 := hW.q.c 7 (.slice s.k.a s.k.n s.k.c) rfl
      have h2 := hW.q.c 8 (.slice s.i.a s.i.n s.i.c) rfl
      rw [HKa.out] at h1
      rw [HIa.out] at h2
      exact ⟨h1, h2⟩
    clear hkc hs hb0 hbk
    go_quiet (fail)
    have HS1 : Hid _ := HS.out.next (below_drewN (Below.refl _ _) nq)
    clear HS HA3 a1 a3 c7 c8
    generalize wr.drewN nq = wq at *
    have y7 := HS1.out.q.d 7 (.slice ao K.length cap) rfl
    have y8 := HS1.out.q.d 8 (.slice (some ⟨gi, 0, none⟩) s.i.n s.i.n) rfl
    obtain ⟨yi, yf⟩ := HS1.out.icell HLi.out
    have HS2 : Hid _ := HS1.out.putB HLi.out (K.length : Int)
    obtain ⟨k0, hk0⟩ : ∃ k0, c.consts.getD bn 0 = k0 := ⟨_, rfl⟩
    have HK0 : Hid (c.consts.getD bn 0 = k0) := hk0
    rw [hk0] at HKc
    clear hk0
    obtain ⟨K2, hK2⟩ : ∃ K2, IntKind.i64.wrap (k0 + z) = K2 := ⟨_, rfl⟩
    have HK2 : Hid (wrap64 (k0 + z) = K2) := by show _ = _; rw [← hK2]; exact wrap_is _
    go_upto_region 19 with (fail)
    clear y7 y8 yi yf HS1
    generalize wq.setCell ⟨gi, i * 4 + 2, none⟩ (.int .i64 (K.length : Int)) = wd at *
    have HTd := HS2.out.next (below_drewN (Below.refl _ _) 1)
    have HT2 : Hid (Sh w #[.int .i64 c.letters, .int .i64 c.planes, .int .i64 c.regs, .int .i64 c.lo, .int .i64 c.hi, .int .i64 c.most, .slice s.t.a s.t.n s.t.c, .slice s.k.a s.k.n s.k.c, .slice s.i.a s.i.n s.i.c, .slice s.r.a s.r.n s.r.c] #[.int .i64 c.letters, .int .i64 c.planes, .int .i64 c.regs, .int .i64 c.lo, .int .i64 c.hi, .int .i64 c.most, .slice s.t.a s.t.n s.t.c, .slice ao K.length cap, .slice (some ⟨gi, 0, none⟩) s.i.n s.i.n, .slice s.r.a s.r.n s.r.c] bd gi (.slice ao K.length cap) K (L.set i (2, a, (K.length : Int), cc)) wd.drew) := HTd
    clear HTd HS2
    have HS : Hid (wd.drew.cell? ⟨bd, 7, none⟩ = some (.slice ao K.length cap) ∧ wd.drew.cell? ⟨w.heap.size + 1, 7, none⟩ = some (.slice (some ⟨kb, koff, none⟩) s.k.n s.k.c) ∧ wd.drew.cell? ⟨w.heap.size + 1, 8, none⟩ = some (.slice (some ⟨ib, ioff, none⟩) s.i.n s.i.c) ∧ wd.drew.cell? ⟨ib, ioff + i * 4 + 2, none⟩ = some (.int .i64 bn) ∧ wd.drew.cell? ⟨kb, koff + bn, none⟩ = some (.int .i64 k0)) := ⟨HT2.out.q.d 7 (.slice ao K.length cap) rfl, (HC7.out _ _ HT2.out).1, (HC7.out _ _ HT2.out).2, cell_bl HT2.out.q.low HKc.out.2, cell_bl HT2.out.q.low HKc.out.1⟩
    obtain ⟨i0, hi0, hz0, hz1, hz2⟩ := info_parts info3
    have HI : Hid (Try.prog.info? 3 = some i0 ∧ i0.zero = some (.int .i64 0) ∧ i0.size = 1 ∧ i0.bytes = 8) := ⟨hi0, hz0, hz1, hz2⟩
    clear hi0 hz0 hz1 hz2
    refine wp_region_Y (fun j => [17].contains j) (fun W : World => W.cell? ⟨bd, 7, none⟩ = some (.slice ao K.length cap) ∧ W.cell? ⟨w.heap.size + 1, 7, none⟩ = some (.slice (some ⟨kb, koff, none⟩) s.k.n s.k.c) ∧ W.cell? ⟨w.heap.size + 1, 8, none⟩ = some (.slice (some ⟨ib, ioff, none⟩) s.i.n s.i.c) ∧ W.cell? ⟨ib, ioff + i * 4 + 2, none⟩ = some (.int .i64 bn) ∧ W.cell? ⟨kb, koff + bn, none⟩ = some (.int .i64 k0)) (by kernel_rfl) ?_
    refine wpAnyY_pure (i := 0) 109 (v := .pointer (some ⟨bd, 7, none⟩)) rfl rfl (by kernel_rfl) (by kernel_rfl) (by kernel_rfl) (fun _ _ _ h => h) (Or.inl ⟨by rfl, by (intro W _; go_simp)⟩) ?_
    simp only [Act.put, List.setIfInBounds_toArray, List.set_cons_succ, List.set_cons_zero]
    refine wpAnyY_takeD (i := 1) 110 (v := .slice ao K.length cap) rfl rfl (by kernel_rfl) (by kernel_rfl) (late_of (by kernel_rfl)) (by kernel_rfl) (by kernel_rfl) (fun _ _ _ h => h) HS.out (Or.inl ⟨by rfl, by (intro W hW; obtain ⟨e0, e1, e2, e3, e4⟩ := hW; go_simp)⟩) ?_
    simp only [Act.put, List.setIfInBounds_toArray, List.set_cons_succ, List.set_cons_zero]
    refine wpAnyY_pure (i := 2) 111 (v := .pointer (some ⟨w.heap.size + 1, 7, none⟩)) rfl rfl (by kernel_rfl) (by kernel_rfl) (by kernel_rfl) (fun _ _ _ h => h) (Or.inl ⟨by rfl, by (intro W _; go_simp)⟩) ?_
    simp only [Act.put, List.setIfInBounds_toArray, List.set_cons_succ, List.set_cons_zero]
    refine wpAnyY_takeD (i := 3) 112 (v := .slice (some ⟨kb, koff, none⟩) s.k.n s.k.c) rfl rfl (by kernel_rfl) (by kernel_rfl) (late_of (by kernel_rfl)) (by kernel_rfl) (by kernel_rfl) (fun _ _ _ h => h) HS.out (Or.inl ⟨by rfl, by (intro W hW; obtain ⟨e0, e1, e2, e3, e4⟩ := hW; go_simp)⟩) ?_
    simp only [Act.put, List.setIfInBounds_toArray, List.set_cons_succ, List.set_cons_zero]
    refine wpAnyY_pure (i := 4) 113 (v := .pointer (some ⟨w.heap.size + 1, 8, none⟩)) rfl rfl (by kernel_rfl) (by kernel_rfl) (by kernel_rfl) (fun _ _ _ h => h) (Or.inl ⟨by rfl, by (intro W _; go_simp)⟩) ?_
    simp only [Act.put, List.setIfInBounds_toArray, List.set_cons_succ, List.set_cons_zero]
    refine wpAnyY_takeD (i := 5) 114 (v := .slice (some ⟨ib, ioff, none⟩) s.i.n s.i.c) rfl rfl (by kernel_rfl) (by kernel_rfl) (late_of (by kernel_rfl)) (by kernel_rfl) (by kernel_rfl) (fun _ _ _ h => h) HS.out (Or.inl ⟨by rfl, by (intro W hW; obtain ⟨e0, e1, e2, e3, e4⟩ := hW; go_simp)⟩) ?_
    simp only [Act.put, List.setIfInBounds_toArray, List.set_cons_succ, List.set_cons_zero]
    refine wpAnyY_pure (i := 6) 115 (v := .int .i64 i) rfl rfl (by kernel_rfl) (by kernel_rfl) (by kernel_rfl) (fun _ _ _ h => h) (Or.inl ⟨by rfl, by (intro W _; go_simp)⟩) ?_
    simp only [Act.put, List.setIfInBounds_toArray, List.set_cons_succ, List.set_cons_zero]
    refine wpAnyY_pure (i := 7) 116 (v := .pointer (some ⟨ib, ioff + i * 4, none⟩)) rfl rfl (by kernel_rfl) (by kernel_rfl) (by kernel_rfl) (fun _ _ _ h => h) (Or.inl ⟨by rfl, by (intro W _; go_simp)⟩) ?_
    simp only [Act.put, List.setIfInBounds_toArray, List.set_cons_succ, List.set_cons_zero]
    refine wpAnyY_pure (i := 8) 117 (v := .pointer (some ⟨ib, ioff + i * 4 + 2, none⟩)) rfl rfl (by kernel_rfl) (by kernel_rfl) (by kernel_rfl) (fun _ _ _ h => h) (Or.inl ⟨by rfl, by (intro W _; go_simp)⟩) ?_
    simp only [Act.put, List.setIfInBounds_toArray, List.set_cons_succ, List.set_cons_zero]
    refine wpAnyY_takeD (i := 9) 118 (v := .int .i64 bn) rfl rfl (by kernel_rfl) (by kernel_rfl) (late_of (by kernel_rfl)) (by kernel_rfl) (by kernel_rfl) (fun _ _ _ h => h) HS.out (Or.inl ⟨by rfl, by (intro W hW; obtain ⟨e0, e1, e2, e3, e4⟩ := hW; go_simp)⟩) ?_
    simp only [Act.put, List.setIfInBounds_toArray, List.set_cons_succ, List.set_cons_zero]
    refine wpAnyY_pure (i := 10) 119 (v := .pointer (some ⟨kb, koff + bn, none⟩)) rfl rfl (by kernel_rfl) (by kernel_rfl) (by kernel_rfl) (fun _ _ _ h => h) (Or.inl ⟨by rfl, by (intro W _; go_simp)⟩) ?_
    simp only [Act.put, List.setIfInBounds_toArray, List.set_cons_succ, List.set_cons_zero]
    refine wpAnyY_takeD (i := 11) 120 (v := .int .i64 k0) rfl rfl (by kernel_rfl) (by kernel_rfl) (late_of (by kernel_rfl)) (by kernel_rfl) (by kernel_rfl) (fun _ _ _ h => h) HS.out (Or.inl ⟨by rfl, by (intro W hW; obtain ⟨e0, e1, e2, e3, e4⟩ := hW; go_simp)⟩) ?_
    simp only [Act.put, List.setIfInBounds_toArray, List.set_cons_succ, List.set_cons_zero]
    refine wpAnyY_pure (i := 12) 121 (v := .int .i64 z) rfl rfl (by kernel_rfl) (by kernel_rfl) (by kernel_rfl) (fun _ _ _ h => h) (Or.inl ⟨by rfl, by (intro W _; go_simp)⟩) ?_
    simp only [Act.put, List.setIfInBounds_toArray, List.set_cons_succ, List.set_cons_zero]
    refine wpAnyY_pure (i := 13) 122 (v := .int .i64 K2) rfl rfl (by kernel_rfl) (by kernel_rfl) (by kernel_rfl) (fun _ _ _ h => h) (Or.inl ⟨by rfl, by (intro W _; go_simp)⟩) ?_
    simp only [Act.put, List.setIfInBounds_toArray, List.set_cons_succ, List.set_cons_zero]
    clear hK2
    refine wpAnyY_one (i := 14) rfl (by kernel_rfl) (fun Kc hKc => ?_)
    go_simp
    refine hKc.out _ _ (fun _ h => ⟨cell_al h.1 _, cell_al h.2.1 _, cell_al h.2.2.1 _, cell_al h.2.2.2.1 _, cell_al h.2.2.2.2 _⟩) ?_
    clear hKc Kc
    have HT3 : Hid _ := HT2.out.next (below_new (.cells [Value.int .i64 K2].toArray 3))
    refine wpAnyY_one (i := 15) rfl (by kernel_rfl) (fun Kc hKc => ?_)
    refine step_append_fresh rfl (.tmp 110) (.tmp 123) 22 rfl bd 3 i0 _ 1 8 Try.underlying22 HI.out.1 HI.out.2.1 HI.out.2.2.1 HI.out.2.2.2 rfl (by decide) (.slice ao K.length cap) _ _ (by simp [Act.eval]) HT3.out.ks ⟨wd.heap.size, 0, none⟩ 1 1 [Value.int .i64 K2] (by simp [Act.eval]) rfl (cells_new4 wd.drew [Value.int .i64 K2] 3) (by intro u hu; simp at hu; subst hu; rfl) (by have := HKl.out.2; have := HSz.out; unfold maxLen; omega) (by have := HKl.out.2; have := HSz.out; omega) (Nat.le_of_lt (lt_block HT3.out.q.dbx)) ?_
    intro v wa o1 o2 o3
    have p1 : ∀ {p : Addr} {u : Value}, _ → _ → wa.cell? p = some u := fun {p u} hp hl => HT3.out.keep o2 (p := p) (v := u) hp hl
    have hlt := HT3.out.q.lt
    refine hKc.out _ _ (fun _ h => ⟨p1 h.1 (Nat.le_refl _), p1 h.2.1 (Nat.le_of_lt hlt), p1 h.2.2.1 (Nat.le_of_lt hlt), p1 h.2.2.2.1 (by show ib ≤ bd; omega), p1 h.2.2.2.2 (by show kb ≤ bd; omega)⟩) ?_
    clear hKc Kc p1
    have HT4 := HT3.out.append K2 (v := v) (wa := wa) o1 o2 rfl
    obtain ⟨y5, f5⟩ := HT3.out.seven o2 (.slice ao K.length cap) rfl
    obtain ⟨vo, vc, hv⟩ := owned_shape o1
    subst hv
    have HT6 : Hid (Sh w #[.int .i64 c.letters, .int .i64 c.planes, .int .i64 c.regs, .int .i64 c.lo, .int .i64 c.hi, .int .i64 c.most, .slice s.t.a s.t.n s.t.c, .slice s.k.a s.k.n s.k.c, .slice s.i.a s.i.n s.i.c, .slice s.r.a s.r.n s.r.c] #[.int .i64 c.letters, .int .i64 c.planes, .int .i64 c.regs, .int .i64 c.lo, .int .i64 c.hi, .int .i64 c.most, .slice s.t.a s.t.n s.t.c, .slice vo (K.length + 1) vc, .slice (some ⟨gi, 0, none⟩) s.i.n s.i.n, .slice s.r.a s.r.n s.r.c] bd gi (.slice vo (K.length + 1) vc) (K ++ [K2]) (L.set i (2, a, (K.length : Int), cc)) (wa.setCell ⟨bd, 7, none⟩ (.slice vo (K.length + 1) vc))) := HT4
    clear HT4 HT3 o1 o2 o3 HS HT2 HC7 hlt
    simp only [Act.put]
    refine wpAnyY_pure (i := 16) 125 (v := .pointer (some ⟨bd, 7, none⟩)) rfl rfl (by kernel_rfl) (by kernel_rfl) (by kernel_rfl) (fun _ _ _ h => h) (Or.inl ⟨by rfl, by (intro W _; go_simp)⟩) ?_
    simp only [Act.put]
    refine wpAnyY_one (i := 17) rfl (by kernel_rfl) (fun Kc hKc => ?_)
    go_simp
    refine hKc.out _ _ (fun h => absurd h (by decide)) ?_
    clear hKc Kc
    refine wpAnyY_done (by kernel_rfl) ?_ _
    clear y5 f5 HI
    generalize wa.setCell ⟨bd, 7, none⟩ (.slice vo (K.length + 1) vc) = wz at *
    have HNX : Hid (Sh w #[.int .i64 c.letters, .int .i64 c.planes, .int .i64 c.regs, .int .i64 c.lo, .int .i64 c.hi, .int .i64 c.most, .slice s.t.a s.t.n s.t.c, .slice s.k.a s.k.n s.k.c, .slice s.i.a s.i.n s.i.c, .slice s.r.a s.r.n s.r.c] #[.int .i64 c.letters, .int .i64 c.planes, .int .i64 c.regs, .int .i64 c.lo, .int .i64 c.hi, .int .i64 c.most, .slice s.t.a s.t.n s.t.c, .slice vo (c.consts ++ shK c z (c.cell.take (i + 1))).length vc, .slice (some ⟨gi, 0, none⟩) s.i.n s.i.n, .slice s.r.a s.r.n s.r.c] bd gi (.slice vo (c.consts ++ shK c z (c.cell.take (i + 1))).length vc) (c.consts ++ shK c z (c.cell.take (i + 1))) (shI c c.consts.length (c.cell.take (i + 1)) ++ c.cell.drop (i + 1)) wz) := by
      have h1 := shk_next c z i _ HQ.out HQs.out
      have h2 := sh_next c z c.consts.length i _ HQ.out HQs.out
      simp only [Int.toNat_natCast] at h1
      rw [HK0.out, HK2.out] at h1
      rw [← HKl.out.1, HKL.out.2] at h2
      rw [h1, ← List.append_assoc, HKL.out.1, ← h2, List.length_append]
      exact HT6.out
    clear HT6
    go_wp2
    go_roundg (gk - 1)
    case rel => exact ⟨i + 1, vo, vc, by omega, by go_num, HNX⟩
    case measure => omega

end Go.Proofs.Ytjpeoejielamiaa
