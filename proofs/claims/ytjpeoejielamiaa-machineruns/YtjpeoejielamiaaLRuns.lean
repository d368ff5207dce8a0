/-
  The document's run and the program's: the law.
-/
import Derived.Test.YtjpeoejielamiaaKv
import Derived.Test.YtjpeoejielamiaaMlA
namespace Go.Proofs.Ytjpeoejielamiaa
open Go.RowKit

theorem run_cutN (ia : Option Addr) (n c m : Nat) (hm : m ≤ c) (W : World) : (Instr.slice 22 (.slice ia n c) none (some (.int .i64 (m : Int))) none).run Try.prog W = .ok (.slice ia m c) W := by
  have h : (m : Int) ≤ (c : Int) := by omega
  rw [run_slice_h (w := W) (t := 22) (a := ia) (len := n) (cap := c) (ht := by kernel_rfl) .i64 (m : Int) (by omega) h]
  have hz : ((sizeOf (Try.prog.elem 22)).run Try.prog W) = .ok 1 W := by kernel_rfl
  rw [hz]
  cases ia with
  | none => simp [Result.andThen, sliced]
  | some ad => simp [Result.andThen, sliced, Addr.add]
set_option maxRecDepth 20000 in
set_option maxHeartbeats 16000000 in
theorem runs_walk (c : Cd) (s : Ls) (sx : Sl) (x : List Int) (sy : Sl) (y : List Int) (w : World) (hc : CdIn w c s) (hx : IntsAt w sx.a sx.n x ∧ SlIn sx) (hy : IntsAt w sy.a sy.n y ∧ SlIn sy) :
    Calls Try.prog 3 #[.agg (cdCells c s), .slice sx.a sx.n sx.c, .slice sy.a sy.n sy.c] w fun e w' => e = .returned (.bool true) ∧ Below w.heap.size w w' := by
  have HC : Hid (CdAt w c s ∧ IntsAt w sx.a sx.n x ∧ IntsAt w sy.a sy.n y) := ⟨hc.at', hx.1, hy.1⟩
  have HNk : Hid ((s.k.a = none → s.k.n = 0 ∧ s.k.c = 0) ∧ (s.i.a = none → s.i.n = 0 ∧ s.i.c = 0) ∧ (s.t.a = none → s.t.n = 0 ∧ s.t.c = 0) ∧ (s.r.a = none → s.r.n = 0 ∧ s.r.c = 0)) := ⟨hc.k.2, hc.i.2, hc.t.2, hc.r.2⟩
  have HNx : Hid ((sx.a = none → sx.n = 0 ∧ sx.c = 0) ∧ (sy.a = none → sy.n = 0 ∧ sy.c = 0)) := ⟨hx.2.2, hy.2.2⟩
  have HLn : Hid (c.consts.length = s.k.n ∧ c.cell.length = s.i.n ∧ c.table.length = s.t.n ∧ c.arrows.length = s.r.n) := ⟨hc.at'.consts.length, hc.at'.cell.length, hc.at'.table.length, hc.at'.arrows.length⟩
  clear hc hx hy
  obtain ⟨xa, xn, xc⟩ := sx
  obtain ⟨ya, yn, yc⟩ := sy
  have H0 : Hid (Bo w (w.alloc (.cells (cdCells c s) 26)) (cdCells c s)) := ⟨below_new _, heap_alloc_new _ _⟩
  rw [show cdCells c s = #[.int .i64 c.letters, .int .i64 c.planes, .int .i64 c.regs, .int .i64 c.lo, .int .i64 c.hi, .int .i64 c.most, .slice s.t.a s.t.n s.t.c, .slice s.k.a s.k.n s.k.c, .slice s.i.a s.i.n s.i.c, .slice s.r.a s.r.n s.r.c] from rfl] at H0 ⊢
  go_enter Try.func3, Try.ntmps3
  go_wp2_with fail
  refine (small_calls c s ⟨xa, xn, xc⟩ ⟨ya, yn, yc⟩ x y _ (HC.out.1.below H0.out.low) (HC.out.2.1.below H0.out.low) (HC.out.2.2.below H0.out.low)).mono ?_
  rintro e w1 ⟨⟨b, rfl, hsm⟩, hb1⟩
  have H1 : Hid (Bo w w1 #[.int .i64 c.letters, .int .i64 c.planes, .int .i64 c.regs, .int .i64 c.lo, .int .i64 c.hi, .int .i64 c.most, .slice s.t.a s.t.n s.t.c, .slice s.k.a s.k.n s.k.c, .slice s.i.a s.i.n s.i.c, .slice s.r.a s.r.n s.r.c]) := H0.out.next hb1
  have HSm : Hid (b = true → s.t.n ≤ 2147483647 ∧ s.k.n ≤ 2147483647 ∧ s.i.n ≤ 2147483647 ∧ s.r.n ≤ 2147483647 ∧ xn ≤ 2147483647 ∧ yn ≤ 2147483647) := hsm
  clear hb1 H0 hsm
  cases b
  · go_wp2
    go_ret
    exact ⟨rfl, H1.out.low⟩
  have HSz : Hid (xn ≤ 2147483647 ∧ yn ≤ 2147483647) := ⟨(HSm.out rfl).2.2.2.2.1, (HSm.out rfl).2.2.2.2.2⟩
  go_wp2_with fail
  refine (awake_calls _).mono ?_
  rintro e w2 ⟨rfl, hb2⟩
  have H2 : Hid (Bo w w2 #[.int .i64 c.letters, .int .i64 c.planes, .int .i64 c.regs, .int .i64 c.lo, .int .i64 c.hi, .int .i64 c.most, .slice s.t.a s.t.n s.t.c, .slice s.k.a s.k.n s.k.c, .slice s.i.a s.i.n s.i.c, .slice s.r.a s.r.n s.r.c]) := H1.out.next hb2
  clear hb2 H1

  have HS4 : Hid (s.t.n ≤ 2147483647 ∧ s.k.n ≤ 2147483647 ∧ s.i.n ≤ 2147483647 ∧ s.r.n ≤ 2147483647) := ⟨(HSm.out trivial).1, (HSm.out trivial).2.1, (HSm.out trivial).2.2.1, (HSm.out trivial).2.2.2.1⟩
  clear HSm
  have hsz := HSz.out
  go_wp2_with fail
  refine (lent_calls x xa xn xc _ (HC.out.2.1.below H2.out.low) hsz.1 HNx.out.1).mono ?_
  rintro e w3 ⟨g1, rfl, hg1, hr1, hb3⟩
  have H3 : Hid (Bo w w3 #[.int .i64 c.letters, .int .i64 c.planes, .int .i64 c.regs, .int .i64 c.lo, .int .i64 c.hi, .int .i64 c.most, .slice s.t.a s.t.n s.t.c, .slice s.k.a s.k.n s.k.c, .slice s.i.a s.i.n s.i.c, .slice s.r.a s.r.n s.r.c] ∧ w3.heap[g1]? = some (.cells (intVals x ++ mkL).toArray 3 (0, 0)) ∧ w.heap.size < g1) := ⟨H2.out.next hb3, hr1, Nat.lt_of_lt_of_le (lt_block H2.out.box) hg1⟩
  clear hg1 hr1 hb3 H2
  go_wp2_with fail
  refine (lent_calls y ya yn yc _ (HC.out.2.2.below H3.out.1.low) hsz.2 HNx.out.2).mono ?_
  rintro e w4 ⟨g2, rfl, hg2, hr2, hb4⟩
  have HG12 : Hid (g1 < g2) := Nat.lt_of_lt_of_le (lt_block H3.out.2.1) hg2
  have H4 : Hid (Bo w w4 #[.int .i64 c.letters, .int .i64 c.planes, .int .i64 c.regs, .int .i64 c.lo, .int .i64 c.hi, .int .i64 c.most, .slice s.t.a s.t.n s.t.c, .slice s.k.a s.k.n s.k.c, .slice s.i.a s.i.n s.i.c, .slice s.r.a s.r.n s.r.c] ∧ w4.heap[g1]? = some (.cells (intVals x ++ mkL).toArray 3 (0, 0)) ∧ w4.heap[g2]? = some (.cells (intVals y ++ mkL).toArray 3 (0, 0)) ∧ w.heap.size < g1) := ⟨H3.out.1.next hb4, by rw [hb4.block _ (lt_block H3.out.2.1)]; exact H3.out.2.1, hr2, H3.out.2.2⟩
  clear hg2 hr2 hb4 H3 hsz
  have HB : Hid (Cm w #[.int .i64 c.letters, .int .i64 c.planes, .int .i64 c.regs, .int .i64 c.lo, .int .i64 c.hi, .int .i64 c.most, .slice s.t.a s.t.n s.t.c, .slice s.k.a s.k.n s.k.c, .slice s.i.a s.i.n s.i.c, .slice s.r.a s.r.n s.r.c] #[.int .i64 c.letters, .int .i64 c.planes, .int .i64 c.regs, .int .i64 c.lo, .int .i64 c.hi, .int .i64 c.most, .slice s.t.a s.t.n s.t.c, .slice s.k.a s.k.n s.k.c, .slice s.i.a s.i.n s.i.c, .slice s.r.a s.r.n s.r.c] w4.heap.size [(g2, (intVals y ++ mkL).toArray, 3), (g1, (intVals x ++ mkL).toArray, 3)] (w4.alloc (.cells #[.int .i64 c.letters, .int .i64 c.planes, .int .i64 c.regs, .int .i64 c.lo, .int .i64 c.hi, .int .i64 c.most, .slice s.t.a s.t.n s.t.c, .slice s.k.a s.k.n s.k.c, .slice s.i.a s.i.n s.i.c, .slice s.r.a s.r.n s.r.c] 26))) := by
    obtain ⟨h1, h2, h3, h4⟩ := H4.out
    have hn := below_new (w := w4) (.cells #[.int .i64 c.letters, .int .i64 c.planes, .int .i64 c.regs, .int .i64 c.lo, .int .i64 c.hi, .int .i64 c.most, .slice s.t.a s.t.n s.t.c, .slice s.k.a s.k.n s.k.c, .slice s.i.a s.i.n s.i.c, .slice s.r.a s.r.n s.r.c] 26)
    have h12 := HG12.out
    refine Cm.add (Cm.add (L := []) ⟨h1.low.trans (hn.mono h1.low.size), ?_, heap_alloc_new _ _, lt_block h1.box, fun r hr => (List.not_mem_nil hr).elim⟩ ?_ h4 (by decide)) ?_ (by omega) (by decide)
    · rw [hn.block _ (lt_block h1.box)]; exact h1.box
    · rw [hn.block _ (lt_block h2)]; exact h2
    · rw [hn.block _ (lt_block h3)]; exact h3
  have c0 := H4.out.1.cell 0 (v := .int .i64 c.letters) rfl
  have c1 := H4.out.1.cell 1 (v := .int .i64 c.planes) rfl
  have c2 := H4.out.1.cell 2 (v := .int .i64 c.regs) rfl
  have c3 := H4.out.1.cell 3 (v := .int .i64 c.lo) rfl
  have c4 := H4.out.1.cell 4 (v := .int .i64 c.hi) rfl
  have c5 := H4.out.1.cell 5 (v := .int .i64 c.most) rfl
  have c6 := H4.out.1.cell 6 (v := .slice s.t.a s.t.n s.t.c) rfl
  have c7 := H4.out.1.cell 7 (v := .slice s.k.a s.k.n s.k.c) rfl
  have c8 := H4.out.1.cell 8 (v := .slice s.i.a s.i.n s.i.c) rfl
  have c9 := H4.out.1.cell 9 (v := .slice s.r.a s.r.n s.r.c) rfl
  go_upto_region 8 with (fail)
  obtain ⟨bd, hbd⟩ : ∃ bd, w4.heap.size = bd := ⟨_, rfl⟩
  rw [hbd] at HB ⊢
  clear hbd c0 c1 c2 c3 c4 c5 c6 c7 c8 c9 H4
  generalize w4.alloc (.cells #[.int .i64 c.letters, .int .i64 c.planes, .int .i64 c.regs, .int .i64 c.lo, .int .i64 c.hi, .int .i64 c.most, .slice s.t.a s.t.n s.t.c, .slice s.k.a s.k.n s.k.c, .slice s.i.a s.i.n s.i.c, .slice s.r.a s.r.n s.r.c] 26) = wA at *
  have x0 := HB.out.c 8 (.slice s.i.a s.i.n s.i.c) rfl
  obtain ⟨i1, hi1, hz1a, hz1b, hz1c⟩ := info_parts info35
  have hsz := HS4.out
  go_wp2_with (at_make; refine wpList_make_full _ rfl _ _ 23 rfl wA.heap.size 39 i1 (.agg #[.int .i64 0, .int .i64 0, .int .i64 0, .int .i64 0]) 4 Try.underlying23 hi1 hz1a hz1b .i64 .i64 _ _ (s.i.n) rfl rfl (by omega) (by omega) (by rw [hz1c]; omega) (by unfold maxLen; omega) (Nat.le_refl _) ?_)
  intro wa hown hgrow
  have HM : Hid (Laid wA 39 (List.replicate (s.i.n * 4) (.int .i64 0)) wa) := by
    rw [made_four] at hown
    have hm := made_block hown hgrow
    exact ⟨hm.1, hm.2⟩
  clear hown hgrow x0 hi1 hz1a hz1b hz1c i1 hsz
  have y0 := (HB.out.next HM.out.low).d 8 (.slice s.i.a s.i.n s.i.c) rfl
  have f0 := (HB.out.next HM.out.low).fz 8
  have HD2 : Hid (Cm w #[.int .i64 c.letters, .int .i64 c.planes, .int .i64 c.regs, .int .i64 c.lo, .int .i64 c.hi, .int .i64 c.most, .slice s.t.a s.t.n s.t.c, .slice s.k.a s.k.n s.k.c, .slice s.i.a s.i.n s.i.c, .slice s.r.a s.r.n s.r.c] #[.int .i64 c.letters, .int .i64 c.planes, .int .i64 c.regs, .int .i64 c.lo, .int .i64 c.hi, .int .i64 c.most, .slice s.t.a s.t.n s.t.c, .slice s.k.a s.k.n s.k.c, .slice (some ⟨wA.heap.size, 0, none⟩) s.i.n s.i.n, .slice s.r.a s.r.n s.r.c] bd [(g2, (intVals y ++ mkL).toArray, 3), (g1, (intVals x ++ mkL).toArray, 3)] (wa.setCell ⟨bd, 8, none⟩ (.slice (some ⟨wA.heap.size, 0, none⟩) s.i.n s.i.n))) := (HB.out.next HM.out.low).put 8 _ rfl
  have HM2 : Hid ((wa.setCell ⟨bd, 8, none⟩ (.slice (some ⟨wA.heap.size, 0, none⟩) s.i.n s.i.n)).heap[wA.heap.size]? = some (.cells (List.replicate (s.i.n * 4) (.int .i64 0)).toArray 39 (0, 0))) := by
    show _ = _
    rw [Below.heap_setCell _ _ _ _ (by show wA.heap.size ≠ bd; have := lt_block HB.out.dbx; omega)]
    exact HM.out.row
  go_upto_region 9 with (fail)
  clear y0 f0
  obtain ⟨wb, hwb⟩ : ∃ wb, wb = wa.setCell ⟨bd, 8, none⟩ (.slice (some ⟨wA.heap.size, 0, none⟩) s.i.n s.i.n) := ⟨_, rfl⟩
  rw [← hwb] at HD2 HM2 ⊢
  have HWb : Hid (wb = wa.setCell ⟨bd, 8, none⟩ (.slice (some ⟨wA.heap.size, 0, none⟩) s.i.n s.i.n)) := hwb
  clear hwb
  have x0 := HD2.out.c 8 (.slice s.i.a s.i.n s.i.c) rfl
  have y0 := HD2.out.d 8 (.slice (some ⟨wA.heap.size, 0, none⟩) s.i.n s.i.n) rfl
  go_wp2_with (refine wpList_copyG Try.underlying23 size35 rfl (.tmp 48) (.tmp 50) rfl wA.heap.size (s.i.n) (s.i.n) (s.i.a) (s.i.n) (s.i.c) rfl rfl (HNk.out.2.1) _ HM2.out (qdVals c.cell) ?c0 ((HC.out.1.below HD2.out.low).cell.source) ?c1 (qds_oneC _) wA.heap.size _ (Below.refl _ _) (Nat.le_refl _) ?_)
  case c0 => rw [qdVals_length, HLn.out.2.1]; show _ = Nat.min s.i.n s.i.n * 4; rw [show Nat.min s.i.n s.i.n = s.i.n from Nat.min_eq_left (by omega)]
  case c1 => rw [qdVals_length, HLn.out.2.1]; first | (simp; done) | (simp; omega)
  intro wB hrow hlow vcopy
  have HB' : Hid (Cm w #[.int .i64 c.letters, .int .i64 c.planes, .int .i64 c.regs, .int .i64 c.lo, .int .i64 c.hi, .int .i64 c.most, .slice s.t.a s.t.n s.t.c, .slice s.k.a s.k.n s.k.c, .slice s.i.a s.i.n s.i.c, .slice s.r.a s.r.n s.r.c] #[.int .i64 c.letters, .int .i64 c.planes, .int .i64 c.regs, .int .i64 c.lo, .int .i64 c.hi, .int .i64 c.most, .slice s.t.a s.t.n s.t.c, .slice s.k.a s.k.n s.k.c, .slice (some ⟨wA.heap.size, 0, none⟩) s.i.n s.i.n, .slice s.r.a s.r.n s.r.c] bd ((wA.heap.size, (qdVals c.cell).toArray, 39) :: [(g2, (intVals y ++ mkL).toArray, 3), (g1, (intVals x ++ mkL).toArray, 3)]) wB) := by
    rw [HWb.out] at hlow
    refine HB.out.copied HM.out rfl hlow ?_ (by decide)
    rw [hrow, qdVals_length, HLn.out.2.1]
    simp
  have HGi : Hid (bd < wA.heap.size) := lt_block HB.out.dbx
  clear hrow hlow HM HM2 HD2 HWb HB x0 y0
  go_upto_region 10 with (fail)
  have HB : Hid _ := HB'.out
  clear HB'
  obtain ⟨gi, hg⟩ : ∃ g, wA.heap.size = g := ⟨_, rfl⟩
  rw [hg] at HB HGi ⊢
  clear hg
  have x0 := HB.out.c 6 (.slice s.t.a s.t.n s.t.c) rfl
  obtain ⟨i1, hi1, hz1a, hz1b, hz1c⟩ := info_parts info3
  have hsz := HS4.out
  go_wp2_with (at_make; refine wpList_make_full _ rfl _ _ 22 rfl wB.heap.size 3 i1 (.int .i64 0) 1 Try.underlying22 hi1 hz1a hz1b .i64 .i64 _ _ (s.t.n) rfl rfl (by omega) (by omega) (by rw [hz1c]; omega) (by unfold maxLen; omega) (Nat.le_refl _) ?_)
  intro wa hown hgrow
  have HM : Hid (Laid wB 3 (List.replicate (s.t.n) (.int .i64 0)) wa) := by
    rw [made_one] at hown
    have hm := made_block hown hgrow
    exact ⟨hm.1, hm.2⟩
  clear hown hgrow x0 hi1 hz1a hz1b hz1c i1 hsz
  have y0 := (HB.out.next HM.out.low).d 6 (.slice s.t.a s.t.n s.t.c) rfl
  have f0 := (HB.out.next HM.out.low).fz 6
  have HD2 : Hid (Cm w #[.int .i64 c.letters, .int .i64 c.planes, .int .i64 c.regs, .int .i64 c.lo, .int .i64 c.hi, .int .i64 c.most, .slice s.t.a s.t.n s.t.c, .slice s.k.a s.k.n s.k.c, .slice s.i.a s.i.n s.i.c, .slice s.r.a s.r.n s.r.c] #[.int .i64 c.letters, .int .i64 c.planes, .int .i64 c.regs, .int .i64 c.lo, .int .i64 c.hi, .int .i64 c.most, .slice (some ⟨wB.heap.size, 0, none⟩) s.t.n s.t.n, .slice s.k.a s.k.n s.k.c, .slice (some ⟨gi, 0, none⟩) s.i.n s.i.n, .slice s.r.a s.r.n s.r.c] bd ((gi, (qdVals c.cell).toArray, 39) :: [(g2, (intVals y ++ mkL).toArray, 3), (g1, (intVals x ++ mkL).toArray, 3)]) (wa.setCell ⟨bd, 6, none⟩ (.slice (some ⟨wB.heap.size, 0, none⟩) s.t.n s.t.n))) := (HB.out.next HM.out.low).put 6 _ rfl
  have HM2 : Hid ((wa.setCell ⟨bd, 6, none⟩ (.slice (some ⟨wB.heap.size, 0, none⟩) s.t.n s.t.n)).heap[wB.heap.size]? = some (.cells (List.replicate (s.t.n) (.int .i64 0)).toArray 3 (0, 0))) := by
    show _ = _
    rw [Below.heap_setCell _ _ _ _ (by show wB.heap.size ≠ bd; have := lt_block HB.out.dbx; omega)]
    exact HM.out.row
  go_upto_region 11 with (fail)
  clear y0 f0
  obtain ⟨wb, hwb⟩ : ∃ wb, wb = wa.setCell ⟨bd, 6, none⟩ (.slice (some ⟨wB.heap.size, 0, none⟩) s.t.n s.t.n) := ⟨_, rfl⟩
  rw [← hwb] at HD2 HM2 ⊢
  have HWb : Hid (wb = wa.setCell ⟨bd, 6, none⟩ (.slice (some ⟨wB.heap.size, 0, none⟩) s.t.n s.t.n)) := hwb
  clear hwb
  have x0 := HD2.out.c 6 (.slice s.t.a s.t.n s.t.c) rfl
  have y0 := HD2.out.d 6 (.slice (some ⟨wB.heap.size, 0, none⟩) s.t.n s.t.n) rfl
  go_wp2_with (refine wpList_copyG Try.underlying22 size3 rfl (.tmp 58) (.tmp 60) rfl wB.heap.size (s.t.n) (s.t.n) (s.t.a) (s.t.n) (s.t.c) rfl rfl (HNk.out.2.2.1) _ HM2.out (intVals c.table) ?c0 ((HC.out.1.below HD2.out.low).table.source) ?c1 (ints_oneC _) wB.heap.size _ (Below.refl _ _) (Nat.le_refl _) ?_)
  case c0 => rw [intVals_length, HLn.out.2.2.1]; show _ = Nat.min s.t.n s.t.n * 1; rw [show Nat.min s.t.n s.t.n = s.t.n from Nat.min_eq_left (by omega)]; omega
  case c1 => rw [intVals_length, HLn.out.2.2.1]; first | (simp; done) | (simp; omega)
  intro wC hrow hlow vcopy
  have HB' : Hid (Cm w #[.int .i64 c.letters, .int .i64 c.planes, .int .i64 c.regs, .int .i64 c.lo, .int .i64 c.hi, .int .i64 c.most, .slice s.t.a s.t.n s.t.c, .slice s.k.a s.k.n s.k.c, .slice s.i.a s.i.n s.i.c, .slice s.r.a s.r.n s.r.c] #[.int .i64 c.letters, .int .i64 c.planes, .int .i64 c.regs, .int .i64 c.lo, .int .i64 c.hi, .int .i64 c.most, .slice (some ⟨wB.heap.size, 0, none⟩) s.t.n s.t.n, .slice s.k.a s.k.n s.k.c, .slice (some ⟨gi, 0, none⟩) s.i.n s.i.n, .slice s.r.a s.r.n s.r.c] bd ((wB.heap.size, (intVals c.table).toArray, 3) :: ((gi, (qdVals c.cell).toArray, 39) :: [(g2, (intVals y ++ mkL).toArray, 3), (g1, (intVals x ++ mkL).toArray, 3)])) wC) := by
    rw [HWb.out] at hlow
    refine HB.out.copied HM.out rfl hlow ?_ (by decide)
    rw [hrow, intVals_length, HLn.out.2.2.1]
    simp
  have HGt : Hid (bd < wB.heap.size) := lt_block HB.out.dbx
  clear hrow hlow HM HM2 HD2 HWb HB x0 y0
  go_upto_region 12 with (fail)
  have HB : Hid _ := HB'.out
  clear HB'
  obtain ⟨gt, hg⟩ : ∃ g, wB.heap.size = g := ⟨_, rfl⟩
  rw [hg] at HB HGt ⊢
  clear hg
  have x0 := HB.out.c 7 (.slice s.k.a s.k.n s.k.c) rfl
  obtain ⟨i1, hi1, hz1a, hz1b, hz1c⟩ := info_parts info3
  have hsz := HS4.out
  go_wp2_with (at_make; refine wpList_make_full _ rfl _ _ 22 rfl wC.heap.size 3 i1 (.int .i64 0) 1 Try.underlying22 hi1 hz1a hz1b .i64 .i64 _ _ (s.k.n) rfl rfl (by omega) (by omega) (by rw [hz1c]; omega) (by unfold maxLen; omega) (Nat.le_refl _) ?_)
  intro wa hown hgrow
  have HM : Hid (Laid wC 3 (List.replicate (s.k.n) (.int .i64 0)) wa) := by
    rw [made_one] at hown
    have hm := made_block hown hgrow
    exact ⟨hm.1, hm.2⟩
  clear hown hgrow x0 hi1 hz1a hz1b hz1c i1 hsz
  have y0 := (HB.out.next HM.out.low).d 7 (.slice s.k.a s.k.n s.k.c) rfl
  have f0 := (HB.out.next HM.out.low).fz 7
  have HD2 : Hid (Cm w #[.int .i64 c.letters, .int .i64 c.planes, .int .i64 c.regs, .int .i64 c.lo, .int .i64 c.hi, .int .i64 c.most, .slice s.t.a s.t.n s.t.c, .slice s.k.a s.k.n s.k.c, .slice s.i.a s.i.n s.i.c, .slice s.r.a s.r.n s.r.c] #[.int .i64 c.letters, .int .i64 c.planes, .int .i64 c.regs, .int .i64 c.lo, .int .i64 c.hi, .int .i64 c.most, .slice (some ⟨gt, 0, none⟩) s.t.n s.t.n, .slice (some ⟨wC.heap.size, 0, none⟩) s.k.n s.k.n, .slice (some ⟨gi, 0, none⟩) s.i.n s.i.n, .slice s.r.a s.r.n s.r.c] bd ((gt, (intVals c.table).toArray, 3) :: ((gi, (qdVals c.cell).toArray, 39) :: [(g2, (intVals y ++ mkL).toArray, 3), (g1, (intVals x ++ mkL).toArray, 3)])) (wa.setCell ⟨bd, 7, none⟩ (.slice (some ⟨wC.heap.size, 0, none⟩) s.k.n s.k.n))) := (HB.out.next HM.out.low).put 7 _ rfl
  have HM2 : Hid ((wa.setCell ⟨bd, 7, none⟩ (.slice (some ⟨wC.heap.size, 0, none⟩) s.k.n s.k.n)).heap[wC.heap.size]? = some (.cells (List.replicate (s.k.n) (.int .i64 0)).toArray 3 (0, 0))) := by
    show _ = _
    rw [Below.heap_setCell _ _ _ _ (by show wC.heap.size ≠ bd; have := lt_block HB.out.dbx; omega)]
    exact HM.out.row
  go_upto_region 13 with (fail)
  clear y0 f0
  obtain ⟨wb, hwb⟩ : ∃ wb, wb = wa.setCell ⟨bd, 7, none⟩ (.slice (some ⟨wC.heap.size, 0, none⟩) s.k.n s.k.n) := ⟨_, rfl⟩
  rw [← hwb] at HD2 HM2 ⊢
  have HWb : Hid (wb = wa.setCell ⟨bd, 7, none⟩ (.slice (some ⟨wC.heap.size, 0, none⟩) s.k.n s.k.n)) := hwb
  clear hwb
  have x0 := HD2.out.c 7 (.slice s.k.a s.k.n s.k.c) rfl
  have y0 := HD2.out.d 7 (.slice (some ⟨wC.heap.size, 0, none⟩) s.k.n s.k.n) rfl
  go_wp2_with (refine wpList_copyG Try.underlying22 size3 rfl (.tmp 68) (.tmp 70) rfl wC.heap.size (s.k.n) (s.k.n) (s.k.a) (s.k.n) (s.k.c) rfl rfl (HNk.out.1) _ HM2.out (intVals c.consts) ?c0 ((HC.out.1.below HD2.out.low).consts.source) ?c1 (ints_oneC _) wC.heap.size _ (Below.refl _ _) (Nat.le_refl _) ?_)
  case c0 => rw [intVals_length, HLn.out.1]; show _ = Nat.min s.k.n s.k.n * 1; rw [show Nat.min s.k.n s.k.n = s.k.n from Nat.min_eq_left (by omega)]; omega
  case c1 => rw [intVals_length, HLn.out.1]; first | (simp; done) | (simp; omega)
  intro wD hrow hlow vcopy
  have HB' : Hid (Cm w #[.int .i64 c.letters, .int .i64 c.planes, .int .i64 c.regs, .int .i64 c.lo, .int .i64 c.hi, .int .i64 c.most, .slice s.t.a s.t.n s.t.c, .slice s.k.a s.k.n s.k.c, .slice s.i.a s.i.n s.i.c, .slice s.r.a s.r.n s.r.c] #[.int .i64 c.letters, .int .i64 c.planes, .int .i64 c.regs, .int .i64 c.lo, .int .i64 c.hi, .int .i64 c.most, .slice (some ⟨gt, 0, none⟩) s.t.n s.t.n, .slice (some ⟨wC.heap.size, 0, none⟩) s.k.n s.k.n, .slice (some ⟨gi, 0, none⟩) s.i.n s.i.n, .slice s.r.a s.r.n s.r.c] bd ((wC.heap.size, (intVals c.consts).toArray, 3) :: ((gt, (intVals c.table).toArray, 3) :: ((gi, (qdVals c.cell).toArray, 39) :: [(g2, (intVals y ++ mkL).toArray, 3), (g1, (intVals x ++ mkL).toArray, 3)]))) wD) := by
    rw [HWb.out] at hlow
    refine HB.out.copied HM.out rfl hlow ?_ (by decide)
    rw [hrow, intVals_length, HLn.out.1]
    simp
  have HGk : Hid (bd < wC.heap.size) := lt_block HB.out.dbx
  clear hrow hlow HM HM2 HD2 HWb HB x0 y0
  go_upto_region 14 with (fail)
  have HB : Hid _ := HB'.out
  clear HB'
  obtain ⟨gc, hg⟩ : ∃ g, wC.heap.size = g := ⟨_, rfl⟩
  rw [hg] at HB HGk ⊢
  clear hg
  have x0 := HB.out.c 9 (.slice s.r.a s.r.n s.r.c) rfl
  obtain ⟨i1, hi1, hz1a, hz1b, hz1c⟩ := info_parts info42
  have hsz := HS4.out
  go_wp2_with (at_make; refine wpList_make_full _ rfl _ _ 24 rfl wD.heap.size 41 i1 (.agg #[.int .i64 0, .int .i64 0, .int .i64 0, .int .i64 0]) 4 Try.underlying24 hi1 hz1a hz1b .i64 .i64 _ _ (s.r.n) rfl rfl (by omega) (by omega) (by rw [hz1c]; omega) (by unfold maxLen; omega) (Nat.le_refl _) ?_)
  intro wa hown hgrow
  have HM : Hid (Laid wD 41 (List.replicate (s.r.n * 4) (.int .i64 0)) wa) := by
    rw [made_four] at hown
    have hm := made_block hown hgrow
    exact ⟨hm.1, hm.2⟩
  clear hown hgrow x0 hi1 hz1a hz1b hz1c i1 hsz
  have y0 := (HB.out.next HM.out.low).d 9 (.slice s.r.a s.r.n s.r.c) rfl
  have f0 := (HB.out.next HM.out.low).fz 9
  have HD2 : Hid (Cm w #[.int .i64 c.letters, .int .i64 c.planes, .int .i64 c.regs, .int .i64 c.lo, .int .i64 c.hi, .int .i64 c.most, .slice s.t.a s.t.n s.t.c, .slice s.k.a s.k.n s.k.c, .slice s.i.a s.i.n s.i.c, .slice s.r.a s.r.n s.r.c] #[.int .i64 c.letters, .int .i64 c.planes, .int .i64 c.regs, .int .i64 c.lo, .int .i64 c.hi, .int .i64 c.most, .slice (some ⟨gt, 0, none⟩) s.t.n s.t.n, .slice (some ⟨gc, 0, none⟩) s.k.n s.k.n, .slice (some ⟨gi, 0, none⟩) s.i.n s.i.n, .slice (some ⟨wD.heap.size, 0, none⟩) s.r.n s.r.n] bd ((gc, (intVals c.consts).toArray, 3) :: ((gt, (intVals c.table).toArray, 3) :: ((gi, (qdVals c.cell).toArray, 39) :: [(g2, (intVals y ++ mkL).toArray, 3), (g1, (intVals x ++ mkL).toArray, 3)]))) (wa.setCell ⟨bd, 9, none⟩ (.slice (some ⟨wD.heap.size, 0, none⟩) s.r.n s.r.n))) := (HB.out.next HM.out.low).put 9 _ rfl
  have HM2 : Hid ((wa.setCell ⟨bd, 9, none⟩ (.slice (some ⟨wD.heap.size, 0, none⟩) s.r.n s.r.n)).heap[wD.heap.size]? = some (.cells (List.replicate (s.r.n * 4) (.int .i64 0)).toArray 41 (0, 0))) := by
    show _ = _
    rw [Below.heap_setCell _ _ _ _ (by show wD.heap.size ≠ bd; have := lt_block HB.out.dbx; omega)]
    exact HM.out.row
  go_upto_region 15 with (fail)
  clear y0 f0
  obtain ⟨wb, hwb⟩ : ∃ wb, wb = wa.setCell ⟨bd, 9, none⟩ (.slice (some ⟨wD.heap.size, 0, none⟩) s.r.n s.r.n) := ⟨_, rfl⟩
  rw [← hwb] at HD2 HM2 ⊢
  have HWb : Hid (wb = wa.setCell ⟨bd, 9, none⟩ (.slice (some ⟨wD.heap.size, 0, none⟩) s.r.n s.r.n)) := hwb
  clear hwb
  have x0 := HD2.out.c 9 (.slice s.r.a s.r.n s.r.c) rfl
  have y0 := HD2.out.d 9 (.slice (some ⟨wD.heap.size, 0, none⟩) s.r.n s.r.n) rfl
  go_wp2_with (refine wpList_copyG Try.underlying24 size42 rfl (.tmp 78) (.tmp 80) rfl wD.heap.size (s.r.n) (s.r.n) (s.r.a) (s.r.n) (s.r.c) rfl rfl (HNk.out.2.2.2) _ HM2.out (qdVals c.arrows) ?c0 ((HC.out.1.below HD2.out.low).arrows.source) ?c1 (qds_oneC _) wD.heap.size _ (Below.refl _ _) (Nat.le_refl _) ?_)
  case c0 => rw [qdVals_length, HLn.out.2.2.2]; show _ = Nat.min s.r.n s.r.n * 4; rw [show Nat.min s.r.n s.r.n = s.r.n from Nat.min_eq_left (by omega)]
  case c1 => rw [qdVals_length, HLn.out.2.2.2]; first | (simp; done) | (simp; omega)
  intro wE hrow hlow vcopy
  have HB' : Hid (Cm w #[.int .i64 c.letters, .int .i64 c.planes, .int .i64 c.regs, .int .i64 c.lo, .int .i64 c.hi, .int .i64 c.most, .slice s.t.a s.t.n s.t.c, .slice s.k.a s.k.n s.k.c, .slice s.i.a s.i.n s.i.c, .slice s.r.a s.r.n s.r.c] #[.int .i64 c.letters, .int .i64 c.planes, .int .i64 c.regs, .int .i64 c.lo, .int .i64 c.hi, .int .i64 c.most, .slice (some ⟨gt, 0, none⟩) s.t.n s.t.n, .slice (some ⟨gc, 0, none⟩) s.k.n s.k.n, .slice (some ⟨gi, 0, none⟩) s.i.n s.i.n, .slice (some ⟨wD.heap.size, 0, none⟩) s.r.n s.r.n] bd ((wD.heap.size, (qdVals c.arrows).toArray, 41) :: ((gc, (intVals c.consts).toArray, 3) :: ((gt, (intVals c.table).toArray, 3) :: ((gi, (qdVals c.cell).toArray, 39) :: [(g2, (intVals y ++ mkL).toArray, 3), (g1, (intVals x ++ mkL).toArray, 3)])))) wE) := by
    rw [HWb.out] at hlow
    refine HB.out.copied HM.out rfl hlow ?_ (by decide)
    rw [hrow, qdVals_length, HLn.out.2.2.2]
    simp
  have HGr : Hid (bd < wD.heap.size) := lt_block HB.out.dbx
  clear hrow hlow HM HM2 HD2 HWb HB x0 y0
  go_upto_region 16 with (fail)
  have HB : Hid _ := HB'.out
  clear HB'
  obtain ⟨gr, hg⟩ : ∃ g, wD.heap.size = g := ⟨_, rfl⟩
  rw [hg] at HB HGr ⊢
  clear hg
  have HGs : Hid (w.heap.size ≤ wE.heap.size ∧ g1 < wE.heap.size ∧ gi < wE.heap.size ∧ gr < wE.heap.size) := by
    have h := HB.out.rows
    exact ⟨HB.out.low.size, lt_block (h (g1, (intVals x ++ mkL).toArray, 3) (by simp)).1, lt_block (h (gi, (qdVals c.cell).toArray, 39) (by simp)).1, lt_block (h (gr, (qdVals c.arrows).toArray, 41) (by simp)).1⟩
  have HCd : Hid (∀ W, Below wE.heap.size wE W → CdAt W c ⟨⟨some ⟨gt, 0, none⟩, s.t.n, s.t.n⟩, ⟨some ⟨gc, 0, none⟩, s.k.n, s.k.n⟩, ⟨some ⟨gi, 0, none⟩, s.i.n, s.i.n⟩, ⟨some ⟨gr, 0, none⟩, s.r.n, s.r.n⟩⟩ ∧ IntsAt W (some ⟨g1, 0, none⟩) xn x ∧ IntsAt W (some ⟨g2, 0, none⟩) yn y) := by
    intro W hW
    have h := (HB.out.next hW).rows
    have h1 := (h (gi, (qdVals c.cell).toArray, 39) (by simp)).1
    have h2 := (h (gt, (intVals c.table).toArray, 3) (by simp)).1
    have h3 := (h (gc, (intVals c.consts).toArray, 3) (by simp)).1
    have h4 := (h (gr, (qdVals c.arrows).toArray, 41) (by simp)).1
    have h5 := (h (g1, (intVals x ++ mkL).toArray, 3) (by simp)).1
    have h6 := (h (g2, (intVals y ++ mkL).toArray, 3) (by simp)).1
    obtain ⟨e1, e2, e3, e4⟩ := HLn.out
    have e5 := HC.out.2.1.length
    have e6 := HC.out.2.2.length
    have hz := HS4.out
    have hz2 := HSz.out
    have a1 := rowQ_at (m := []) (by simpa using h1) (by unfold maxLen; omega)
    have a2 := rowT_at (m := []) (by simpa using h2) (by unfold maxLen; omega)
    have a3 := rowT_at (m := []) (by simpa using h3) (by unfold maxLen; omega)
    have a4 := rowQ_at (m := []) (by simpa using h4) (by unfold maxLen; omega)
    have a5 := rowT_at (l := x) (m := mkL) h5 (by unfold maxLen; omega)
    have a6 := rowT_at (l := y) (m := mkL) h6 (by unfold maxLen; omega)
    rw [e2] at a1
    rw [e3] at a2
    rw [e1] at a3
    rw [e4] at a4
    rw [e5] at a5
    rw [e6] at a6
    exact ⟨⟨a2, a3, a1, a4⟩, a5, a6⟩
  have hcx := run_cutN (some ⟨g1, 0, none⟩) (xn + 2) (xn + 2) xn (by omega)
  have hcy := run_cutN (some ⟨g2, 0, none⟩) (yn + 2) (yn + 2) yn (by omega)
  have HS : Hid ((fun W : World => W.cell? ⟨bd, 0, none⟩ = some (.int .i64 c.letters) ∧ W.cell? ⟨bd, 1, none⟩ = some (.int .i64 c.planes) ∧ W.cell? ⟨bd, 2, none⟩ = some (.int .i64 c.regs) ∧ W.cell? ⟨bd, 3, none⟩ = some (.int .i64 c.lo) ∧ W.cell? ⟨bd, 4, none⟩ = some (.int .i64 c.hi) ∧ W.cell? ⟨bd, 5, none⟩ = some (.int .i64 c.most) ∧ W.cell? ⟨bd, 6, none⟩ = some (.slice (some ⟨gt, 0, none⟩) s.t.n s.t.n) ∧ W.cell? ⟨bd, 7, none⟩ = some (.slice (some ⟨gc, 0, none⟩) s.k.n s.k.n) ∧ W.cell? ⟨bd, 8, none⟩ = some (.slice (some ⟨gi, 0, none⟩) s.i.n s.i.n) ∧ W.cell? ⟨bd, 9, none⟩ = some (.slice (some ⟨gr, 0, none⟩) s.r.n s.r.n)) wE.drew) := ⟨(HB.out.next (Below.refl _ _).drew).d 0 _ rfl, (HB.out.next (Below.refl _ _).drew).d 1 _ rfl, (HB.out.next (Below.refl _ _).drew).d 2 _ rfl, (HB.out.next (Below.refl _ _).drew).d 3 _ rfl, (HB.out.next (Below.refl _ _).drew).d 4 _ rfl, (HB.out.next (Below.refl _ _).drew).d 5 _ rfl, (HB.out.next (Below.refl _ _).drew).d 6 _ rfl, (HB.out.next (Below.refl _ _).drew).d 7 _ rfl, (HB.out.next (Below.refl _ _).drew).d 8 _ rfl, (HB.out.next (Below.refl _ _).drew).d 9 _ rfl⟩
  refine wp_region_Y (fun j => [].contains j) (fun W : World => W.cell? ⟨bd, 0, none⟩ = some (.int .i64 c.letters) ∧ W.cell? ⟨bd, 1, none⟩ = some (.int .i64 c.planes) ∧ W.cell? ⟨bd, 2, none⟩ = some (.int .i64 c.regs) ∧ W.cell? ⟨bd, 3, none⟩ = some (.int .i64 c.lo) ∧ W.cell? ⟨bd, 4, none⟩ = some (.int .i64 c.hi) ∧ W.cell? ⟨bd, 5, none⟩ = some (.int .i64 c.most) ∧ W.cell? ⟨bd, 6, none⟩ = some (.slice (some ⟨gt, 0, none⟩) s.t.n s.t.n) ∧ W.cell? ⟨bd, 7, none⟩ = some (.slice (some ⟨gc, 0, none⟩) s.k.n s.k.n) ∧ W.cell? ⟨bd, 8, none⟩ = some (.slice (some ⟨gi, 0, none⟩) s.i.n s.i.n) ∧ W.cell? ⟨bd, 9, none⟩ = some (.slice (some ⟨gr, 0, none⟩) s.r.n s.r.n)) (by kernel_rfl) ?_
  refine wpAnyY_takeD (i := 0) 83 (v := .agg #[.int .i64 c.letters, .int .i64 c.planes, .int .i64 c.regs, .int .i64 c.lo, .int .i64 c.hi, .int .i64 c.most, .slice (some ⟨gt, 0, none⟩) s.t.n s.t.n, .slice (some ⟨gc, 0, none⟩) s.k.n s.k.n, .slice (some ⟨gi, 0, none⟩) s.i.n s.i.n, .slice (some ⟨gr, 0, none⟩) s.r.n s.r.n]) rfl rfl (by kernel_rfl) (by kernel_rfl) (late_of (by kernel_rfl)) (by kernel_rfl) (by kernel_rfl) (fun _ _ _ h => h) HS.out (Or.inl ⟨by rfl, by (intro W hW; obtain ⟨e0, e1, e2, e3, e4, e5, e6, e7, e8, e9⟩ := hW; go_simp)⟩) ?_
  simp only [Act.put, List.setIfInBounds_toArray, List.set_cons_succ, List.set_cons_zero]
  refine wpAnyY_pure (i := 1) 84 (v := .slice (some ⟨g1, 0, none⟩) (xn + 2) (xn + 2)) rfl rfl (by kernel_rfl) (by kernel_rfl) (by kernel_rfl) (fun _ _ _ h => h) (Or.inl ⟨by rfl, by (intro W _; go_simp)⟩) ?_
  simp only [Act.put, List.setIfInBounds_toArray, List.set_cons_succ, List.set_cons_zero]
  refine wpAnyY_pure (i := 2) 85 (v := .slice xa xn xc) rfl rfl (by kernel_rfl) (by kernel_rfl) (by kernel_rfl) (fun _ _ _ h => h) (Or.inl ⟨by rfl, by (intro W _; go_simp)⟩) ?_
  simp only [Act.put, List.setIfInBounds_toArray, List.set_cons_succ, List.set_cons_zero]
  refine wpAnyY_pure (i := 3) 86 (v := .int .i64 (xn : Int)) rfl rfl (by kernel_rfl) (by kernel_rfl) (by kernel_rfl) (fun _ _ _ h => h) (Or.inl ⟨by rfl, by (intro W _; go_simp)⟩) ?_
  simp only [Act.put, List.setIfInBounds_toArray, List.set_cons_succ, List.set_cons_zero]
  refine wpAnyY_pure (i := 4) 87 (v := .slice (some ⟨g1, 0, none⟩) xn (xn + 2)) rfl rfl (by kernel_rfl) (by kernel_rfl) (by kernel_rfl) (fun _ _ _ h => h) (Or.inl ⟨by rfl, by (intro W _; go_simp)⟩) ?_
  simp only [Act.put, List.setIfInBounds_toArray, List.set_cons_succ, List.set_cons_zero]
  refine wpAnyY_pure (i := 5) 88 (v := .slice (some ⟨g2, 0, none⟩) (yn + 2) (yn + 2)) rfl rfl (by kernel_rfl) (by kernel_rfl) (by kernel_rfl) (fun _ _ _ h => h) (Or.inl ⟨by rfl, by (intro W _; go_simp)⟩) ?_
  simp only [Act.put, List.setIfInBounds_toArray, List.set_cons_succ, List.set_cons_zero]
  refine wpAnyY_pure (i := 6) 89 (v := .slice ya yn yc) rfl rfl (by kernel_rfl) (by kernel_rfl) (by kernel_rfl) (fun _ _ _ h => h) (Or.inl ⟨by rfl, by (intro W _; go_simp)⟩) ?_
  simp only [Act.put, List.setIfInBounds_toArray, List.set_cons_succ, List.set_cons_zero]
  refine wpAnyY_pure (i := 7) 90 (v := .int .i64 (yn : Int)) rfl rfl (by kernel_rfl) (by kernel_rfl) (by kernel_rfl) (fun _ _ _ h => h) (Or.inl ⟨by rfl, by (intro W _; go_simp)⟩) ?_
  simp only [Act.put, List.setIfInBounds_toArray, List.set_cons_succ, List.set_cons_zero]
  refine wpAnyY_pure (i := 8) 91 (v := .slice (some ⟨g2, 0, none⟩) yn (yn + 2)) rfl rfl (by kernel_rfl) (by kernel_rfl) (by kernel_rfl) (fun _ _ _ h => h) (Or.inl ⟨by rfl, by (intro W _; go_simp)⟩) ?_
  simp only [Act.put, List.setIfInBounds_toArray, List.set_cons_succ, List.set_cons_zero]
  refine wpAnyY_one (i := 9) rfl (by kernel_rfl) (fun Kc hKc => ?_)
  refine step_fnD 92 rfl (by rfl) 12 _ _ rfl Try.f12 Try.func12 (by kernel_rfl) (by kernel_rfl) #[.agg #[.int .i64 c.letters, .int .i64 c.planes, .int .i64 c.regs, .int .i64 c.lo, .int .i64 c.hi, .int .i64 c.most, .slice (some ⟨gt, 0, none⟩) s.t.n s.t.n, .slice (some ⟨gc, 0, none⟩) s.k.n s.k.n, .slice (some ⟨gi, 0, none⟩) s.i.n s.i.n, .slice (some ⟨gr, 0, none⟩) s.r.n s.r.n], .slice (some ⟨g1, 0, none⟩) xn (xn + 2), .slice (some ⟨g2, 0, none⟩) yn (yn + 2)] (by simp [Act.eval]) (run_calls c ⟨⟨some ⟨gt, 0, none⟩, s.t.n, s.t.n⟩, ⟨some ⟨gc, 0, none⟩, s.k.n, s.k.n⟩, ⟨some ⟨gi, 0, none⟩, s.i.n, s.i.n⟩, ⟨some ⟨gr, 0, none⟩, s.r.n, s.r.n⟩⟩ ⟨some ⟨g1, 0, none⟩, xn, xn + 2⟩ ⟨some ⟨g2, 0, none⟩, yn, yn + 2⟩ x y _ (HCd.out _ (Below.refl _ _).drew).1 (HCd.out _ (Below.refl _ _).drew).2.1 (HCd.out _ (Below.refl _ _).drew).2.2) ?_
  rintro e w5 ⟨hb5, r, rfl, hr1, hr0⟩
  refine ⟨_, rfl, hKc.out _ _ (fun _ h => ⟨cell_bl hb5 h.1, cell_bl hb5 h.2.1, cell_bl hb5 h.2.2.1, cell_bl hb5 h.2.2.2.1, cell_bl hb5 h.2.2.2.2.1, cell_bl hb5 h.2.2.2.2.2.1, cell_bl hb5 h.2.2.2.2.2.2.1, cell_bl hb5 h.2.2.2.2.2.2.2.1, cell_bl hb5 h.2.2.2.2.2.2.2.2.1, cell_bl hb5 h.2.2.2.2.2.2.2.2.2⟩) ?_⟩
  clear hKc Kc
  simp only [Act.put, List.setIfInBounds_toArray, List.set_cons_succ, List.set_cons_zero]
  have HB5 : Hid (Cm w #[.int .i64 c.letters, .int .i64 c.planes, .int .i64 c.regs, .int .i64 c.lo, .int .i64 c.hi, .int .i64 c.most, .slice s.t.a s.t.n s.t.c, .slice s.k.a s.k.n s.k.c, .slice s.i.a s.i.n s.i.c, .slice s.r.a s.r.n s.r.c] #[.int .i64 c.letters, .int .i64 c.planes, .int .i64 c.regs, .int .i64 c.lo, .int .i64 c.hi, .int .i64 c.most, .slice (some ⟨gt, 0, none⟩) s.t.n s.t.n, .slice (some ⟨gc, 0, none⟩) s.k.n s.k.n, .slice (some ⟨gi, 0, none⟩) s.i.n s.i.n, .slice (some ⟨gr, 0, none⟩) s.r.n s.r.n] bd ((gr, (qdVals c.arrows).toArray, 41) :: ((gc, (intVals c.consts).toArray, 3) :: ((gt, (intVals c.table).toArray, 3) :: ((gi, (qdVals c.cell).toArray, 39) :: [(g2, (intVals y ++ mkL).toArray, 3), (g1, (intVals x ++ mkL).toArray, 3)])))) w5 ∧ Below wE.heap.size wE w5) := ⟨(HB.out.next (Below.refl _ _).drew).next hb5, (Below.refl _ _).drew.trans hb5⟩
  have HRp : Hid ((refB (chkB c).2 c x y ≠ 0 → r = .pointer none) ∧ (refB (chkB c).2 c x y = 0 → ∃ g gs sa, r = .pointer (some ⟨g, 0, none⟩) ∧ (wE.heap.size ≤ g ∧ wE.heap.size ≤ gs) ∧ Tb w5 g gs c.planes.toNat x.length y.length sa (runM c x y).slots (runM c x y).ends (runM c x y).steps ∧ w5.ownsRow wE.heap.size 41 4 (.slice sa.a sa.n sa.c) sa.n (qdVals c.arrows) ∧ sa.n = c.arrows.length)) := ⟨hr1, hr0⟩
  clear hr1 hr0 hb5
  obtain ⟨er, her⟩ : ∃ er, refB (chkB c).2 c x y = er := ⟨_, rfl⟩
  have HEr : Hid (refB (chkB c).2 c x y = er) := her
  rw [her] at HRp ⊢
  clear her
  refine wpAnyY_pure (i := 10) 82 (v := .tuple #[r, .int .i64 er]) rfl rfl (by kernel_rfl) (by kernel_rfl) (by kernel_rfl) (fun _ _ _ h => h) (Or.inl ⟨by rfl, by (intro W _; go_simp)⟩) ?_
  simp only [Act.put, List.setIfInBounds_toArray, List.set_cons_succ, List.set_cons_zero]
  refine wpAnyY_pure (i := 11) 93 (v := r) rfl rfl (by kernel_rfl) (by kernel_rfl) (by kernel_rfl) (fun _ _ _ h => h) (Or.inl ⟨by rfl, by (intro W _; go_simp)⟩) ?_
  simp only [Act.put, List.setIfInBounds_toArray, List.set_cons_succ, List.set_cons_zero]
  refine wpAnyY_pure (i := 12) 94 (v := .int .i64 er) rfl rfl (by kernel_rfl) (by kernel_rfl) (by kernel_rfl) (fun _ _ _ h => h) (Or.inl ⟨by rfl, by (intro W _; go_simp)⟩) ?_
  simp only [Act.put, List.setIfInBounds_toArray, List.set_cons_succ, List.set_cons_zero]
  refine wpAnyY_pure (i := 13) 11 (v := r) rfl rfl (by kernel_rfl) (by kernel_rfl) (by kernel_rfl) (fun _ _ _ h => h) (Or.inl ⟨by rfl, by (intro W _; go_simp)⟩) ?_
  simp only [Act.put, List.setIfInBounds_toArray, List.set_cons_succ, List.set_cons_zero]
  refine wpAnyY_pure (i := 14) 12 (v := .int .i64 er) rfl rfl (by kernel_rfl) (by kernel_rfl) (by kernel_rfl) (fun _ _ _ h => h) (Or.inl ⟨by rfl, by (intro W _; go_simp)⟩) ?_
  simp only [Act.put, List.setIfInBounds_toArray, List.set_cons_succ, List.set_cons_zero]
  refine wpAnyY_done (by kernel_rfl) ?_ _
  clear HS HB hcx hcy
  have c0 := HB5.out.1.c 0 (.int .i64 c.letters) rfl
  have c1 := HB5.out.1.c 1 (.int .i64 c.planes) rfl
  have c2 := HB5.out.1.c 2 (.int .i64 c.regs) rfl
  have c3 := HB5.out.1.c 3 (.int .i64 c.lo) rfl
  have c4 := HB5.out.1.c 4 (.int .i64 c.hi) rfl
  have c5 := HB5.out.1.c 5 (.int .i64 c.most) rfl
  have c6 := HB5.out.1.c 6 (.slice s.t.a s.t.n s.t.c) rfl
  have c7 := HB5.out.1.c 7 (.slice s.k.a s.k.n s.k.c) rfl
  have c8 := HB5.out.1.c 8 (.slice s.i.a s.i.n s.i.c) rfl
  have c9 := HB5.out.1.c 9 (.slice s.r.a s.r.n s.r.c) rfl
  go_wp2_with fail
  refine (drun_calls c s ⟨xa, xn, xc⟩ ⟨ya, yn, yc⟩ x y _ (HC.out.1.below HB5.out.1.low) (HC.out.2.1.below HB5.out.1.low) (HC.out.2.2.below HB5.out.1.low)).mono ?_
  rintro e w6 ⟨hb6, r2, rfl, hd1, hd0⟩
  rw [HEr.out] at hd1 hd0 ⊢
  have HB6 : Hid (Cm w #[.int .i64 c.letters, .int .i64 c.planes, .int .i64 c.regs, .int .i64 c.lo, .int .i64 c.hi, .int .i64 c.most, .slice s.t.a s.t.n s.t.c, .slice s.k.a s.k.n s.k.c, .slice s.i.a s.i.n s.i.c, .slice s.r.a s.r.n s.r.c] #[.int .i64 c.letters, .int .i64 c.planes, .int .i64 c.regs, .int .i64 c.lo, .int .i64 c.hi, .int .i64 c.most, .slice (some ⟨gt, 0, none⟩) s.t.n s.t.n, .slice (some ⟨gc, 0, none⟩) s.k.n s.k.n, .slice (some ⟨gi, 0, none⟩) s.i.n s.i.n, .slice (some ⟨gr, 0, none⟩) s.r.n s.r.n] bd ((gr, (qdVals c.arrows).toArray, 41) :: ((gc, (intVals c.consts).toArray, 3) :: ((gt, (intVals c.table).toArray, 3) :: ((gi, (qdVals c.cell).toArray, 39) :: [(g2, (intVals y ++ mkL).toArray, 3), (g1, (intVals x ++ mkL).toArray, 3)])))) w6 ∧ Below w5.heap.size w5 w6 ∧ Below wE.heap.size wE w5) := ⟨HB5.out.1.next hb6, hb6, HB5.out.2⟩
  have HDp : Hid ((er ≠ 0 → r2 = .pointer none) ∧ (er = 0 → ∃ w1 p se, r2 = .pointer (some ⟨p.b, 0, none⟩) ∧ Below w5.heap.size w5 w1 ∧ Dt w1 w6 p c s ⟨xa, xn, xc⟩ ⟨ya, yn, yc⟩ x y se (runM c x y) (runM c x y).steps ∧ Nrm c x.length y.length (runM c x y) ∧ w1.heap.size ≤ p.ob)) := ⟨hd1, hd0⟩
  clear hb6 hd1 hd0 HB5 c0 c1 c2 c3 c4 c5 c6 c7 c8 c9
  have hsz := HSz.out
  go_wp2_with fail
  refine (kept_calls x g1 (xn + 2) xa xn xc _ rfl (HB6.out.1.rows (g1, (intVals x ++ mkL).toArray, 3) (by simp)).1 (HC.out.2.1.below HB6.out.1.low) hsz.1).mono ?_
  rintro e w7 ⟨rfl, hb7⟩
  have HB7 : Hid (Cm w #[.int .i64 c.letters, .int .i64 c.planes, .int .i64 c.regs, .int .i64 c.lo, .int .i64 c.hi, .int .i64 c.most, .slice s.t.a s.t.n s.t.c, .slice s.k.a s.k.n s.k.c, .slice s.i.a s.i.n s.i.c, .slice s.r.a s.r.n s.r.c] #[.int .i64 c.letters, .int .i64 c.planes, .int .i64 c.regs, .int .i64 c.lo, .int .i64 c.hi, .int .i64 c.most, .slice (some ⟨gt, 0, none⟩) s.t.n s.t.n, .slice (some ⟨gc, 0, none⟩) s.k.n s.k.n, .slice (some ⟨gi, 0, none⟩) s.i.n s.i.n, .slice (some ⟨gr, 0, none⟩) s.r.n s.r.n] bd ((gr, (qdVals c.arrows).toArray, 41) :: ((gc, (intVals c.consts).toArray, 3) :: ((gt, (intVals c.table).toArray, 3) :: ((gi, (qdVals c.cell).toArray, 39) :: [(g2, (intVals y ++ mkL).toArray, 3), (g1, (intVals x ++ mkL).toArray, 3)])))) w7 ∧ Below w6.heap.size w6 w7) := ⟨HB6.out.1.next hb7, hb7⟩
  clear hb7
  go_wp2_with fail
  refine (kept_calls y g2 (yn + 2) ya yn yc _ rfl (HB7.out.1.rows (g2, (intVals y ++ mkL).toArray, 3) (by simp)).1 (HC.out.2.2.below HB7.out.1.low) hsz.2).mono ?_
  rintro e w8 ⟨rfl, hb8⟩
  have HB8 : Hid (Cm w #[.int .i64 c.letters, .int .i64 c.planes, .int .i64 c.regs, .int .i64 c.lo, .int .i64 c.hi, .int .i64 c.most, .slice s.t.a s.t.n s.t.c, .slice s.k.a s.k.n s.k.c, .slice s.i.a s.i.n s.i.c, .slice s.r.a s.r.n s.r.c] #[.int .i64 c.letters, .int .i64 c.planes, .int .i64 c.regs, .int .i64 c.lo, .int .i64 c.hi, .int .i64 c.most, .slice (some ⟨gt, 0, none⟩) s.t.n s.t.n, .slice (some ⟨gc, 0, none⟩) s.k.n s.k.n, .slice (some ⟨gi, 0, none⟩) s.i.n s.i.n, .slice (some ⟨gr, 0, none⟩) s.r.n s.r.n] bd ((gr, (qdVals c.arrows).toArray, 41) :: ((gc, (intVals c.consts).toArray, 3) :: ((gt, (intVals c.table).toArray, 3) :: ((gi, (qdVals c.cell).toArray, 39) :: [(g2, (intVals y ++ mkL).toArray, 3), (g1, (intVals x ++ mkL).toArray, 3)])))) w8 ∧ Below w6.heap.size w6 w8) := ⟨HB7.out.1.next hb8, HB7.out.2.trans (hb8.mono HB7.out.2.size)⟩
  clear hb8 HB7 hsz
  have hee : (er != er) = false := by simp
  by_cases h0 : er = 0
  rotate_left
  · obtain rfl := HRp.out.1 h0
    obtain rfl := HDp.out.1 h0
    clear h0
    go_wp2
    go_ret
    exact ⟨rfl, HB8.out.1.low⟩
  obtain ⟨g, gs, sa, rfl, hge, hT, hO, hsn⟩ := HRp.out.2 h0
  obtain ⟨w1, p, se, rfl, hl1, hDt, hNm, hob⟩ := HDp.out.2 h0
  have hrf := HEr.out
  rw [h0] at hrf
  have HOk : Hid (Gk c ∧ ((x.length : Int) ≤ c.most ∧ (y.length : Int) ≤ c.most) ∧ (x.length + 1) * (y.length + 1) ≤ 1048576) := ⟨(ref_0 hrf).1, (ref_0 hrf).2.1, (ref_0 hrf).2.2.2⟩
  have HT : Hid (Tb w8 g gs c.planes.toNat x.length y.length sa (runM c x y).slots (runM c x y).ends (runM c x y).steps ∧ w8.ownsRow wE.heap.size 41 4 (.slice sa.a sa.n sa.c) sa.n (qdVals c.arrows) ∧ sa.n = c.arrows.length ∧ wE.heap.size ≤ g ∧ wE.heap.size ≤ gs) := ⟨(hT.next HB6.out.2.1).next HB8.out.2, owned_below (owned_below hO HB6.out.2.1) HB8.out.2, hsn, hge⟩
  have HDt : Hid (Dt w1 w8 p c s ⟨xa, xn, xc⟩ ⟨ya, yn, yc⟩ x y se (runM c x y) (runM c x y).steps ∧ Nrm c x.length y.length (runM c x y) ∧ w1.heap.size ≤ p.ob ∧ wE.heap.size ≤ w1.heap.size) := ⟨hDt.next HB8.out.2, hNm, hob, Nat.le_trans HB6.out.2.2.size hl1.size⟩
  subst h0
  clear hge hT hO hsn hl1 hDt hNm hob hrf HRp HDp
  have HJ : Hid (Jw w wE w8 #[.int .i64 c.letters, .int .i64 c.planes, .int .i64 c.regs, .int .i64 c.lo, .int .i64 c.hi, .int .i64 c.most, .slice s.t.a s.t.n s.t.c, .slice s.k.a s.k.n s.k.c, .slice s.i.a s.i.n s.i.c, .slice s.r.a s.r.n s.r.c] #[.int .i64 c.letters, .int .i64 c.planes, .int .i64 c.regs, .int .i64 c.lo, .int .i64 c.hi, .int .i64 c.most, .slice (some ⟨gt, 0, none⟩) s.t.n s.t.n, .slice (some ⟨gc, 0, none⟩) s.k.n s.k.n, .slice (some ⟨gi, 0, none⟩) s.i.n s.i.n, .slice (some ⟨gr, 0, none⟩) s.r.n s.r.n] bd [(g1, 3, xn + 2), (gi, 39, s.i.n * 4), (gr, 41, s.r.n * 4)] w8) := by
    have h := HB8.out.1
    obtain ⟨z0, z1, z2, z3⟩ := HGs.out
    have e5 := HC.out.2.1.length
    obtain ⟨e1, e2, e3, e4⟩ := HLn.out
    have r1 := h.rows (g1, (intVals x ++ mkL).toArray, 3) (by simp)
    have r2 := h.rows (gi, (qdVals c.cell).toArray, 39) (by simp)
    have r3 := h.rows (gr, (qdVals c.arrows).toArray, 41) (by simp)
    refine ⟨h.low, h.box, h.dbx, fun _ _ _ => rfl, Nat.le_refl _, fun r hr => ?_⟩
    simp only [List.mem_cons, List.not_mem_nil, or_false] at hr
    rcases hr with rfl | rfl | rfl
    · exact ⟨⟨_, r1.1, by simp [intVals_length, mkL, e5]⟩, r1.2.1, z1, r1.2.2⟩
    · exact ⟨⟨_, r2.1, by simp [qdVals_length, e2]⟩, r2.2.1, z2, r2.2.2⟩
    · exact ⟨⟨_, r3.1, by simp [qdVals_length, e4]⟩, r3.2.1, z3, r3.2.2⟩
  clear HB8 HB6 HCd
  have hinb : s.i.n ≤ 2147483647 := HS4.out.2.2.1
  have hrnb : s.r.n ≤ 2147483647 := HS4.out.2.2.2
  have hxm : (xn : Int) ≤ 65536 := by have h1 := HOk.out.2.1.1; have h2 := HOk.out.1.rt.most; have h3 := HC.out.2.1.length; omega
  have hym : (yn : Int) ≤ 65536 := by have h1 := HOk.out.2.1.2; have h2 := HOk.out.1.rt.most; have h3 := HC.out.2.2.length; omega
  go_wp2
  go_loopg [17] xn (fun q v17 wr => ∃ i : Nat, i + q = xn ∧ v17 = .int .i64 (i : Int) ∧ Hid (Jw w wE w8 #[.int .i64 c.letters, .int .i64 c.planes, .int .i64 c.regs, .int .i64 c.lo, .int .i64 c.hi, .int .i64 c.most, .slice s.t.a s.t.n s.t.c, .slice s.k.a s.k.n s.k.c, .slice s.i.a s.i.n s.i.c, .slice s.r.a s.r.n s.r.c] #[.int .i64 c.letters, .int .i64 c.planes, .int .i64 c.regs, .int .i64 c.lo, .int .i64 c.hi, .int .i64 c.most, .slice (some ⟨gt, 0, none⟩) s.t.n s.t.n, .slice (some ⟨gc, 0, none⟩) s.k.n s.k.n, .slice (some ⟨gi, 0, none⟩) s.i.n s.i.n, .slice (some ⟨gr, 0, none⟩) s.r.n s.r.n] bd [(g1, 3, xn + 2), (gi, 39, s.i.n * 4), (gr, 41, s.r.n * 4)] wr))
  case atStart => exact ⟨0, by omega, rfl, HJ⟩
  case round =>
    clear HJ
    obtain ⟨i, hin, rfl, HJ⟩ := hrel
    by_cases hi : i < xn
    · have hd : decide ((i : Int) < (xn : Int)) = true := decide_eq_true (by omega)
      have hgk : 0 < gk := by omega
      have hi2 : i < xn + 2 := by omega
      obtain ⟨v0, y0, f0⟩ := HJ.out.at (g := g1) (t := 3) (n := xn + 2) (by simp) (k := i) (by omega)
      go_wp2
      go_roundg (gk - 1)
      case rel => exact ⟨i + 1, by omega, by go_num, HJ.out.store (g := g1) (t := 3) (n := xn + 2) (by simp) i _⟩
      case measure => omega
    have hd : decide ((i : Int) < (xn : Int)) = false := decide_eq_false (by omega)
    have HJ0 : Hid _ := HJ.out
    clear HJ hin
    obtain ⟨wr1, rfl⟩ : ∃ v, v = wr := ⟨_, rfl⟩
    go_wp2
    go_loopg [18] s.i.n (fun q v18 wr => ∃ i : Nat, i + q = s.i.n ∧ v18 = .int .i64 (i : Int) ∧ Hid (Jw w wE w8 #[.int .i64 c.letters, .int .i64 c.planes, .int .i64 c.regs, .int .i64 c.lo, .int .i64 c.hi, .int .i64 c.most, .slice s.t.a s.t.n s.t.c, .slice s.k.a s.k.n s.k.c, .slice s.i.a s.i.n s.i.c, .slice s.r.a s.r.n s.r.c] #[.int .i64 c.letters, .int .i64 c.planes, .int .i64 c.regs, .int .i64 c.lo, .int .i64 c.hi, .int .i64 c.most, .slice (some ⟨gt, 0, none⟩) s.t.n s.t.n, .slice (some ⟨gc, 0, none⟩) s.k.n s.k.n, .slice (some ⟨gi, 0, none⟩) s.i.n s.i.n, .slice (some ⟨gr, 0, none⟩) s.r.n s.r.n] bd [(g1, 3, xn + 2), (gi, 39, s.i.n * 4), (gr, 41, s.r.n * 4)] wr))
    case atStart => exact ⟨0, by omega, rfl, HJ0⟩
    case round =>
      clear HJ0
      obtain ⟨i2, hin, rfl, HJ⟩ := hrel
      have c8 := HJ.out.d 8 (.slice (some ⟨gi, 0, none⟩) s.i.n s.i.n) rfl
      by_cases hi2 : i2 < s.i.n
      · have hd : decide ((i2 : Int) < (s.i.n : Int)) = true := decide_eq_true (by omega)
        have hgk : 0 < gk := by omega
        obtain ⟨v0, y0, f0⟩ := HJ.out.at (g := gi) (t := 39) (n := s.i.n * 4) (by simp) (k := i2 * 4) (by omega)
        obtain ⟨v1, y1, f1⟩ := HJ.out.at (g := gi) (t := 39) (n := s.i.n * 4) (by simp) (k := i2 * 4 + 1) (by omega)
        obtain ⟨v2, y2, f2⟩ := HJ.out.at (g := gi) (t := 39) (n := s.i.n * 4) (by simp) (k := i2 * 4 + 2) (by omega)
        obtain ⟨v3, y3, f3⟩ := HJ.out.at (g := gi) (t := 39) (n := s.i.n * 4) (by simp) (k := i2 * 4 + 3) (by omega)
        have hm : (gi, 39, s.i.n * 4) ∈ [(g1, 3, xn + 2), (gi, 39, s.i.n * 4), (gr, 41, s.r.n * 4)] := by simp
        go_wp2
        go_roundg (gk - 1)
        case rel => exact ⟨i2 + 1, by omega, by go_num, (((HJ.out.store hm (i2 * 4) _).store hm (i2 * 4 + 1) _).store hm (i2 * 4 + 2) _).store hm (i2 * 4 + 3) _⟩
        case measure => omega
      have hd : decide ((i2 : Int) < (s.i.n : Int)) = false := decide_eq_false (by omega)
      have HJ0 : Hid _ := HJ.out
      clear hin
      obtain ⟨wr2, rfl⟩ : ∃ v, v = wr := ⟨_, rfl⟩
      go_wp2
      clear c8 HJ
      go_loopg [19] s.r.n (fun q v19 wr => ∃ i : Nat, i + q = s.r.n ∧ v19 = .int .i64 (i : Int) ∧ Hid (Jw w wE w8 #[.int .i64 c.letters, .int .i64 c.planes, .int .i64 c.regs, .int .i64 c.lo, .int .i64 c.hi, .int .i64 c.most, .slice s.t.a s.t.n s.t.c, .slice s.k.a s.k.n s.k.c, .slice s.i.a s.i.n s.i.c, .slice s.r.a s.r.n s.r.c] #[.int .i64 c.letters, .int .i64 c.planes, .int .i64 c.regs, .int .i64 c.lo, .int .i64 c.hi, .int .i64 c.most, .slice (some ⟨gt, 0, none⟩) s.t.n s.t.n, .slice (some ⟨gc, 0, none⟩) s.k.n s.k.n, .slice (some ⟨gi, 0, none⟩) s.i.n s.i.n, .slice (some ⟨gr, 0, none⟩) s.r.n s.r.n] bd [(g1, 3, xn + 2), (gi, 39, s.i.n * 4), (gr, 41, s.r.n * 4)] wr))
      case atStart => exact ⟨0, by omega, rfl, HJ0⟩
      case round =>
        clear HJ0
        obtain ⟨i3, hin, rfl, HJ⟩ := hrel
        have c9 := HJ.out.d 9 (.slice (some ⟨gr, 0, none⟩) s.r.n s.r.n) rfl
        by_cases hi3 : i3 < s.r.n
        · have hd : decide ((i3 : Int) < (s.r.n : Int)) = true := decide_eq_true (by omega)
          have hgk : 0 < gk := by omega
          obtain ⟨v0, y0, f0⟩ := HJ.out.at (g := gr) (t := 41) (n := s.r.n * 4) (by simp) (k := i3 * 4) (by omega)
          obtain ⟨v1, y1, f1⟩ := HJ.out.at (g := gr) (t := 41) (n := s.r.n * 4) (by simp) (k := i3 * 4 + 1) (by omega)
          obtain ⟨v2, y2, f2⟩ := HJ.out.at (g := gr) (t := 41) (n := s.r.n * 4) (by simp) (k := i3 * 4 + 2) (by omega)
          obtain ⟨v3, y3, f3⟩ := HJ.out.at (g := gr) (t := 41) (n := s.r.n * 4) (by simp) (k := i3 * 4 + 3) (by omega)
          have hm : (gr, 41, s.r.n * 4) ∈ [(g1, 3, xn + 2), (gi, 39, s.i.n * 4), (gr, 41, s.r.n * 4)] := by simp
          go_wp2
          go_roundg (gk - 1)
          case rel => exact ⟨i3 + 1, by omega, by go_num, (((HJ.out.store hm (i3 * 4) _).store hm (i3 * 4 + 1) _).store hm (i3 * 4 + 2) _).store hm (i3 * 4 + 3) _⟩
          case measure => omega
        have hd : decide ((i3 : Int) < (s.r.n : Int)) = false := decide_eq_false (by omega)
        clear hin
        obtain ⟨wr3, rfl⟩ : ∃ v, v = wr := ⟨_, rfl⟩
        have HJr : Hid _ := HJ.out
        clear HJ
        have e5 := HC.out.2.1.length
        have e6 := HC.out.2.2.length
        have HXY : Hid (x.length = xn ∧ y.length = yn) := ⟨e5, e6⟩
        obtain ⟨P, hP⟩ : ∃ P : Nat, c.planes = P := ⟨c.planes.toNat, by have := HOk.out.1.rt.planes; omega⟩
        have HP : Hid (c.planes = (P : Int) ∧ c.planes.toNat = P ∧ P ≤ 10) := ⟨hP, by omega, by have := HOk.out.1.rt.planes; omega⟩
        obtain ⟨M, hM⟩ : ∃ M, runM c x y = M := ⟨_, rfl⟩
        have HFd : Hid (FoundOk M.ends) := by rw [← hM]; exact run_found c x y
        rw [hM] at HT HDt
        have HTw : Hid (Tb wr3 g gs c.planes.toNat x.length y.length sa M.slots M.ends M.steps) := HJr.out.tb HT.out.1 HT.out.2.2.2
        have HAw : Hid (QdsAt wr3 sa.a sa.n c.arrows) := qds_owned (HJr.out.own HT.out.2.1)
        have HDw : Hid (Dt (cutW w1.heap.size wr3) wr3 p c s ⟨xa, xn, xc⟩ ⟨ya, yn, yc⟩ x y se M M.steps) := HJr.out.dt HDt.out.1 HDt.out.2.2.1 HDt.out.2.2.2 HGs.out.1 HC.out.1 HC.out.2.1 HC.out.2.2
        have HNm : Hid (Nrm c x.length y.length M) := HDt.out.2.1
        have HJl : Hid (Below w.heap.size w wr3 ∧ wr3.heap[w.heap.size]? = some (.cells #[.int .i64 c.letters, .int .i64 c.planes, .int .i64 c.regs, .int .i64 c.lo, .int .i64 c.hi, .int .i64 c.most, .slice s.t.a s.t.n s.t.c, .slice s.k.a s.k.n s.k.c, .slice s.i.a s.i.n s.i.c, .slice s.r.a s.r.n s.r.c] 26 (0, 0))) := ⟨HJr.out.low, HJr.out.box⟩
        have HSz1 : Hid (∀ W, Below wr3.heap.size wr3 W → Calls Try.prog 15 #[.pointer (some ⟨g, 0, none⟩)] W fun r w' => r = .returned (.tuple #[.int .i64 (xn : Int), .int .i64 (yn : Int)]) ∧ Below W.heap.size W w') := fun W hW => by
          have := size_calls (HTw.out.next hW)
          rw [HXY.out.1, HXY.out.2] at this
          exact this
        have HPl1 : Hid (∀ W, Below wr3.heap.size wr3 W → Calls Try.prog 16 #[.pointer (some ⟨g, 0, none⟩)] W fun r w' => r = .returned (.int .i64 c.planes) ∧ Below W.heap.size W w') := fun W hW => by
          have := planes_calls (HTw.out.next hW)
          rw [HP.out.2.1, ← HP.out.1] at this
          exact this
        have HBs1 : Hid (∀ W, Below wr3.heap.size wr3 W → Calls Try.prog 19 #[.pointer (some ⟨g, 0, none⟩), .pointer (some ⟨p.b, 0, none⟩)] W fun e w' => e = .returned (.bool true) ∧ Below W.heap.size W w') := fun W hW => tbest_calls (HTw.out.next hW) (HDw.out.next hW) HNm.out.pl (by have := HP.out.2; omega) HFd.out
        have HAl1 : Hid (∀ W, Below wr3.heap.size wr3 W → ∀ i j : Int, -100000 ≤ i ∧ i ≤ 100000 → -100000 ≤ j ∧ j ≤ 100000 → Calls Try.prog 20 #[.pointer (some ⟨g, 0, none⟩), .pointer (some ⟨p.b, 0, none⟩), .int .i64 i, .int .i64 j] W fun e w' => e = .returned (.bool true) ∧ Below W.heap.size W w') := fun W hW i j hi hj => alike_calls (HTw.out.next hW) (HDw.out.next hW) HNm.out HOk.out.1 HOk.out.2.2 i j hi hj
        have HSt1 : Hid (∀ W, Below wr3.heap.size wr3 W → Calls Try.prog 17 #[.pointer (some ⟨g, 0, none⟩)] W fun r w' => r = .returned (.int .i64 M.steps) ∧ Below W.heap.size W w') := fun W hW => steps_calls (HTw.out.next hW)
        have HTp1 : Hid (∀ W, Below wr3.heap.size wr3 W → Calls Try.prog 18 #[.pointer (some ⟨g, 0, none⟩), .agg #[.int .i64 c.letters, .int .i64 c.planes, .int .i64 c.regs, .int .i64 c.lo, .int .i64 c.hi, .int .i64 c.most, .slice s.t.a s.t.n s.t.c, .slice s.k.a s.k.n s.k.c, .slice s.i.a s.i.n s.i.c, .slice s.r.a s.r.n s.r.c]] W fun e w' => e = .returned (.bool true) ∧ Below W.heap.size W w') := fun W hW => tips_calls (HTw.out.next hW) (HAw.out.below hW) HOk.out.1.rt.alen (HC.out.1.below (HJl.out.1.trans (hW.mono HJl.out.1.size)))
        have HSp : Hid (∀ W, Below wr3.heap.size wr3 W → W.cell? ⟨p.b, 18, none⟩ = some (.int .i64 M.steps) ∧ W.cell? ⟨w.heap.size, 1, none⟩ = some (.int .i64 c.planes)) := fun W hW => ⟨(HDw.out.next hW).cell 18 rfl, cell_block (by rw [hW.block _ (lt_block HJl.out.2)]; exact HJl.out.2) 1 _ rfl⟩
        clear HT HDt hM hP e5 e6
        generalize M.steps = ms at *
        go_wp2_with fail
        refine (HSz1.out _ (Below.refl _ _)).mono ?_
        rintro e u1 ⟨rfl, hb⟩
        have HU1 : Hid (Below wr3.heap.size wr3 u1) := hb
        clear hb c9 hd hi3 hi2 hi
        go_wp2_with fail
        refine (HPl1.out _ HU1.out).mono ?_
        rintro e u2 ⟨rfl, hb⟩
        have HU2 : Hid (Below wr3.heap.size wr3 u2) := HU1.out.trans (hb.mono HU1.out.size)
        clear hb HU1
        go_wp2_with fail
        refine (HSt1.out _ HU2.out).mono ?_
        rintro e u3 ⟨rfl, hb⟩
        have HU3 : Hid (Below wr3.heap.size wr3 u3) := HU2.out.trans (hb.mono HU2.out.size)
        clear hb HU2
        have HBx3 : Hid (u3.heap[w.heap.size]? = some (.cells #[.int .i64 c.letters, .int .i64 c.planes, .int .i64 c.regs, .int .i64 c.lo, .int .i64 c.hi, .int .i64 c.most, .slice s.t.a s.t.n s.t.c, .slice s.k.a s.k.n s.k.c, .slice s.i.a s.i.n s.i.c, .slice s.r.a s.r.n s.r.c] 26 (0, 0))) := by show _ = _; rw [HU3.out.block _ (lt_block HJl.out.2)]; exact HJl.out.2
        have c0 := cell_block HBx3.out 0 (.int .i64 c.letters) rfl
        have c1 := cell_block HBx3.out 1 (.int .i64 c.planes) rfl
        have c2 := cell_block HBx3.out 2 (.int .i64 c.regs) rfl
        have c3 := cell_block HBx3.out 3 (.int .i64 c.lo) rfl
        have c4 := cell_block HBx3.out 4 (.int .i64 c.hi) rfl
        have c5 := cell_block HBx3.out 5 (.int .i64 c.most) rfl
        have c6 := cell_block HBx3.out 6 (.slice s.t.a s.t.n s.t.c) rfl
        have c7 := cell_block HBx3.out 7 (.slice s.k.a s.k.n s.k.c) rfl
        have c8 := cell_block HBx3.out 8 (.slice s.i.a s.i.n s.i.c) rfl
        have c9 := cell_block HBx3.out 9 (.slice s.r.a s.r.n s.r.c) rfl
        go_wp2_with fail
        refine (HTp1.out _ HU3.out).mono ?_
        rintro e u4 ⟨rfl, hb⟩
        have HU4 : Hid (Below wr3.heap.size wr3 u4) := HU3.out.trans (hb.mono HU3.out.size)
        clear hb HU3 HBx3 c0 c1 c2 c3 c4 c5 c6 c7 c8 c9
        go_wp2_with fail
        refine (HBs1.out _ HU4.out).mono ?_
        rintro e u5 ⟨rfl, hb⟩
        have HU5 : Hid (Below wr3.heap.size wr3 u5) := HU4.out.trans (hb.mono HU4.out.size)
        clear hb HU4
        obtain ⟨q1, q2⟩ := HSp.out _ HU5.out
        have b1 : ((xn : Int) != (xn : Int)) = false := by simp
        have b2 : ((yn : Int) != (yn : Int)) = false := by simp
        have b3 : (c.planes != c.planes) = false := by simp
        have b4 : (ms != ms) = false := by simp
        go_wp2
        clear q1 q2 b1 b2 b3 b4
        clear HSz1 HPl1 HSt1 HTp1 HSp
        go_loopg [26, 27, 28] (xn + 3) (fun q v26 _ _ W => ∃ i : Nat, i + q = xn + 3 ∧ v26 = .int .i64 ((i : Int) - 1) ∧ Hid (Below wr3.heap.size wr3 W))
        case atStart => exact ⟨0, by omega, rfl, HU5⟩
        case round =>
          clear HU5
          obtain ⟨i, hin, rfl, HU⟩ := hrel
          obtain ⟨qi, hqi⟩ : ∃ q : Int, (i : Int) - 1 = q := ⟨_, rfl⟩
          rw [hqi]
          by_cases hi : qi ≤ (xn : Int) + 1
          rotate_left
          · have hd : decide (qi ≤ (xn : Int) + 1) = false := by simpa using hi
            clear hqi hi
            go_wp2_with fail
            refine (HBs1.out _ HU.out).mono ?_
            rintro e u6 ⟨rfl, hb⟩
            have HU6 : Hid (Below wr3.heap.size wr3 u6) := HU.out.trans (hb.mono HU.out.size)
            clear hb HU
            go_wp2
            go_ret
            exact ⟨rfl, HJl.out.1.trans (HU6.out.mono HJl.out.1.size)⟩
          have hd : decide (qi ≤ (xn : Int) + 1) = true := by simpa using hi
          obtain ⟨gk1, rfl⟩ : ∃ v, v = gk := ⟨_, rfl⟩
          have hgk1 : 0 < gk1 := by omega
          obtain ⟨wo1, rfl⟩ : ∃ v, v = wr := ⟨_, rfl⟩
          go_wp2
          go_loopg [27, 28] (yn + 3) (fun q v27 _ W => ∃ j : Nat, j + q = yn + 3 ∧ v27 = .int .i64 ((j : Int) - 1) ∧ Hid (Below wr3.heap.size wr3 W))
          case atStart => exact ⟨0, by omega, rfl, HU⟩
          case round =>
            clear HU
            obtain ⟨j, hjn, rfl, HU⟩ := hrel
            obtain ⟨qj, hqj⟩ : ∃ q : Int, (j : Int) - 1 = q := ⟨_, rfl⟩
            rw [hqj]
            by_cases hj : qj ≤ (yn : Int) + 1
            rotate_left
            · have hd2 : decide (qj ≤ (yn : Int) + 1) = false := by simpa using hj
              clear hqj hj
              go_wp2
              go_roundg (gk1 - 1)
              case rel => exact ⟨i + 1, by omega, by rw [show ((i + 1 : Nat) : Int) - 1 = qi + 1 by omega], HU⟩
              case measure => omega
            have hd2 : decide (qj ≤ (yn : Int) + 1) = true := by simpa using hj
            have hgk : 0 < gk := by omega
            go_wp2_with fail
            refine (HAl1.out _ HU.out qi qj (by omega) (by omega)).mono ?_
            rintro e u6 ⟨rfl, hb⟩
            have HU6 : Hid (Below wr3.heap.size wr3 u6) := HU.out.trans (hb.mono HU.out.size)
            clear hb HU
            go_wp2
            go_roundg (gk - 1)
            case rel => exact ⟨j + 1, by omega, by rw [show ((j + 1 : Nat) : Int) - 1 = qj + 1 by omega], HU6⟩
            case measure => omega


theorem mruns_in (c : Cd) (s : Ls) (sx : Sl) (x : List Int) (sy : Sl) (y : List Int) (w : World) (hc : CdIn w c s) (hx : IntsAt w sx.a sx.n x) (hx2 : SlIn sx) (hy : IntsAt w sy.a sy.n y) (hy2 : SlIn sy) :
    Calls Try.prog 3 #[.agg (cdCells c s), .slice sx.a sx.n sx.c, .slice sy.a sy.n sy.c] w fun e w' => e = .returned (.bool true) ∧ Below w.heap.size w w' := runs_walk c s sx x sy y w hc ⟨hx, hx2⟩ ⟨hy, hy2⟩


namespace machineRuns
open Go.ChangeShapes Go.WideShapes Go.ChangeAt Go.RowKit
open Go.ChangeMaps (open_string shut_string)
theorem own : ownKnob Try.prog.godebug = none := by kernel_rfl
theorem laidOut : laidOutB Try.prog = true := by kernel_rfl
set_option maxRecDepth 100000 in
theorem lifted (os : Os) (started : os.Started) (H : Type) (enc : TypeId × Value → H) :
    ReturnsInHanded {} Try.checked os 3 .any (Rows.machineRunsSpec.pre6 enc Try.prog Try.f3 Rows.machineRunsRow.domain false) (Rows.machineRunsSpec.post enc Try.prog Try.f3 false true false false) := by
  refine returnsInHanded_of_change_sized (C := Try.checked) own started (by kernel_rfl) Try.func3
    (ChangeSpec.witness6 (enc := enc) (C := Try.checked) false ⟨#[], #[.agg #[.int .i64 0, .int .i64 0, .int .i64 0, .int .i64 0, .int .i64 0, .int .i64 0, .slice none 0 0, .slice none 0 0, .slice none 0 0, .slice none 0 0], .slice none 0 0, .slice none 0 0], []⟩ 8 (by kernel_rfl) (by kernel_rfl) (by kernel_rfl) (by kernel_rfl)) ?_
  intro W base args ds gs before hval0 hW _ hsz0 _
  have hval : ∀ (j : Nat) t v, Try.f3.params[j]? = some t → args[j]? = some v → Value.okWide Try.prog W .any base t v := hval0
  have hsz : (DataW.weightsEach Try.prog (Try.f3.params.toList ++ Rows.machineRunsSpec.plain.varTypes Try.prog) (ds ++ gs)).all (· ≤ reachBytes) = true := hsz0
  have hW' := hW
  obtain ⟨p, q, hA0, hV, rfl, hfz, hnd⟩ := hW
  have hA : DataW.TrodAll enc Try.prog W 0 (fun _ => true) true Try.f3.params.toList args.toList ds p := hA0
  rw [Try.params3] at hA hval hsz
  obtain ⟨v0, vs0, d0, ds0, p0, q0, hargs, rfl, rfl, h0, r0⟩ := trodAll_cons hA
  obtain ⟨v1, vs1, d1, ds1, p1, q1, rfl, rfl, rfl, h1, r1⟩ := trodAll_cons r0
  obtain ⟨v2, vs2, d2, ds2, p2, q2, rfl, rfl, rfl, h2, r2⟩ := trodAll_cons r1
  obtain ⟨rfl, rfl, rfl⟩ := trodAll_nil r2
  obtain rfl : args = #[v0, v1, v2] := by cases args; simp_all
  obtain ⟨rfl, rfl⟩ := trodVars_none hV
  have hw : ∀ (j : Nat) (t : TypeId) (d : DataW H), ([26, 22, 22] ++ Rows.machineRunsSpec.plain.varTypes Try.prog)[j]? = some t → ([d0, d1, d2] ++ [])[j]? = some d → ∀ n ∈ d.weights Try.prog t, n ≤ reachBytes := fun j t d ht hd n hn =>
    of_decide_eq_true (List.all_eq_true.1 hsz _ (DataW.weights_mem_each ht hd n hn))
  obtain ⟨cs0, rfl, hcs0⟩ := okWide_struct Try.underlying26 (hval 0 26 v0 rfl rfl)
  have lt0 : ∀ x ∈ p0, x.block < W.heap.size := by obtain ⟨m, hm⟩ := h0; exact DataW.trod_lt m _ _ _ hm
  obtain ⟨z0, s0, e0, in0⟩ := cd_in hcs0 h0
  subst e0
  have lt1 : ∀ x ∈ p1, x.block < W.heap.size := by obtain ⟨m, hm⟩ := h1; exact DataW.trod_lt m _ _ _ hm
  obtain ⟨ax1, nx1, cx1, rfl⟩ := okWide_slice Try.underlying22 (hval 1 22 v1 rfl rfl)
  obtain ⟨sl1, l1, e1, in1, jn1⟩ := ints_in h1
  obtain ⟨rfl, rfl, rfl⟩ : ax1 = sl1.a ∧ nx1 = sl1.n ∧ cx1 = sl1.c := by have e := e1; simp [Value.cells] at e; exact e
  have lt2 : ∀ x ∈ p2, x.block < W.heap.size := by obtain ⟨m, hm⟩ := h2; exact DataW.trod_lt m _ _ _ hm
  obtain ⟨ax2, nx2, cx2, rfl⟩ := okWide_slice Try.underlying22 (hval 2 22 v2 rfl rfl)
  obtain ⟨sl2, l2, e2, in2, jn2⟩ := ints_in h2
  obtain ⟨rfl, rfl, rfl⟩ : ax2 = sl2.a ∧ nx2 = sl2.n ∧ cx2 = sl2.c := by have e := e2; simp [Value.cells] at e; exact e
  clear hA0 hval0
  refine (mruns_in z0 s0 sl1 l1 sl2 l2 W in0 in1 jn1 in2 jn2).mono fun e W' ⟨he, bel⟩ => ?_
  subst he
  exact ⟨_, rfl, _, _, _, [], _, [], hW', trodAll_mk1 (shut_bool Try.underlying4 _), (trodAll_cons_mk (Below.trod laidOut (by kernel_rfl) (of_decide_eq_true (by kernel_rfl)) h0 bel lt0) (trodAll_cons_mk (Below.trod laidOut (by kernel_rfl) (of_decide_eq_true (by kernel_rfl)) h1 bel lt1) (trodAll_cons_mk (Below.trod laidOut (by kernel_rfl) (of_decide_eq_true (by kernel_rfl)) h2 bel lt2) trodAll_mk0))), rfl, bel.frame _, fun h => by cases h⟩
end machineRuns

theorem machineRuns_holds : Rows.MachineRunsSaid :=
  OpenClaim.holds_of_wide 3 Try.f3 rfl rfl rfl rfl rfl rfl rfl ⟨rfl, rfl, rfl, rfl, rfl⟩ rfl rfl rfl rfl rfl (by kernel_rfl) Try.func3 (by kernel_rfl)
    (of_decide_eq_true (by kernel_rfl)) (by unfold Func.isWrapper; first | (rw [if_pos (by decide +kernel)]; kernel_rfl) | (rw [if_neg (by decide +kernel)]; exact ⟨rfl, rfl⟩))
    (fun os started H enc _ => machineRuns.lifted os started H enc)


end Go.Proofs.Ytjpeoejielamiaa
