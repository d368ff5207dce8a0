/-
  The walk of lent.
-/
import Derived.Test.YtignpgoicoojiaaDoorLnA
import Derived.Test.YtignpgoicoojiaaDoorOpn
import Derived.Test.YtignpgoicoojiaaDoorRdE
namespace Go.Proofs.YtignpgoicoojiaaDoor
open Go.RowKit

/-- A code that is lent: its lists lie in rows of their own, with a mark behind each. -/
structure LentAt (W : World) (c : Cd) (g1 g2 g3 g4 : Nat) : Prop where
  t : W.heap[g1]? = some (.cells (rowT c.table).toArray 3 (0, 0))
  k : W.heap[g2]? = some (.cells (rowK c.consts).toArray 3 (0, 0))
  i : W.heap[g3]? = some (.cells (rowI c.cell).toArray 38 (0, 0))
  r : W.heap[g4]? = some (.cells (rowR c.arrows).toArray 40 (0, 0))
theorem LentAt.below {W W2 : World} {c : Cd} {g1 g2 g3 g4 : Nat} (h : LentAt W c g1 g2 g3 g4) (hb : Below W.heap.size W W2) : LentAt W2 c g1 g2 g3 g4 :=
  ⟨by rw [hb.block _ (lt_block h.t)]; exact h.t, by rw [hb.block _ (lt_block h.k)]; exact h.k, by rw [hb.block _ (lt_block h.i)]; exact h.i, by rw [hb.block _ (lt_block h.r)]; exact h.r⟩
def lentS (c : Cd) (g1 g2 g3 g4 : Nat) : Ls := ⟨⟨some ⟨g1, 0, none⟩, c.table.length, c.table.length + 2⟩, ⟨some ⟨g2, 0, none⟩, c.consts.length, c.consts.length + 2⟩, ⟨some ⟨g3, 0, none⟩, c.cell.length, c.cell.length + 2⟩, ⟨some ⟨g4, 0, none⟩, c.arrows.length, c.arrows.length + 2⟩⟩
theorem rowT_at {W : World} {g : Nat} {l : List Int} {m : List Value} (h : W.heap[g]? = some (.cells (intVals l ++ m).toArray 3 (0, 0))) (hl : l.length ≤ maxLen) : IntsAt W (some ⟨g, 0, none⟩) l.length l := by
  refine ⟨rfl, hl, fun _ => ⟨g, 0, rfl, fun i hi => ?_⟩⟩
  rw [Nat.zero_add]
  refine cell_block h i _ ?_
  rw [List.getElem?_toArray, List.getElem?_append_left (by rw [intVals_length]; exact hi), intVals, List.getElem?_map, getD_get hi]
  rfl
theorem rowQ_at {W : World} {g : Nat} {l : List Qd} {m : List Value} {E : TypeId} (h : W.heap[g]? = some (.cells (qdVals l ++ m).toArray E (0, 0))) (hl : l.length ≤ maxLen) : QdsAt W (some ⟨g, 0, none⟩) l.length l := by
  refine ⟨rfl, hl, fun _ => ⟨g, 0, rfl, fun i q hi => ?_⟩⟩
  have key : ∀ j u, (qdCells q)[j]? = some u → W.cell? ⟨g, i * 4 + j, none⟩ = some u := fun j u hu => by
    refine cell_block h _ _ ?_
    have h1 := flat_get qd_len l i q j u hi hu
    have h2 : i * 4 + j < (qdVals l).length := (List.getElem?_eq_some_iff.1 h1).1
    rw [List.getElem?_toArray, List.getElem?_append_left h2]
    exact h1
  simp only [Nat.zero_add]
  exact ⟨key 0 _ rfl, key 1 _ rfl, key 2 _ rfl, key 3 _ rfl⟩
theorem LentAt.at' {W : World} {c : Cd} {g1 g2 g3 g4 : Nat} (h : LentAt W c g1 g2 g3 g4) (h1 : c.table.length ≤ maxLen) (h2 : c.consts.length ≤ maxLen) (h3 : c.cell.length ≤ maxLen) (h4 : c.arrows.length ≤ maxLen) : CdAt W c (lentS c g1 g2 g3 g4) :=
  ⟨rowT_at h.t h1, rowT_at h.k h2, rowQ_at h.i h3, rowQ_at h.r h4⟩
/-- The box, the result's, and the rows so far. -/
structure LB (w : World) (cs : Array Value) (W : World) : Prop where
  low : Below w.heap.size w W
  box : W.heap[w.heap.size]? = some (.cells cs 26 (0, 0))
  res : W.heap[w.heap.size + 1]? = some (.cells #[.int .i64 0, .int .i64 0, .int .i64 0, .int .i64 0, .int .i64 0, .int .i64 0, .slice none 0 0, .slice none 0 0, .slice none 0 0, .slice none 0 0] 26 (0, 0))
theorem LB.next {w : World} {cs : Array Value} {W W2 : World} (h : LB w cs W) (hb : Below W.heap.size W W2) : LB w cs W2 :=
  ⟨h.low.trans (hb.mono h.low.size), by rw [hb.block _ (lt_block h.box)]; exact h.box, by rw [hb.block _ (lt_block h.res)]; exact h.res⟩
theorem LB.c {w : World} {cs : Array Value} {W : World} (h : LB w cs W) (i : Nat) (v : Value) (hv : cs[i]? = some v) : W.cell? ⟨w.heap.size, i, none⟩ = some v := cell_block h.box i v hv

theorem lent_ten {w W : World} {c : Cd} {g1 g2 g3 g4 r : Nat} {zs : Array Value} (h : LentAt W c g1 g2 g3 g4) (hr : W.heap[r]? = some (.cells zs 26 (0, 0))) (hl : Below w.heap.size w W) (hw : w.heap.size ≤ r) (v0 v1 v2 v3 v4 v5 v6 v7 v8 v9 : Value) (o : Obj) : LentAt (((((((((((W.setCell ⟨r, 0, none⟩ v0).setCell ⟨r, 1, none⟩ v1).setCell ⟨r, 2, none⟩ v2).setCell ⟨r, 3, none⟩ v3).setCell ⟨r, 4, none⟩ v4).setCell ⟨r, 5, none⟩ v5).setCell ⟨r, 6, none⟩ v6).setCell ⟨r, 7, none⟩ v7).setCell ⟨r, 8, none⟩ v8).setCell ⟨r, 9, none⟩ v9).alloc o) c g1 g2 g3 g4 ∧ Below w.heap.size w (((((((((((W.setCell ⟨r, 0, none⟩ v0).setCell ⟨r, 1, none⟩ v1).setCell ⟨r, 2, none⟩ v2).setCell ⟨r, 3, none⟩ v3).setCell ⟨r, 4, none⟩ v4).setCell ⟨r, 5, none⟩ v5).setCell ⟨r, 6, none⟩ v6).setCell ⟨r, 7, none⟩ v7).setCell ⟨r, 8, none⟩ v8).setCell ⟨r, 9, none⟩ v9).alloc o) := by
  have hg := grown_ten W r v0 v1 v2 v3 v4 v5 v6 v7 v8 v9
  have key : ∀ {k : Nat} {cs : Array Value} {t : TypeId}, t ≠ 26 → W.heap[k]? = some (.cells cs t (0, 0)) → ((((((((((W.setCell ⟨r, 0, none⟩ v0).setCell ⟨r, 1, none⟩ v1).setCell ⟨r, 2, none⟩ v2).setCell ⟨r, 3, none⟩ v3).setCell ⟨r, 4, none⟩ v4).setCell ⟨r, 5, none⟩ v5).setCell ⟨r, 6, none⟩ v6).setCell ⟨r, 7, none⟩ v7).setCell ⟨r, 8, none⟩ v8).setCell ⟨r, 9, none⟩ v9).heap[k]? = some (.cells cs t (0, 0)) := fun ht hk => by
    rw [hg.block _ (lt_block hk) (fun e => by cases e; rw [hr] at hk; cases hk; exact ht rfl)]; exact hk
  have h2 : LentAt ((((((((((W.setCell ⟨r, 0, none⟩ v0).setCell ⟨r, 1, none⟩ v1).setCell ⟨r, 2, none⟩ v2).setCell ⟨r, 3, none⟩ v3).setCell ⟨r, 4, none⟩ v4).setCell ⟨r, 5, none⟩ v5).setCell ⟨r, 6, none⟩ v6).setCell ⟨r, 7, none⟩ v7).setCell ⟨r, 8, none⟩ v8).setCell ⟨r, 9, none⟩ v9) c g1 g2 g3 g4 := ⟨key (by decide) h.t, key (by decide) h.k, key (by decide) h.i, key (by decide) h.r⟩
  have h3 : Below w.heap.size w ((((((((((W.setCell ⟨r, 0, none⟩ v0).setCell ⟨r, 1, none⟩ v1).setCell ⟨r, 2, none⟩ v2).setCell ⟨r, 3, none⟩ v3).setCell ⟨r, 4, none⟩ v4).setCell ⟨r, 5, none⟩ v5).setCell ⟨r, 6, none⟩ v6).setCell ⟨r, 7, none⟩ v7).setCell ⟨r, 8, none⟩ v8).setCell ⟨r, 9, none⟩ v9) := hl.grown hg hl.size (fun k hk => by cases hk; exact hw)
  exact ⟨h2.below (below_new _), h3.alloc h3.size _⟩

set_option maxRecDepth 20000 in
set_option maxHeartbeats 4000000 in
theorem lent_calls (c : Cd) (s : Ls) (w : World) (h : CdIn w c s) (hn : s.t.n ≤ 2147483647 ∧ s.k.n ≤ 2147483647 ∧ s.i.n ≤ 2147483647 ∧ s.r.n ≤ 2147483647) :
    Calls Tryd.prog 11 #[.agg (cdCells c s)] w fun e w' => ∃ g1 g2 g3 g4, e = .returned (.agg (cdCells c (lentS c g1 g2 g3 g4))) ∧ LentAt w' c g1 g2 g3 g4 ∧ Below w.heap.size w w' := by
  obtain ⟨⟨ta, tn, tc⟩, ⟨ka, kn, kc⟩, ⟨ia, n3, ic⟩, ⟨ra, rn, rc⟩⟩ := s
  obtain ⟨b1, b2, b3, b4⟩ := hn
  simp only at b1 b2 b3 b4
  have HC : Hid (CdAt w c ⟨⟨ta, tn, tc⟩, ⟨ka, kn, kc⟩, ⟨ia, n3, ic⟩, ⟨ra, rn, rc⟩⟩) := h.at'
  have HN : Hid ((ta = none → tn = 0 ∧ tc = 0) ∧ (ka = none → kn = 0 ∧ kc = 0) ∧ (ia = none → n3 = 0 ∧ ic = 0) ∧ (ra = none → rn = 0 ∧ rc = 0)) := ⟨h.t.2, h.k.2, h.i.2, h.r.2⟩
  have HLn : Hid (c.table.length = tn ∧ c.consts.length = kn ∧ c.cell.length = n3 ∧ c.arrows.length = rn) := ⟨h.at'.table.length, h.at'.consts.length, h.at'.cell.length, h.at'.arrows.length⟩
  clear h
  have hres : Tryd.f11.results = #[.cell 2 26] := by kernel_rfl
  obtain ⟨w0, hw0⟩ : ∃ w0, (w.alloc (.cells #[.int .i64 c.letters, .int .i64 c.planes, .int .i64 c.regs, .int .i64 c.lo, .int .i64 c.hi, .int .i64 c.most, .slice ta tn tc, .slice ka kn kc, .slice ia n3 ic, .slice ra rn rc] 26)).alloc (.cells #[.int .i64 0, .int .i64 0, .int .i64 0, .int .i64 0, .int .i64 0, .int .i64 0, .slice none 0 0, .slice none 0 0, .slice none 0 0, .slice none 0 0] 26) = w0 := ⟨_, rfl⟩
  have HB : Hid (LB w #[.int .i64 c.letters, .int .i64 c.planes, .int .i64 c.regs, .int .i64 c.lo, .int .i64 c.hi, .int .i64 c.most, .slice ta tn tc, .slice ka kn kc, .slice ia n3 ic, .slice ra rn rc] w0) := by
    rw [← hw0]
    have h2 := B2.start w #[.int .i64 c.letters, .int .i64 c.planes, .int .i64 c.regs, .int .i64 c.lo, .int .i64 c.hi, .int .i64 c.most, .slice ta tn tc, .slice ka kn kc, .slice ia n3 ic, .slice ra rn rc] #[.int .i64 0, .int .i64 0, .int .i64 0, .int .i64 0, .int .i64 0, .int .i64 0, .slice none 0 0, .slice none 0 0, .slice none 0 0, .slice none 0 0]
    exact ⟨h2.low, h2.one, h2.two⟩
  have HW0 : Hid ((w.alloc (.cells #[.int .i64 c.letters, .int .i64 c.planes, .int .i64 c.regs, .int .i64 c.lo, .int .i64 c.hi, .int .i64 c.most, .slice ta tn tc, .slice ka kn kc, .slice ia n3 ic, .slice ra rn rc] 26)).alloc (.cells #[.int .i64 0, .int .i64 0, .int .i64 0, .int .i64 0, .int .i64 0, .int .i64 0, .slice none 0 0, .slice none 0 0, .slice none 0 0, .slice none 0 0] 26) = w0) := hw0
  clear hw0
  rw [show cdCells c ⟨⟨ta, tn, tc⟩, ⟨ka, kn, kc⟩, ⟨ia, n3, ic⟩, ⟨ra, rn, rc⟩⟩ = #[.int .i64 c.letters, .int .i64 c.planes, .int .i64 c.regs, .int .i64 c.lo, .int .i64 c.hi, .int .i64 c.most, .slice ta tn tc, .slice ka kn kc, .slice ia n3 ic, .slice ra rn rc] from rfl]
  go_enter Tryd.func11, Tryd.ntmps11
  go_upto_region 1 with (fail)
  rw [HW0.out]
  have x1 := HB.out.c 6 (.slice ta tn tc) rfl
  obtain ⟨i1, hi1, hz1a, hz1b, hz1c⟩ := info_parts info3
  go_wp2_with (at_make; refine wpList_make_full _ rfl _ _ 22 rfl w0.heap.size 3 i1 (.int .i64 0) 1 Tryd.underlying22 hi1 hz1a hz1b .i64 .i64 _ _ (tn + 2) rfl rfl (by omega) (by omega) (by rw [hz1c]; omega) (by unfold maxLen; omega) (Nat.le_refl _) ?_)
  intro w1a hown hgrow
  have HM : Hid (Laid w0 3 (List.replicate ((tn + 2)) (.int .i64 0)) w1a) := by
    rw [made_one] at hown
    have hm := made_block hown hgrow
    exact ⟨hm.1, hm.2⟩
  clear hown hgrow x1 hi1 hz1a hz1b hz1c i1
  have x1 : w1a.cell? ⟨w.heap.size, 6, none⟩ = some (.slice ta tn tc) := (HB.out.next HM.out.low).c 6 _ rfl
  go_wp2_with (refine wpList_copyG Tryd.underlying22 size3 rfl (.tmp 13) (.tmp 15) rfl w0.heap.size (tn + 2) (tn + 2) ta tn tc rfl rfl HN.out.1 _ HM.out.row (intVals c.table) ?c0 (((HC.out.below HB.out.low).below HM.out.low).table.source) ?c1 (ints_oneC _) w0.heap.size w0 HM.out.low (Nat.le_refl _) ?_)
  case c0 => rw [intVals_length, HLn.out.1]; show _ = Nat.min tn (tn + 2) * 1; rw [show Nat.min tn (tn + 2) = tn from Nat.min_eq_left (by omega)]; omega
  case c1 => rw [intVals_length, HLn.out.1]; first | (simp; done) | (simp; omega)
  intro w1b hrow hlow vcopy1
  have HL : Hid (Laid w0 3 (intVals c.table ++ List.replicate 2 (.int .i64 0)) w1b) := by
    refine ⟨?_, hlow⟩
    rw [hrow, intVals_length, HLn.out.1]
    rw [show (tn + 2) - tn = 2 by omega]
  clear hrow hlow HM x1
  have x1 : w1b.cell? ⟨w.heap.size, 6, none⟩ = some (.slice ta tn tc) := (HB.out.next HL.out.low).c 6 _ rfl
  have hvl : (intVals c.table).length = tn := by rw [intVals_length, HLn.out.1]
  obtain ⟨y1, f1⟩ := HL.out.cell (tn) (.int .i64 0) (by have := get_end hvl 0 (List.replicate 2 (Value.int .i64 0)) _ rfl; rw [Nat.add_zero] at this; exact this)
  have HS : Hid (Laid w0 3 (rowT c.table) (w1b.setCell ⟨w0.heap.size, tn, none⟩ (.int .i64 77))) := HL.out.set _ _ (by have := set_end hvl 0 (List.replicate 2 (Value.int .i64 0)) _ (.int .i64 77) rfl; rw [Nat.add_zero] at this; exact this)
  go_upto_region 4 with (fail)
  obtain ⟨w1, hw⟩ : ∃ w9, w1b.setCell ⟨w0.heap.size, tn, none⟩ (.int .i64 77) = w9 := ⟨_, rfl⟩
  have HW1 : Hid (w1b.setCell ⟨w0.heap.size, tn, none⟩ (.int .i64 77) = w1) := hw
  rw [hw] at HS
  have HB' : Hid (LB w #[.int .i64 c.letters, .int .i64 c.planes, .int .i64 c.regs, .int .i64 c.lo, .int .i64 c.hi, .int .i64 c.most, .slice ta tn tc, .slice ka kn kc, .slice ia n3 ic, .slice ra rn rc] w1) := HB.out.next HS.out.low
  obtain ⟨g1, hg⟩ : ∃ g, w0.heap.size = g := ⟨_, rfl⟩
  have HG1 : Hid (w0.heap.size = g1) := hg
  have HR1 : Hid (w1.heap[g1]? = some (.cells (rowT c.table).toArray 3 (0, 0))) := by have := HS.out.row; rw [hg] at this; exact this
  have HLw1 : Hid (Below w0.heap.size w0 w1) := HS.out.low
  rw [HW1.out, HG1.out]
  clear hw hg HB HL HS x1 y1 f1 hvl
  have HB : Hid _ := HB'
  clear HB'
  have x2 := HB.out.c 7 (.slice ka kn kc) rfl
  obtain ⟨i2, hi2, hz2a, hz2b, hz2c⟩ := info_parts info3
  go_wp2_with (at_make; refine wpList_make_full _ rfl _ _ 22 rfl w1.heap.size 3 i2 (.int .i64 0) 1 Tryd.underlying22 hi2 hz2a hz2b .i64 .i64 _ _ (kn + 2) rfl rfl (by omega) (by omega) (by rw [hz2c]; omega) (by unfold maxLen; omega) (Nat.le_refl _) ?_)
  intro w2a hown hgrow
  have HM : Hid (Laid w1 3 (List.replicate ((kn + 2)) (.int .i64 0)) w2a) := by
    rw [made_one] at hown
    have hm := made_block hown hgrow
    exact ⟨hm.1, hm.2⟩
  clear hown hgrow x2 hi2 hz2a hz2b hz2c i2
  have x2 : w2a.cell? ⟨w.heap.size, 7, none⟩ = some (.slice ka kn kc) := (HB.out.next HM.out.low).c 7 _ rfl
  go_wp2_with (refine wpList_copyG Tryd.underlying22 size3 rfl (.tmp 27) (.tmp 29) rfl w1.heap.size (kn + 2) (kn + 2) ka kn kc rfl rfl HN.out.2.1 _ HM.out.row (intVals c.consts) ?c0 (((HC.out.below HB.out.low).below HM.out.low).consts.source) ?c1 (ints_oneC _) w1.heap.size w1 HM.out.low (Nat.le_refl _) ?_)
  case c0 => rw [intVals_length, HLn.out.2.1]; show _ = Nat.min kn (kn + 2) * 1; rw [show Nat.min kn (kn + 2) = kn from Nat.min_eq_left (by omega)]; omega
  case c1 => rw [intVals_length, HLn.out.2.1]; first | (simp; done) | (simp; omega)
  intro w2b hrow hlow vcopy2
  have HL : Hid (Laid w1 3 (intVals c.consts ++ List.replicate 2 (.int .i64 0)) w2b) := by
    refine ⟨?_, hlow⟩
    rw [hrow, intVals_length, HLn.out.2.1]
    rw [show (kn + 2) - kn = 2 by omega]
  clear hrow hlow HM x2
  have x2 : w2b.cell? ⟨w.heap.size, 7, none⟩ = some (.slice ka kn kc) := (HB.out.next HL.out.low).c 7 _ rfl
  have hvl : (intVals c.consts).length = kn := by rw [intVals_length, HLn.out.2.1]
  obtain ⟨y2, f2⟩ := HL.out.cell (kn) (.int .i64 0) (by have := get_end hvl 0 (List.replicate 2 (Value.int .i64 0)) _ rfl; rw [Nat.add_zero] at this; exact this)
  have HS : Hid (Laid w1 3 (rowK c.consts) (w2b.setCell ⟨w1.heap.size, kn, none⟩ (.int .i64 78))) := HL.out.set _ _ (by have := set_end hvl 0 (List.replicate 2 (Value.int .i64 0)) _ (.int .i64 78) rfl; rw [Nat.add_zero] at this; exact this)
  go_upto_region 7 with (fail)
  obtain ⟨w2, hw⟩ : ∃ w9, w2b.setCell ⟨w1.heap.size, kn, none⟩ (.int .i64 78) = w9 := ⟨_, rfl⟩
  have HW2 : Hid (w2b.setCell ⟨w1.heap.size, kn, none⟩ (.int .i64 78) = w2) := hw
  rw [hw] at HS
  have HB' : Hid (LB w #[.int .i64 c.letters, .int .i64 c.planes, .int .i64 c.regs, .int .i64 c.lo, .int .i64 c.hi, .int .i64 c.most, .slice ta tn tc, .slice ka kn kc, .slice ia n3 ic, .slice ra rn rc] w2) := HB.out.next HS.out.low
  obtain ⟨g2, hg⟩ : ∃ g, w1.heap.size = g := ⟨_, rfl⟩
  have HG2 : Hid (w1.heap.size = g2) := hg
  have HR2 : Hid (w2.heap[g2]? = some (.cells (rowK c.consts).toArray 3 (0, 0))) := by have := HS.out.row; rw [hg] at this; exact this
  have HLw2 : Hid (Below w1.heap.size w1 w2) := HS.out.low
  rw [HW2.out, HG2.out]
  clear hw hg HB HL HS x2 y2 f2 hvl
  have HB : Hid _ := HB'
  clear HB'
  have x3 := HB.out.c 8 (.slice ia n3 ic) rfl
  obtain ⟨i3, hi3, hz3a, hz3b, hz3c⟩ := info_parts info38
  go_wp2_with (at_make; refine wpList_make_full _ rfl _ _ 23 rfl w2.heap.size 38 i3 (.agg #[.int .i64 0, .int .i64 0, .int .i64 0, .int .i64 0]) 4 Tryd.underlying23 hi3 hz3a hz3b .i64 .i64 _ _ (n3 + 2) rfl rfl (by omega) (by omega) (by rw [hz3c]; omega) (by unfold maxLen; omega) (Nat.le_refl _) ?_)
  intro w3a hown hgrow
  have HM : Hid (Laid w2 38 (List.replicate ((n3 + 2) * 4) (.int .i64 0)) w3a) := by
    rw [made_four] at hown
    have hm := made_block hown hgrow
    exact ⟨hm.1, hm.2⟩
  clear hown hgrow x3 hi3 hz3a hz3b hz3c i3
  have x3 : w3a.cell? ⟨w.heap.size, 8, none⟩ = some (.slice ia n3 ic) := (HB.out.next HM.out.low).c 8 _ rfl
  go_wp2_with (refine wpList_copyG Tryd.underlying23 size38 rfl (.tmp 41) (.tmp 43) rfl w2.heap.size (n3 + 2) (n3 + 2) ia n3 ic rfl rfl HN.out.2.2.1 _ HM.out.row (qdVals c.cell) ?c0 (((HC.out.below HB.out.low).below HM.out.low).cell.source) ?c1 (qds_oneC _) w2.heap.size w2 HM.out.low (Nat.le_refl _) ?_)
  case c0 => rw [qdVals_length, HLn.out.2.2.1]; show _ = Nat.min n3 (n3 + 2) * 4; rw [show Nat.min n3 (n3 + 2) = n3 from Nat.min_eq_left (by omega)]
  case c1 => rw [qdVals_length, HLn.out.2.2.1]; first | (simp; done) | (simp; omega)
  intro w3b hrow hlow vcopy3
  have HL : Hid (Laid w2 38 (qdVals c.cell ++ List.replicate 8 (.int .i64 0)) w3b) := by
    refine ⟨?_, hlow⟩
    rw [hrow, qdVals_length, HLn.out.2.2.1]
    rw [show (n3 + 2) * 4 - n3 * 4 = 8 by omega]
  clear hrow hlow HM x3
  have x3 : w3b.cell? ⟨w.heap.size, 8, none⟩ = some (.slice ia n3 ic) := (HB.out.next HL.out.low).c 8 _ rfl
  have hvl : (qdVals c.cell).length = n3 * 4 := by rw [qdVals_length, HLn.out.2.2.1]
  obtain ⟨y3, f3⟩ := HL.out.cell (n3 * 4) (.int .i64 0) (by have := get_end hvl 0 (List.replicate 8 (Value.int .i64 0)) _ rfl; rw [Nat.add_zero] at this; exact this)
  have HS : Hid (Laid w2 38 (rowI c.cell) (w3b.setCell ⟨w2.heap.size, n3 * 4, none⟩ (.int .i64 79))) := HL.out.set _ _ (by have := set_end hvl 0 (List.replicate 8 (Value.int .i64 0)) _ (.int .i64 79) rfl; rw [Nat.add_zero] at this; exact this)
  go_upto_region 10 with (fail)
  obtain ⟨w3, hw⟩ : ∃ w9, w3b.setCell ⟨w2.heap.size, n3 * 4, none⟩ (.int .i64 79) = w9 := ⟨_, rfl⟩
  have HW3 : Hid (w3b.setCell ⟨w2.heap.size, n3 * 4, none⟩ (.int .i64 79) = w3) := hw
  rw [hw] at HS
  have HB' : Hid (LB w #[.int .i64 c.letters, .int .i64 c.planes, .int .i64 c.regs, .int .i64 c.lo, .int .i64 c.hi, .int .i64 c.most, .slice ta tn tc, .slice ka kn kc, .slice ia n3 ic, .slice ra rn rc] w3) := HB.out.next HS.out.low
  obtain ⟨g3, hg⟩ : ∃ g, w2.heap.size = g := ⟨_, rfl⟩
  have HG3 : Hid (w2.heap.size = g3) := hg
  have HR3 : Hid (w3.heap[g3]? = some (.cells (rowI c.cell).toArray 38 (0, 0))) := by have := HS.out.row; rw [hg] at this; exact this
  have HLw3 : Hid (Below w2.heap.size w2 w3) := HS.out.low
  rw [HW3.out, HG3.out]
  clear hw hg HB HL HS x3 y3 f3 hvl
  have HB : Hid _ := HB'
  clear HB'
  have x4 := HB.out.c 9 (.slice ra rn rc) rfl
  obtain ⟨i4, hi4, hz4a, hz4b, hz4c⟩ := info_parts info40
  go_wp2_with (at_make; refine wpList_make_full _ rfl _ _ 24 rfl w3.heap.size 40 i4 (.agg #[.int .i64 0, .int .i64 0, .int .i64 0, .int .i64 0]) 4 Tryd.underlying24 hi4 hz4a hz4b .i64 .i64 _ _ (rn + 2) rfl rfl (by omega) (by omega) (by rw [hz4c]; omega) (by unfold maxLen; omega) (Nat.le_refl _) ?_)
  intro w4a hown hgrow
  have HM : Hid (Laid w3 40 (List.replicate ((rn + 2) * 4) (.int .i64 0)) w4a) := by
    rw [made_four] at hown
    have hm := made_block hown hgrow
    exact ⟨hm.1, hm.2⟩
  clear hown hgrow x4 hi4 hz4a hz4b hz4c i4
  have x4 : w4a.cell? ⟨w.heap.size, 9, none⟩ = some (.slice ra rn rc) := (HB.out.next HM.out.low).c 9 _ rfl
  go_wp2_with (refine wpList_copyG Tryd.underlying24 size40 rfl (.tmp 56) (.tmp 58) rfl w3.heap.size (rn + 2) (rn + 2) ra rn rc rfl rfl HN.out.2.2.2 _ HM.out.row (qdVals c.arrows) ?c0 (((HC.out.below HB.out.low).below HM.out.low).arrows.source) ?c1 (qds_oneC _) w3.heap.size w3 HM.out.low (Nat.le_refl _) ?_)
  case c0 => rw [qdVals_length, HLn.out.2.2.2]; show _ = Nat.min rn (rn + 2) * 4; rw [show Nat.min rn (rn + 2) = rn from Nat.min_eq_left (by omega)]
  case c1 => rw [qdVals_length, HLn.out.2.2.2]; first | (simp; done) | (simp; omega)
  intro w4b hrow hlow vcopy4
  have HL : Hid (Laid w3 40 (qdVals c.arrows ++ List.replicate 8 (.int .i64 0)) w4b) := by
    refine ⟨?_, hlow⟩
    rw [hrow, qdVals_length, HLn.out.2.2.2]
    rw [show (rn + 2) * 4 - rn * 4 = 8 by omega]
  clear hrow hlow HM x4
  have x4 : w4b.cell? ⟨w.heap.size, 9, none⟩ = some (.slice ra rn rc) := (HB.out.next HL.out.low).c 9 _ rfl
  have hvl : (qdVals c.arrows).length = rn * 4 := by rw [qdVals_length, HLn.out.2.2.2]
  obtain ⟨y4, f4⟩ := HL.out.cell (rn * 4 + 1) (.int .i64 0) (get_end hvl 1 _ _ rfl)
  have HS : Hid (Laid w3 40 (rowR c.arrows) (w4b.setCell ⟨w3.heap.size, rn * 4 + 1, none⟩ (.int .i64 80))) := HL.out.set _ _ (set_end hvl 1 _ _ _ rfl)
  go_upto_region 13 with (fail)
  obtain ⟨w4, hw⟩ : ∃ w9, w4b.setCell ⟨w3.heap.size, rn * 4 + 1, none⟩ (.int .i64 80) = w9 := ⟨_, rfl⟩
  have HW4 : Hid (w4b.setCell ⟨w3.heap.size, rn * 4 + 1, none⟩ (.int .i64 80) = w4) := hw
  rw [hw] at HS
  have HB' : Hid (LB w #[.int .i64 c.letters, .int .i64 c.planes, .int .i64 c.regs, .int .i64 c.lo, .int .i64 c.hi, .int .i64 c.most, .slice ta tn tc, .slice ka kn kc, .slice ia n3 ic, .slice ra rn rc] w4) := HB.out.next HS.out.low
  obtain ⟨g4, hg⟩ : ∃ g, w3.heap.size = g := ⟨_, rfl⟩
  have HG4 : Hid (w3.heap.size = g4) := hg
  have HR4 : Hid (w4.heap[g4]? = some (.cells (rowR c.arrows).toArray 40 (0, 0))) := by have := HS.out.row; rw [hg] at this; exact this
  have HLw4 : Hid (Below w3.heap.size w3 w4) := HS.out.low
  rw [HW4.out, HG4.out]
  clear hw hg HB HL HS x4 y4 f4 hvl
  have HB : Hid _ := HB'
  clear HB'
  have HF : Hid (LentAt w4 c g1 g2 g3 g4) := by
    have p2 := HLw2.out
    have p3 := HLw3.out
    have p4 := HLw4.out
    have t2 : w2.heap[g1]? = _ := (p2.block _ (lt_block HR1.out)).trans HR1.out
    have t3 : w3.heap[g1]? = _ := (p3.block _ (lt_block t2)).trans t2
    have k3 : w3.heap[g2]? = _ := (p3.block _ (lt_block HR2.out)).trans HR2.out
    exact ⟨(p4.block _ (lt_block t3)).trans t3, (p4.block _ (lt_block k3)).trans k3, (p4.block _ (lt_block HR3.out)).trans HR3.out, HR4.out⟩
  clear HR1 HR2 HR3 HR4 HLw1 HLw2 HLw3 HLw4
  have c0 := HB.out.c 0 (.int .i64 c.letters) rfl
  have c1 := HB.out.c 1 (.int .i64 c.planes) rfl
  have c2 := HB.out.c 2 (.int .i64 c.regs) rfl
  have c3 := HB.out.c 3 (.int .i64 c.lo) rfl
  have c4 := HB.out.c 4 (.int .i64 c.hi) rfl
  have c5 := HB.out.c 5 (.int .i64 c.most) rfl
  have c6 := HB.out.c 6 (.slice ta tn tc) rfl
  have c7 := HB.out.c 7 (.slice ka kn kc) rfl
  have c8 := HB.out.c 8 (.slice ia n3 ic) rfl
  have c9 := HB.out.c 9 (.slice ra rn rc) rfl
  have r0 : w4.cell? ⟨w.heap.size + 1, 0, none⟩ = some (.int .i64 0) := cell_block HB.out.res 0 _ rfl
  have r1 : w4.cell? ⟨w.heap.size + 1, 1, none⟩ = some (.int .i64 0) := cell_block HB.out.res 1 _ rfl
  have r2 : w4.cell? ⟨w.heap.size + 1, 2, none⟩ = some (.int .i64 0) := cell_block HB.out.res 2 _ rfl
  have r3 : w4.cell? ⟨w.heap.size + 1, 3, none⟩ = some (.int .i64 0) := cell_block HB.out.res 3 _ rfl
  have r4 : w4.cell? ⟨w.heap.size + 1, 4, none⟩ = some (.int .i64 0) := cell_block HB.out.res 4 _ rfl
  have r5 : w4.cell? ⟨w.heap.size + 1, 5, none⟩ = some (.int .i64 0) := cell_block HB.out.res 5 _ rfl
  have r6 : w4.cell? ⟨w.heap.size + 1, 6, none⟩ = some (.slice none 0 0) := cell_block HB.out.res 6 _ rfl
  have r7 : w4.cell? ⟨w.heap.size + 1, 7, none⟩ = some (.slice none 0 0) := cell_block HB.out.res 7 _ rfl
  have r8 : w4.cell? ⟨w.heap.size + 1, 8, none⟩ = some (.slice none 0 0) := cell_block HB.out.res 8 _ rfl
  have r9 : w4.cell? ⟨w.heap.size + 1, 9, none⟩ = some (.slice none 0 0) := cell_block HB.out.res 9 _ rfl
  have rf : ∀ i, w4.frozen? ⟨w.heap.size + 1, i, none⟩ = false := fun i => frozen_of_row w4 _ i _ _ HB.out.res
  have hlt : w.heap.size + 1 < w4.heap.size := lt_block HB.out.res
  have hlt0 : w.heap.size < w4.heap.size := by omega
  go_wp2
  refine bodyPost_ret (v := .agg #[.int .i64 c.letters, .int .i64 c.planes, .int .i64 c.regs, .int .i64 c.lo, .int .i64 c.hi, .int .i64 c.most, .slice (some ⟨g1, 0, none⟩) tn (tn + 2), .slice (some ⟨g2, 0, none⟩) kn (kn + 2), .slice (some ⟨g3, 0, none⟩) n3 (n3 + 2), .slice (some ⟨g4, 0, none⟩) rn (rn + 2)]) ?_ rfl ⟨g1, g2, g3, g4, ?_, ?_⟩
  · simp only [results, hres]
    go_simp
  · obtain ⟨l1, l2, l3, l4⟩ := HLn.out
    simp only [cdCells, lentS, l1, l2, l3, l4]
  · exact lent_ten HF.out HB.out.res HB.out.low (Nat.le_succ _) _ _ _ _ _ _ _ _ _ _ _

end Go.Proofs.YtignpgoicoojiaaDoor
