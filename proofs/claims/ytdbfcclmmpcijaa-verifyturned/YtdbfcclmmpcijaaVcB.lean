/-
  The walk of the statements' own copied.
-/
import Derived.Test.YtdbfcclmmpcijaaVcA
import Derived.Test.YtdbfcclmmpcijaaOpn
namespace Go.Proofs.Ytdbfcclmmpcijaa
open Go.RowKit

/-- A code that was copied: its lists lie in rows of their own, with a mark behind the instructions. -/
structure CopAt (W : World) (c : Cd) (g1 g2 g3 g4 : Nat) : Prop where
  t : W.heap[g1]? = some (.cells (intVals c.table).toArray 3 (0, 0))
  k : W.heap[g2]? = some (.cells (intVals c.consts).toArray 3 (0, 0))
  i : W.heap[g3]? = some (.cells (rowI c.cell).toArray 35 (0, 0))
  r : W.heap[g4]? = some (.cells (qdVals c.arrows).toArray 42 (0, 0))
theorem CopAt.next {W W2 : World} {c : Cd} {g1 g2 g3 g4 : Nat} (h : CopAt W c g1 g2 g3 g4) (hb : Below W.heap.size W W2) : CopAt W2 c g1 g2 g3 g4 :=
  ⟨by rw [hb.block _ (lt_block h.t)]; exact h.t, by rw [hb.block _ (lt_block h.k)]; exact h.k, by rw [hb.block _ (lt_block h.i)]; exact h.i, by rw [hb.block _ (lt_block h.r)]; exact h.r⟩
def copS (c : Cd) (g1 g2 g3 g4 : Nat) : Ls := ⟨⟨some ⟨g1, 0, none⟩, c.table.length, c.table.length⟩, ⟨some ⟨g2, 0, none⟩, c.consts.length, c.consts.length⟩, ⟨some ⟨g3, 0, none⟩, c.cell.length, c.cell.length + 2⟩, ⟨some ⟨g4, 0, none⟩, c.arrows.length, c.arrows.length⟩⟩
theorem rowT_at {W : World} {g : Nat} {l : List Int} {m : List Value} (h : W.heap[g]? = some (.cells (intVals l ++ m).toArray 3 (0, 0))) (hl : l.length ≤ maxLen) : IntsAt W (some ⟨g, 0, none⟩) l.length l := by
  refine ⟨rfl, hl, fun _ => ⟨g, 0, rfl, fun i hi => ?_⟩⟩
  rw [Nat.zero_add]
  refine cell_block h i _ ?_
  rw [List.getElem?_toArray, List.getElem?_append_left (by rw [intVals_length]; exact hi), intVals, List.getElem?_map, getD_get hi]
  rfl
theorem rowQ_at {W : World} {g : Nat} {l : List Qd} {m : List Value} {E : TypeId} (h : W.heap[g]? = some (.cells (qdVals l ++ m).toArray E (0, 0))) (hl : l.length ≤ maxLen) : QdsAt W (some ⟨g, 0, none⟩) l.length l := by
  refine ⟨rfl, hl, fun _ => ⟨g, 0, rfl, fun i q hi => ?_⟩⟩
  have key : ∀ j u, (qdCells q)[j]? = some u → W.cell? ⟨g, i * 4 + j, none⟩ = some u := fun j u hu => by
    refine cell_block h _ _ ?_
    have h1 := flat_get qd_len l i q j u hi hu
    have h2 : i * 4 + j < (qdVals l).length := (List.getElem?_eq_some_iff.1 h1).1
    rw [List.getElem?_toArray, List.getElem?_append_left h2]
    exact h1
  simp only [Nat.zero_add]
  exact ⟨key 0 _ rfl, key 1 _ rfl, key 2 _ rfl, key 3 _ rfl⟩
theorem CopAt.at' {W : World} {c : Cd} {g1 g2 g3 g4 : Nat} (h : CopAt W c g1 g2 g3 g4) (h1 : c.table.length ≤ maxLen) (h2 : c.consts.length ≤ maxLen) (h3 : c.cell.length ≤ maxLen) (h4 : c.arrows.length ≤ maxLen) : CdAt W c (copS c g1 g2 g3 g4) :=
  ⟨rowT_at (m := []) (by simpa using h.t) h1, rowT_at (m := []) (by simpa using h.k) h2, rowQ_at h.i h3, rowQ_at (m := []) (by simpa using h.r) h4⟩
/-- The boxes: the code's, the result's, the copy's. -/
structure Cp (w : World) (cs ds : Array Value) (W : World) : Prop where
  low : Below w.heap.size w W
  box : W.heap[w.heap.size]? = some (.cells cs 26 (0, 0))
  res : W.heap[w.heap.size + 1]? = some (.cells #[.int .i64 0, .int .i64 0, .int .i64 0, .int .i64 0, .int .i64 0, .int .i64 0, .slice none 0 0, .slice none 0 0, .slice none 0 0, .slice none 0 0] 26 (0, 0))
  dbx : W.heap[w.heap.size + 2]? = some (.cells ds 26 (0, 0))
section
variable {w W W2 : World} {cs ds : Array Value}
theorem Cp.next (h : Cp w cs ds W) (hb : Below W.heap.size W W2) : Cp w cs ds W2 :=
  ⟨h.low.trans (hb.mono h.low.size), by rw [hb.block _ (lt_block h.box)]; exact h.box, by rw [hb.block _ (lt_block h.res)]; exact h.res, by rw [hb.block _ (lt_block h.dbx)]; exact h.dbx⟩
theorem Cp.nextB (h : Cp w cs ds W) {B : Nat} (hB : w.heap.size + 2 < B) (hb : Below B W W2) : Cp w cs ds W2 :=
  ⟨h.low.trans (hb.mono (by omega)), by rw [hb.block _ (by omega)]; exact h.box, by rw [hb.block _ (by omega)]; exact h.res, by rw [hb.block _ hB]; exact h.dbx⟩
theorem Cp.c (h : Cp w cs ds W) (i : Nat) (v : Value) (hv : cs[i]? = some v) : W.cell? ⟨w.heap.size, i, none⟩ = some v := cell_block h.box i v hv
theorem Cp.d (h : Cp w cs ds W) (i : Nat) (v : Value) (hv : ds[i]? = some v) : W.cell? ⟨w.heap.size + 2, i, none⟩ = some v := cell_block h.dbx i v hv
theorem Cp.fz (h : Cp w cs ds W) (i : Nat) : W.frozen? ⟨w.heap.size + 2, i, none⟩ = false := frozen_of_row W _ i _ _ h.dbx
theorem Cp.put {es : Array Value} (h : Cp w cs ds W) (i : Nat) (v : Value) (he : ds.setIfInBounds i v = es) : Cp w cs es (W.setCell ⟨w.heap.size + 2, i, none⟩ v) :=
  ⟨h.low.setCell (p := ⟨w.heap.size + 2, i, none⟩) (by show w.heap.size ≤ w.heap.size + 2; omega) v, by rw [Below.heap_setCell _ _ _ _ (by show w.heap.size ≠ w.heap.size + 2; omega)]; exact h.box, by rw [Below.heap_setCell _ _ _ _ (by show w.heap.size + 1 ≠ w.heap.size + 2; omega)]; exact h.res, by rw [heap_setCell_same _ _ _ _ _ _ h.dbx, he]⟩
theorem Cp.row (h : Cp w cs ds W) (i : Nat) (v : Value) {g : Nat} {xs : Array Value} {t : TypeId} (ht : t ≠ 26) (hg : W.heap[g]? = some (.cells xs t (0, 0))) : (W.setCell ⟨w.heap.size + 2, i, none⟩ v).heap[g]? = some (.cells xs t (0, 0)) := by
  rw [Below.heap_setCell _ _ _ _ (fun e => by have e' : g = w.heap.size + 2 := e; rw [e', h.dbx] at hg; cases hg; exact ht rfl)]; exact hg
theorem Cp.start (w : World) (cs : Array Value) : Cp w cs cs (((w.alloc (.cells cs 26)).alloc (.cells #[.int .i64 0, .int .i64 0, .int .i64 0, .int .i64 0, .int .i64 0, .int .i64 0, .slice none 0 0, .slice none 0 0, .slice none 0 0, .slice none 0 0] 26)).alloc (.cells cs 26)) := by
  have key : ∀ {W : World} {b : Nat} {o : Obj}, W.heap.size = b → (W.alloc o).heap[b]? = some o := fun h => by rw [← h]; exact heap_alloc_new _ _
  refine ⟨((below_new _).alloc (by simp) _).alloc (by simp; omega) _, ?_, ?_, key (by simp)⟩
  · rw [(below_new _).block _ (by simp; omega), (below_new _).block _ (by simp)]; exact heap_alloc_new _ _
  · rw [(below_new _).block _ (by simp)]; exact key (by simp)
end
theorem heap_setOther {W : World} {b i g : Nat} {cs xs : Array Value} {t u : TypeId} {f f2 : Nat × Nat} (v : Value) (hb : W.heap[b]? = some (.cells cs t f)) (hg : W.heap[g]? = some (.cells xs u f2)) (hne : u ≠ t) : (W.setCell ⟨b, i, none⟩ v).heap[g]? = W.heap[g]? :=
  Below.heap_setCell _ _ _ _ (fun e => by have e' : g = b := e; rw [e', hb] at hg; cases hg; exact hne rfl)
structure CopR (w W : World) (c : Cd) (g1 g2 g3 g4 r : Nat) : Prop where
  cop : CopAt W c g1 g2 g3 g4
  low : Below w.heap.size w W
  le : w.heap.size ≤ r
  box : ∃ zs, W.heap[r]? = some (.cells zs 26 (0, 0))
theorem CopR.set {w W : World} {c : Cd} {g1 g2 g3 g4 r : Nat} (h : CopR w W c g1 g2 g3 g4 r) (i : Nat) (v : Value) : CopR w (W.setCell ⟨r, i, none⟩ v) c g1 g2 g3 g4 r := by
  obtain ⟨hc, hl, hle, zs, hz⟩ := h
  refine ⟨⟨?_, ?_, ?_, ?_⟩, hl.setCell (p := ⟨r, i, none⟩) hle v, hle, _, heap_setCell_same _ _ _ _ _ _ hz⟩
  · rw [heap_setOther _ hz hc.t (by decide)]; exact hc.t
  · rw [heap_setOther _ hz hc.k (by decide)]; exact hc.k
  · rw [heap_setOther _ hz hc.i (by decide)]; exact hc.i
  · rw [heap_setOther _ hz hc.r (by decide)]; exact hc.r
theorem row_next {W W2 : World} {g : Nat} {o : Obj} (h : W.heap[g]? = some o) (hb : Below W.heap.size W W2) : W2.heap[g]? = some o := by rw [hb.block _ (lt_block h)]; exact h
theorem info35 : (Try.prog.info? 35).map (fun i => (i.zero, i.size, i.bytes)) = some (some (.agg #[.int .i64 0, .int .i64 0, .int .i64 0, .int .i64 0]), 4, 32) := by kernel_rfl
theorem info42 : (Try.prog.info? 42).map (fun i => (i.zero, i.size, i.bytes)) = some (some (.agg #[.int .i64 0, .int .i64 0, .int .i64 0, .int .i64 0]), 4, 32) := by kernel_rfl

set_option maxRecDepth 20000 in
set_option maxHeartbeats 4000000 in
theorem copied_calls (c : Cd) (s : Ls) (w : World) (h : CdIn w c s) (hn : s.t.n ≤ 2147483647 ∧ s.k.n ≤ 2147483647 ∧ s.i.n ≤ 2147483647 ∧ s.r.n ≤ 2147483647) :
    Calls Try.prog 9 #[.agg (cdCells c s)] w fun e w' => ∃ g1 g2 g3 g4, e = .returned (.agg (cdCells c (copS c g1 g2 g3 g4))) ∧ CopAt w' c g1 g2 g3 g4 ∧ (w.heap.size ≤ g1 ∧ w.heap.size ≤ g2 ∧ w.heap.size ≤ g3 ∧ w.heap.size ≤ g4) ∧ Below w.heap.size w w' := by
  obtain ⟨⟨ta, tn, tc⟩, ⟨ka, kn, kc⟩, ⟨ia, n3, ic⟩, ⟨ra, rn, rc⟩⟩ := s
  obtain ⟨b1, b2, b3, b4⟩ := hn
  simp only at b1 b2 b3 b4
  have HC : Hid (CdAt w c ⟨⟨ta, tn, tc⟩, ⟨ka, kn, kc⟩, ⟨ia, n3, ic⟩, ⟨ra, rn, rc⟩⟩) := h.at'
  have HN : Hid ((ta = none → tn = 0 ∧ tc = 0) ∧ (ka = none → kn = 0 ∧ kc = 0) ∧ (ia = none → n3 = 0 ∧ ic = 0) ∧ (ra = none → rn = 0 ∧ rc = 0)) := ⟨h.t.2, h.k.2, h.i.2, h.r.2⟩
  have HLn : Hid (c.table.length = tn ∧ c.consts.length = kn ∧ c.cell.length = n3 ∧ c.arrows.length = rn) := ⟨h.at'.table.length, h.at'.consts.length, h.at'.cell.length, h.at'.arrows.length⟩
  clear h
  have hres : Try.f9.results = #[.cell 2 26] := by kernel_rfl
  obtain ⟨w0, hw0⟩ : ∃ w0, ((w.alloc (.cells #[.int .i64 c.letters, .int .i64 c.planes, .int .i64 c.regs, .int .i64 c.lo, .int .i64 c.hi, .int .i64 c.most, .slice ta tn tc, .slice ka kn kc, .slice ia n3 ic, .slice ra rn rc] 26)).alloc (.cells #[.int .i64 0, .int .i64 0, .int .i64 0, .int .i64 0, .int .i64 0, .int .i64 0, .slice none 0 0, .slice none 0 0, .slice none 0 0, .slice none 0 0] 26)).alloc (.cells #[.int .i64 c.letters, .int .i64 c.planes, .int .i64 c.regs, .int .i64 c.lo, .int .i64 c.hi, .int .i64 c.most, .slice ta tn tc, .slice ka kn kc, .slice ia n3 ic, .slice ra rn rc] 26) = w0 := ⟨_, rfl⟩
  have HB : Hid (Cp w #[.int .i64 c.letters, .int .i64 c.planes, .int .i64 c.regs, .int .i64 c.lo, .int .i64 c.hi, .int .i64 c.most, .slice ta tn tc, .slice ka kn kc, .slice ia n3 ic, .slice ra rn rc] #[.int .i64 c.letters, .int .i64 c.planes, .int .i64 c.regs, .int .i64 c.lo, .int .i64 c.hi, .int .i64 c.most, .slice ta tn tc, .slice ka kn kc, .slice ia n3 ic, .slice ra rn rc] w0) := by
    rw [← hw0]
    exact Cp.start w _
  have HW0 : Hid (((w.alloc (.cells #[.int .i64 c.letters, .int .i64 c.planes, .int .i64 c.regs, .int .i64 c.lo, .int .i64 c.hi, .int .i64 c.most, .slice ta tn tc, .slice ka kn kc, .slice ia n3 ic, .slice ra rn rc] 26)).alloc (.cells #[.int .i64 0, .int .i64 0, .int .i64 0, .int .i64 0, .int .i64 0, .int .i64 0, .slice none 0 0, .slice none 0 0, .slice none 0 0, .slice none 0 0] 26)).alloc (.cells #[.int .i64 c.letters, .int .i64 c.planes, .int .i64 c.regs, .int .i64 c.lo, .int .i64 c.hi, .int .i64 c.most, .slice ta tn tc, .slice ka kn kc, .slice ia n3 ic, .slice ra rn rc] 26) = w0) := hw0
  clear hw0
  rw [show cdCells c ⟨⟨ta, tn, tc⟩, ⟨ka, kn, kc⟩, ⟨ia, n3, ic⟩, ⟨ra, rn, rc⟩⟩ = #[.int .i64 c.letters, .int .i64 c.planes, .int .i64 c.regs, .int .i64 c.lo, .int .i64 c.hi, .int .i64 c.most, .slice ta tn tc, .slice ka kn kc, .slice ia n3 ic, .slice ra rn rc] from rfl]
  go_enter Try.func9, Try.ntmps9
  go_upto_region 2 with (fail)
  rw [HW0.out]
  clear HW0
  have x0 := HB.out.c 6 (.slice ta tn tc) rfl
  obtain ⟨i1, hi1, hz1a, hz1b, hz1c⟩ := info_parts info3
  go_wp2_with (at_make; refine wpList_make_full _ rfl _ _ 22 rfl w0.heap.size 3 i1 (.int .i64 0) 1 Try.underlying22 hi1 hz1a hz1b .i64 .i64 _ _ tn rfl rfl (by omega) (by omega) (by rw [hz1c]; omega) (by unfold maxLen; omega) (Nat.le_refl _) ?_)
  intro w0a hown hgrow
  have HM : Hid (Laid w0 3 (List.replicate (tn) (.int .i64 0)) w0a) := by
    rw [made_one] at hown
    have hm := made_block hown hgrow
    exact ⟨hm.1, hm.2⟩
  clear hown hgrow x0 hi1 hz1a hz1b hz1c i1
  have y0 := (HB.out.next HM.out.low).d 6 (.slice ta tn tc) rfl
  have f0 := (HB.out.next HM.out.low).fz 6
  have HB2 : Hid (Cp w #[.int .i64 c.letters, .int .i64 c.planes, .int .i64 c.regs, .int .i64 c.lo, .int .i64 c.hi, .int .i64 c.most, .slice ta tn tc, .slice ka kn kc, .slice ia n3 ic, .slice ra rn rc] #[.int .i64 c.letters, .int .i64 c.planes, .int .i64 c.regs, .int .i64 c.lo, .int .i64 c.hi, .int .i64 c.most, .slice (some ⟨w0.heap.size, 0, none⟩) tn tn, .slice ka kn kc, .slice ia n3 ic, .slice ra rn rc] (w0a.setCell ⟨w.heap.size + 2, 6, none⟩ (.slice (some ⟨w0.heap.size, 0, none⟩) tn tn))) := (HB.out.next HM.out.low).put 6 _ rfl
  have HM2 : Hid ((w0a.setCell ⟨w.heap.size + 2, 6, none⟩ (.slice (some ⟨w0.heap.size, 0, none⟩) tn tn)).heap[w0.heap.size]? = some (.cells (List.replicate (tn) (.int .i64 0)).toArray 3 (0, 0))) := (HB.out.next HM.out.low).row 6 _ (by decide) HM.out.row
  have HGe : Hid (w.heap.size + 2 < w0.heap.size) := lt_block HB.out.dbx
  go_upto_region 3 with (fail)
  clear y0 f0 HM HB
  generalize w0a.setCell ⟨w.heap.size + 2, 6, none⟩ (.slice (some ⟨w0.heap.size, 0, none⟩) tn tn) = w0b at *
  obtain ⟨g1, hg⟩ : ∃ g, w0.heap.size = g := ⟨_, rfl⟩
  rw [hg] at HB2 HM2 HGe ⊢
  clear hg
  have x0 := HB2.out.c 6 (.slice ta tn tc) rfl
  have y0 := HB2.out.d 6 (.slice (some ⟨g1, 0, none⟩) tn tn) rfl
  go_wp2_with (refine wpList_copyG Try.underlying22 size3 rfl (.tmp 12) (.tmp 14) rfl g1 tn tn ta tn tc rfl rfl HN.out.1 _ HM2.out (intVals c.table) ?c0 ((HC.out.below HB2.out.low).table.source) ?c1 (ints_oneC _) g1 _ (Below.refl _ _) (Nat.le_refl _) ?_)
  case c0 => rw [intVals_length, HLn.out.1]; show _ = Nat.min tn tn * 1; rw [show Nat.min tn tn = tn from Nat.min_eq_left (by omega)]; omega
  case c1 => rw [intVals_length, HLn.out.1]; first | (simp; done) | (simp; omega)
  intro w0c hrow hlow vcopy0
  have HB : Hid _ := HB2.out.nextB HGe.out hlow
  have HRow : Hid (w0c.heap[g1]? = some (.cells (intVals c.table ++ List.replicate (0) (Value.int .i64 0)).toArray 3 (0, 0))) := by
    show _ = _
    rw [hrow, intVals_length, HLn.out.1]
    first | rfl | simp
  clear hrow hlow HB2 HM2 x0 y0
  have HRt : Hid (w0c.heap[g1]? = some (.cells (intVals c.table).toArray 3 (0, 0))) := by have := HRow.out; show _ = _; simpa using this
  have HGet : Hid (w.heap.size ≤ g1) := by have := HGe.out; show _ ≤ _; omega
  clear HRow HGe
  go_upto_region 4 with (fail)
  obtain ⟨w1, hw⟩ : ∃ W, W = w0c := ⟨_, rfl⟩
  rw [← hw] at HB ⊢
  rw [← hw] at HRt
  clear hw
  have x1 := HB.out.c 7 (.slice ka kn kc) rfl
  obtain ⟨i1, hi1, hz1a, hz1b, hz1c⟩ := info_parts info3
  go_wp2_with (at_make; refine wpList_make_full _ rfl _ _ 22 rfl w1.heap.size 3 i1 (.int .i64 0) 1 Try.underlying22 hi1 hz1a hz1b .i64 .i64 _ _ kn rfl rfl (by omega) (by omega) (by rw [hz1c]; omega) (by unfold maxLen; omega) (Nat.le_refl _) ?_)
  intro w1a hown hgrow
  have HM : Hid (Laid w1 3 (List.replicate (kn) (.int .i64 0)) w1a) := by
    rw [made_one] at hown
    have hm := made_block hown hgrow
    exact ⟨hm.1, hm.2⟩
  clear hown hgrow x1 hi1 hz1a hz1b hz1c i1
  have y1 := (HB.out.next HM.out.low).d 7 (.slice ka kn kc) rfl
  have f1 := (HB.out.next HM.out.low).fz 7
  have HB2 : Hid (Cp w #[.int .i64 c.letters, .int .i64 c.planes, .int .i64 c.regs, .int .i64 c.lo, .int .i64 c.hi, .int .i64 c.most, .slice ta tn tc, .slice ka kn kc, .slice ia n3 ic, .slice ra rn rc] #[.int .i64 c.letters, .int .i64 c.planes, .int .i64 c.regs, .int .i64 c.lo, .int .i64 c.hi, .int .i64 c.most, .slice (some ⟨g1, 0, none⟩) tn tn, .slice (some ⟨w1.heap.size, 0, none⟩) kn kn, .slice ia n3 ic, .slice ra rn rc] (w1a.setCell ⟨w.heap.size + 2, 7, none⟩ (.slice (some ⟨w1.heap.size, 0, none⟩) kn kn))) := (HB.out.next HM.out.low).put 7 _ rfl
  have HM2 : Hid ((w1a.setCell ⟨w.heap.size + 2, 7, none⟩ (.slice (some ⟨w1.heap.size, 0, none⟩) kn kn)).heap[w1.heap.size]? = some (.cells (List.replicate (kn) (.int .i64 0)).toArray 3 (0, 0))) := (HB.out.next HM.out.low).row 7 _ (by decide) HM.out.row
  have HRt2 : Hid ((w1a.setCell ⟨w.heap.size + 2, 7, none⟩ (.slice (some ⟨w1.heap.size, 0, none⟩) kn kn)).heap[g1]? = some (.cells (intVals c.table).toArray 3 (0, 0))) := (HB.out.next HM.out.low).row 7 _ (by decide) (row_next HRt.out HM.out.low)
  have HGe : Hid (w.heap.size + 2 < w1.heap.size) := lt_block HB.out.dbx
  have HGt : Hid (g1 < w1.heap.size) := lt_block HRt.out
  go_upto_region 5 with (fail)
  clear y1 f1 HM HB HRt
  generalize w1a.setCell ⟨w.heap.size + 2, 7, none⟩ (.slice (some ⟨w1.heap.size, 0, none⟩) kn kn) = w1b at *
  obtain ⟨g2, hg⟩ : ∃ g, w1.heap.size = g := ⟨_, rfl⟩
  rw [hg] at HB2 HM2 HGe HGt ⊢
  clear hg
  have HRt := HRt2
  clear HRt2
  have x1 := HB2.out.c 7 (.slice ka kn kc) rfl
  have y1 := HB2.out.d 7 (.slice (some ⟨g2, 0, none⟩) kn kn) rfl
  go_wp2_with (refine wpList_copyG Try.underlying22 size3 rfl (.tmp 22) (.tmp 24) rfl g2 kn kn ka kn kc rfl rfl HN.out.2.1 _ HM2.out (intVals c.consts) ?c0 ((HC.out.below HB2.out.low).consts.source) ?c1 (ints_oneC _) g2 _ (Below.refl _ _) (Nat.le_refl _) ?_)
  case c0 => rw [intVals_length, HLn.out.2.1]; show _ = Nat.min kn kn * 1; rw [show Nat.min kn kn = kn from Nat.min_eq_left (by omega)]; omega
  case c1 => rw [intVals_length, HLn.out.2.1]; first | (simp; done) | (simp; omega)
  intro w1c hrow hlow vcopy1
  have HB : Hid _ := HB2.out.nextB HGe.out hlow
  have HRow : Hid (w1c.heap[g2]? = some (.cells (intVals c.consts ++ List.replicate (0) (Value.int .i64 0)).toArray 3 (0, 0))) := by
    show _ = _
    rw [hrow, intVals_length, HLn.out.2.1]
    first | rfl | simp
  have HRt2 : Hid (w1c.heap[g1]? = some (.cells (intVals c.table).toArray 3 (0, 0))) := by show _ = _; rw [hlow.block _ HGt.out]; exact HRt.out
  clear hrow hlow HB2 HM2 x1 y1 HRt HGt
  have HRt := HRt2
  clear HRt2
  have HRk : Hid (w1c.heap[g2]? = some (.cells (intVals c.consts).toArray 3 (0, 0))) := by have := HRow.out; show _ = _; simpa using this
  have HGek : Hid (w.heap.size ≤ g2) := by have := HGe.out; show _ ≤ _; omega
  clear HRow HGe
  go_upto_region 6 with (fail)
  obtain ⟨w2, hw⟩ : ∃ W, W = w1c := ⟨_, rfl⟩
  rw [← hw] at HB ⊢
  rw [← hw] at HRt
  rw [← hw] at HRk
  clear hw
  have x2 := HB.out.c 8 (.slice ia n3 ic) rfl
  obtain ⟨i1, hi1, hz1a, hz1b, hz1c⟩ := info_parts info35
  go_wp2_with (at_make; refine wpList_make_full _ rfl _ _ 23 rfl w2.heap.size 35 i1 (.agg #[.int .i64 0, .int .i64 0, .int .i64 0, .int .i64 0]) 4 Try.underlying23 hi1 hz1a hz1b .i64 .i64 _ _ (n3 + 2) rfl rfl (by omega) (by omega) (by rw [hz1c]; omega) (by unfold maxLen; omega) (Nat.le_refl _) ?_)
  intro w2a hown hgrow
  have HM : Hid (Laid w2 35 (List.replicate ((n3 + 2) * 4) (.int .i64 0)) w2a) := by
    rw [made_four] at hown
    have hm := made_block hown hgrow
    exact ⟨hm.1, hm.2⟩
  clear hown hgrow x2 hi1 hz1a hz1b hz1c i1
  have HB2 : Hid (Cp w #[.int .i64 c.letters, .int .i64 c.planes, .int .i64 c.regs, .int .i64 c.lo, .int .i64 c.hi, .int .i64 c.most, .slice ta tn tc, .slice ka kn kc, .slice ia n3 ic, .slice ra rn rc] #[.int .i64 c.letters, .int .i64 c.planes, .int .i64 c.regs, .int .i64 c.lo, .int .i64 c.hi, .int .i64 c.most, .slice (some ⟨g1, 0, none⟩) tn tn, .slice (some ⟨g2, 0, none⟩) kn kn, .slice ia n3 ic, .slice ra rn rc] w2a) := HB.out.next HM.out.low
  have HM2 : Hid (w2a.heap[w2.heap.size]? = some (.cells (List.replicate ((n3 + 2) * 4) (.int .i64 0)).toArray 35 (0, 0))) := HM.out.row
  have HRt2 : Hid (w2a.heap[g1]? = some (.cells (intVals c.table).toArray 3 (0, 0))) := row_next HRt.out HM.out.low
  have HRk2 : Hid (w2a.heap[g2]? = some (.cells (intVals c.consts).toArray 3 (0, 0))) := row_next HRk.out HM.out.low
  have HGe : Hid (w.heap.size + 2 < w2.heap.size) := lt_block HB.out.dbx
  have HGt : Hid (g1 < w2.heap.size) := lt_block HRt.out
  have HGk : Hid (g2 < w2.heap.size) := lt_block HRk.out
  go_upto_region 7 with (fail)
  clear HM HB HRt HRk
  obtain ⟨g3, hg⟩ : ∃ g, w2.heap.size = g := ⟨_, rfl⟩
  rw [hg] at HM2 HGe HGt HGk ⊢
  clear hg
  have HRt := HRt2
  clear HRt2
  have HRk := HRk2
  clear HRk2
  have x2 := HB2.out.c 8 (.slice ia n3 ic) rfl
  go_wp2_with (refine wpList_copyG Try.underlying23 size35 rfl (.tmp 31) (.tmp 33) rfl g3 (n3 + 2) (n3 + 2) ia n3 ic rfl rfl HN.out.2.2.1 _ HM2.out (qdVals c.cell) ?c0 ((HC.out.below HB2.out.low).cell.source) ?c1 (qds_oneC _) g3 _ (Below.refl _ _) (Nat.le_refl _) ?_)
  case c0 => rw [qdVals_length, HLn.out.2.2.1]; show _ = Nat.min n3 (n3 + 2) * 4; rw [show Nat.min n3 (n3 + 2) = n3 from Nat.min_eq_left (by omega)]
  case c1 => rw [qdVals_length, HLn.out.2.2.1]; first | (simp; done) | (simp; omega)
  intro w2c hrow hlow vcopy2
  have HB : Hid _ := HB2.out.nextB HGe.out hlow
  have HRow : Hid (w2c.heap[g3]? = some (.cells (qdVals c.cell ++ List.replicate (8) (Value.int .i64 0)).toArray 35 (0, 0))) := by
    show _ = _
    rw [hrow, qdVals_length, HLn.out.2.2.1]
    rw [show (n3 + 2) * 4 = n3 * 4 + 8 by omega]; first | (rw [List.toList_toArray, drop_rep]) | simp
  have HRt2 : Hid (w2c.heap[g1]? = some (.cells (intVals c.table).toArray 3 (0, 0))) := by show _ = _; rw [hlow.block _ HGt.out]; exact HRt.out
  have HRk2 : Hid (w2c.heap[g2]? = some (.cells (intVals c.consts).toArray 3 (0, 0))) := by show _ = _; rw [hlow.block _ HGk.out]; exact HRk.out
  clear hrow hlow HB2 HM2 x2 HRt HRk HGt HGk
  have HRt := HRt2
  clear HRt2
  have HRk := HRk2
  clear HRk2
  have x2 := HB.out.c 8 (.slice ia n3 ic) rfl
  have hvl : (qdVals c.cell).length = n3 * 4 := by rw [qdVals_length, HLn.out.2.2.1]
  have y9 := cell_block HRow.out (n3 * 4) (.int .i64 0) (by have := get_end hvl 0 (List.replicate 8 (Value.int .i64 0)) _ rfl; rw [Nat.add_zero] at this; simpa using this)
  have f9 := frozen_of_row _ g3 (n3 * 4) _ _ HRow.out
  have HRi : Hid ((w2c.setCell ⟨g3, n3 * 4, none⟩ (.int .i64 79)).heap[g3]? = some (.cells (rowI c.cell).toArray 35 (0, 0))) := by
    show _ = _
    rw [heap_setCell_same _ _ _ _ _ _ HRow.out]
    have := set_end hvl 0 (List.replicate 8 (Value.int .i64 0)) _ (.int .i64 79) rfl
    rw [Nat.add_zero] at this
    simp only [List.setIfInBounds_toArray]
    rw [this]; rfl
  have HBm : Hid (Cp w #[.int .i64 c.letters, .int .i64 c.planes, .int .i64 c.regs, .int .i64 c.lo, .int .i64 c.hi, .int .i64 c.most, .slice ta tn tc, .slice ka kn kc, .slice ia n3 ic, .slice ra rn rc] #[.int .i64 c.letters, .int .i64 c.planes, .int .i64 c.regs, .int .i64 c.lo, .int .i64 c.hi, .int .i64 c.most, .slice (some ⟨g1, 0, none⟩) tn tn, .slice (some ⟨g2, 0, none⟩) kn kn, .slice ia n3 ic, .slice ra rn rc] (w2c.setCell ⟨g3, n3 * 4, none⟩ (.int .i64 79))) := HB.out.nextB HGe.out ((Below.refl g3 _).setCell (p := ⟨g3, n3 * 4, none⟩) (Nat.le_refl _) _)
  have HRt2 : Hid ((w2c.setCell ⟨g3, n3 * 4, none⟩ (.int .i64 79)).heap[g1]? = some (.cells (intVals c.table).toArray 3 (0, 0))) := by show _ = _; rw [heap_setOther _ HRow.out HRt.out (by decide)]; exact HRt.out
  have HRk2 : Hid ((w2c.setCell ⟨g3, n3 * 4, none⟩ (.int .i64 79)).heap[g2]? = some (.cells (intVals c.consts).toArray 3 (0, 0))) := by show _ = _; rw [heap_setOther _ HRow.out HRk.out (by decide)]; exact HRk.out
  go_upto_region 9 with (fail)
  clear x2 y9 f9 HRow HB HRt HRk
  have HRt := HRt2
  clear HRt2
  have HRk := HRk2
  clear HRk2
  generalize w2c.setCell ⟨g3, n3 * 4, none⟩ (.int .i64 79) = w2d at *
  have x2 := HBm.out.c 8 (.slice ia n3 ic) rfl
  have y9 := HBm.out.d 8 (.slice ia n3 ic) rfl
  have f9 := HBm.out.fz 8
  have HB : Hid (Cp w #[.int .i64 c.letters, .int .i64 c.planes, .int .i64 c.regs, .int .i64 c.lo, .int .i64 c.hi, .int .i64 c.most, .slice ta tn tc, .slice ka kn kc, .slice ia n3 ic, .slice ra rn rc] #[.int .i64 c.letters, .int .i64 c.planes, .int .i64 c.regs, .int .i64 c.lo, .int .i64 c.hi, .int .i64 c.most, .slice (some ⟨g1, 0, none⟩) tn tn, .slice (some ⟨g2, 0, none⟩) kn kn, .slice (some ⟨g3, 0, none⟩) n3 (n3 + 2), .slice ra rn rc] (w2d.setCell ⟨w.heap.size + 2, 8, none⟩ (.slice (some ⟨g3, 0, none⟩) n3 (n3 + 2)))) := HBm.out.put 8 _ rfl
  have HRt2 : Hid ((w2d.setCell ⟨w.heap.size + 2, 8, none⟩ (.slice (some ⟨g3, 0, none⟩) n3 (n3 + 2))).heap[g1]? = some (.cells (intVals c.table).toArray 3 (0, 0))) := HBm.out.row 8 _ (by decide) HRt.out
  have HRk2 : Hid ((w2d.setCell ⟨w.heap.size + 2, 8, none⟩ (.slice (some ⟨g3, 0, none⟩) n3 (n3 + 2))).heap[g2]? = some (.cells (intVals c.consts).toArray 3 (0, 0))) := HBm.out.row 8 _ (by decide) HRk.out
  have HRi2 : Hid ((w2d.setCell ⟨w.heap.size + 2, 8, none⟩ (.slice (some ⟨g3, 0, none⟩) n3 (n3 + 2))).heap[g3]? = some (.cells (rowI c.cell).toArray 35 (0, 0))) := HBm.out.row 8 _ (by decide) HRi.out
  have HGei : Hid (w.heap.size ≤ g3) := by have := HGe.out; show _ ≤ _; omega
  go_upto_region 10 with (fail)
  clear x2 y9 f9 HBm HGe hvl HRt HRk HRi
  have HRt := HRt2
  clear HRt2
  have HRk := HRk2
  clear HRk2
  have HRi := HRi2
  clear HRi2
  generalize w2d.setCell ⟨w.heap.size + 2, 8, none⟩ (.slice (some ⟨g3, 0, none⟩) n3 (n3 + 2)) = w3 at *
  have x3 := HB.out.c 9 (.slice ra rn rc) rfl
  obtain ⟨i1, hi1, hz1a, hz1b, hz1c⟩ := info_parts info42
  go_wp2_with (at_make; refine wpList_make_full _ rfl _ _ 24 rfl w3.heap.size 42 i1 (.agg #[.int .i64 0, .int .i64 0, .int .i64 0, .int .i64 0]) 4 Try.underlying24 hi1 hz1a hz1b .i64 .i64 _ _ rn rfl rfl (by omega) (by omega) (by rw [hz1c]; omega) (by unfold maxLen; omega) (Nat.le_refl _) ?_)
  intro w3a hown hgrow
  have HM : Hid (Laid w3 42 (List.replicate (rn * 4) (.int .i64 0)) w3a) := by
    rw [made_four] at hown
    have hm := made_block hown hgrow
    exact ⟨hm.1, hm.2⟩
  clear hown hgrow x3 hi1 hz1a hz1b hz1c i1
  have y3 := (HB.out.next HM.out.low).d 9 (.slice ra rn rc) rfl
  have f3 := (HB.out.next HM.out.low).fz 9
  have HB2 : Hid (Cp w #[.int .i64 c.letters, .int .i64 c.planes, .int .i64 c.regs, .int .i64 c.lo, .int .i64 c.hi, .int .i64 c.most, .slice ta tn tc, .slice ka kn kc, .slice ia n3 ic, .slice ra rn rc] #[.int .i64 c.letters, .int .i64 c.planes, .int .i64 c.regs, .int .i64 c.lo, .int .i64 c.hi, .int .i64 c.most, .slice (some ⟨g1, 0, none⟩) tn tn, .slice (some ⟨g2, 0, none⟩) kn kn, .slice (some ⟨g3, 0, none⟩) n3 (n3 + 2), .slice (some ⟨w3.heap.size, 0, none⟩) rn rn] (w3a.setCell ⟨w.heap.size + 2, 9, none⟩ (.slice (some ⟨w3.heap.size, 0, none⟩) rn rn))) := (HB.out.next HM.out.low).put 9 _ rfl
  have HM2 : Hid ((w3a.setCell ⟨w.heap.size + 2, 9, none⟩ (.slice (some ⟨w3.heap.size, 0, none⟩) rn rn)).heap[w3.heap.size]? = some (.cells (List.replicate (rn * 4) (.int .i64 0)).toArray 42 (0, 0))) := (HB.out.next HM.out.low).row 9 _ (by decide) HM.out.row
  have HRt2 : Hid ((w3a.setCell ⟨w.heap.size + 2, 9, none⟩ (.slice (some ⟨w3.heap.size, 0, none⟩) rn rn)).heap[g1]? = some (.cells (intVals c.table).toArray 3 (0, 0))) := (HB.out.next HM.out.low).row 9 _ (by decide) (row_next HRt.out HM.out.low)
  have HRk2 : Hid ((w3a.setCell ⟨w.heap.size + 2, 9, none⟩ (.slice (some ⟨w3.heap.size, 0, none⟩) rn rn)).heap[g2]? = some (.cells (intVals c.consts).toArray 3 (0, 0))) := (HB.out.next HM.out.low).row 9 _ (by decide) (row_next HRk.out HM.out.low)
  have HRi2 : Hid ((w3a.setCell ⟨w.heap.size + 2, 9, none⟩ (.slice (some ⟨w3.heap.size, 0, none⟩) rn rn)).heap[g3]? = some (.cells (rowI c.cell).toArray 35 (0, 0))) := (HB.out.next HM.out.low).row 9 _ (by decide) (row_next HRi.out HM.out.low)
  have HGe : Hid (w.heap.size + 2 < w3.heap.size) := lt_block HB.out.dbx
  have HGt : Hid (g1 < w3.heap.size) := lt_block HRt.out
  have HGk : Hid (g2 < w3.heap.size) := lt_block HRk.out
  have HGi : Hid (g3 < w3.heap.size) := lt_block HRi.out
  go_upto_region 11 with (fail)
  clear y3 f3 HM HB HRt HRk HRi
  generalize w3a.setCell ⟨w.heap.size + 2, 9, none⟩ (.slice (some ⟨w3.heap.size, 0, none⟩) rn rn) = w3b at *
  obtain ⟨g4, hg⟩ : ∃ g, w3.heap.size = g := ⟨_, rfl⟩
  rw [hg] at HB2 HM2 HGe HGt HGk HGi ⊢
  clear hg
  have HRt := HRt2
  clear HRt2
  have HRk := HRk2
  clear HRk2
  have HRi := HRi2
  clear HRi2
  have x3 := HB2.out.c 9 (.slice ra rn rc) rfl
  have y3 := HB2.out.d 9 (.slice (some ⟨g4, 0, none⟩) rn rn) rfl
  go_wp2_with (refine wpList_copyG Try.underlying24 size42 rfl (.tmp 53) (.tmp 55) rfl g4 rn rn ra rn rc rfl rfl HN.out.2.2.2 _ HM2.out (qdVals c.arrows) ?c0 ((HC.out.below HB2.out.low).arrows.source) ?c1 (qds_oneC _) g4 _ (Below.refl _ _) (Nat.le_refl _) ?_)
  case c0 => rw [qdVals_length, HLn.out.2.2.2]; show _ = Nat.min rn rn * 4; rw [show Nat.min rn rn = rn from Nat.min_eq_left (by omega)]
  case c1 => rw [qdVals_length, HLn.out.2.2.2]; first | (simp; done) | (simp; omega)
  intro w3c hrow hlow vcopy3
  have HB : Hid _ := HB2.out.nextB HGe.out hlow
  have HRow : Hid (w3c.heap[g4]? = some (.cells (qdVals c.arrows ++ List.replicate (0) (Value.int .i64 0)).toArray 42 (0, 0))) := by
    show _ = _
    rw [hrow, qdVals_length, HLn.out.2.2.2]
    first | rfl | simp
  have HRt2 : Hid (w3c.heap[g1]? = some (.cells (intVals c.table).toArray 3 (0, 0))) := by show _ = _; rw [hlow.block _ HGt.out]; exact HRt.out
  have HRk2 : Hid (w3c.heap[g2]? = some (.cells (intVals c.consts).toArray 3 (0, 0))) := by show _ = _; rw [hlow.block _ HGk.out]; exact HRk.out
  have HRi2 : Hid (w3c.heap[g3]? = some (.cells (rowI c.cell).toArray 35 (0, 0))) := by show _ = _; rw [hlow.block _ HGi.out]; exact HRi.out
  clear hrow hlow HB2 HM2 x3 y3 HRt HRk HRi HGt HGk HGi
  have HRt := HRt2
  clear HRt2
  have HRk := HRk2
  clear HRk2
  have HRi := HRi2
  clear HRi2
  have HRr : Hid (w3c.heap[g4]? = some (.cells (qdVals c.arrows).toArray 42 (0, 0))) := by have := HRow.out; show _ = _; simpa using this
  have HGer : Hid (w.heap.size ≤ g4) := by have := HGe.out; show _ ≤ _; omega
  clear HRow HGe
  go_upto_region 12 with (fail)
  obtain ⟨w4, hw⟩ : ∃ W, W = w3c := ⟨_, rfl⟩
  rw [← hw] at HB ⊢
  rw [← hw] at HRt
  rw [← hw] at HRk
  rw [← hw] at HRi
  rw [← hw] at HRr
  clear hw
  have d0 := HB.out.d 0 (.int .i64 c.letters) rfl
  have r0 : w4.cell? ⟨w.heap.size + 1, 0, none⟩ = some (.int .i64 0) := cell_block HB.out.res 0 _ rfl
  have d1 := HB.out.d 1 (.int .i64 c.planes) rfl
  have r1 : w4.cell? ⟨w.heap.size + 1, 1, none⟩ = some (.int .i64 0) := cell_block HB.out.res 1 _ rfl
  have d2 := HB.out.d 2 (.int .i64 c.regs) rfl
  have r2 : w4.cell? ⟨w.heap.size + 1, 2, none⟩ = some (.int .i64 0) := cell_block HB.out.res 2 _ rfl
  have d3 := HB.out.d 3 (.int .i64 c.lo) rfl
  have r3 : w4.cell? ⟨w.heap.size + 1, 3, none⟩ = some (.int .i64 0) := cell_block HB.out.res 3 _ rfl
  have d4 := HB.out.d 4 (.int .i64 c.hi) rfl
  have r4 : w4.cell? ⟨w.heap.size + 1, 4, none⟩ = some (.int .i64 0) := cell_block HB.out.res 4 _ rfl
  have d5 := HB.out.d 5 (.int .i64 c.most) rfl
  have r5 : w4.cell? ⟨w.heap.size + 1, 5, none⟩ = some (.int .i64 0) := cell_block HB.out.res 5 _ rfl
  have d6 := HB.out.d 6 (.slice (some ⟨g1, 0, none⟩) tn tn) rfl
  have r6 : w4.cell? ⟨w.heap.size + 1, 6, none⟩ = some (.slice none 0 0) := cell_block HB.out.res 6 _ rfl
  have d7 := HB.out.d 7 (.slice (some ⟨g2, 0, none⟩) kn kn) rfl
  have r7 : w4.cell? ⟨w.heap.size + 1, 7, none⟩ = some (.slice none 0 0) := cell_block HB.out.res 7 _ rfl
  have d8 := HB.out.d 8 (.slice (some ⟨g3, 0, none⟩) n3 (n3 + 2)) rfl
  have r8 : w4.cell? ⟨w.heap.size + 1, 8, none⟩ = some (.slice none 0 0) := cell_block HB.out.res 8 _ rfl
  have d9 := HB.out.d 9 (.slice (some ⟨g4, 0, none⟩) rn rn) rfl
  have r9 : w4.cell? ⟨w.heap.size + 1, 9, none⟩ = some (.slice none 0 0) := cell_block HB.out.res 9 _ rfl
  have rf : ∀ i, w4.frozen? ⟨w.heap.size + 1, i, none⟩ = false := fun i => frozen_of_row w4 _ i _ _ HB.out.res
  have HF : Hid (CopR w w4 c g1 g2 g3 g4 (w.heap.size + 1)) := ⟨⟨HRt.out, HRk.out, HRi.out, HRr.out⟩, HB.out.low, by omega, _, HB.out.res⟩
  have HX : Hid (∀ W : World, CopR w W c g1 g2 g3 g4 (w.heap.size + 1) → ∃ x1 x2 x3 x4, Ending.returned (.agg #[.int .i64 c.letters, .int .i64 c.planes, .int .i64 c.regs, .int .i64 c.lo, .int .i64 c.hi, .int .i64 c.most, .slice (some ⟨g1, 0, none⟩) tn tn, .slice (some ⟨g2, 0, none⟩) kn kn, .slice (some ⟨g3, 0, none⟩) n3 (n3 + 2), .slice (some ⟨g4, 0, none⟩) rn rn]) = .returned (.agg (cdCells c (copS c x1 x2 x3 x4))) ∧ CopAt W c x1 x2 x3 x4 ∧ (w.heap.size ≤ x1 ∧ w.heap.size ≤ x2 ∧ w.heap.size ≤ x3 ∧ w.heap.size ≤ x4) ∧ Below w.heap.size w W) := fun W hW => by
    obtain ⟨l1, l2, l3, l4⟩ := HLn.out
    exact ⟨g1, g2, g3, g4, by simp only [cdCells, copS, l1, l2, l3, l4], hW.cop, ⟨HGet.out, HGek.out, HGei.out, HGer.out⟩, hW.low⟩
  clear HB HRt HRk HRi HRr
  go_wp2
  refine bodyPost_ret (v := .agg #[.int .i64 c.letters, .int .i64 c.planes, .int .i64 c.regs, .int .i64 c.lo, .int .i64 c.hi, .int .i64 c.most, .slice (some ⟨g1, 0, none⟩) tn tn, .slice (some ⟨g2, 0, none⟩) kn kn, .slice (some ⟨g3, 0, none⟩) n3 (n3 + 2), .slice (some ⟨g4, 0, none⟩) rn rn]) ?_ rfl (HX.out _ ?_)
  · simp only [results, hres]
    go_simp
  · exact ((((((((((HF.out.set 0 _).set 1 _).set 2 _).set 3 _).set 4 _).set 5 _).set 6 _).set 7 _).set 8 _).set 9 _)
end Go.Proofs.Ytdbfcclmmpcijaa
