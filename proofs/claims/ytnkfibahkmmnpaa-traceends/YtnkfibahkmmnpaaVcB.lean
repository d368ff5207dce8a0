/-
  The walk of the statements' own copied.
-/
import Derived.Test.YtnkfibahkmmnpaaVcA
import Derived.Test.YtnkfibahkmmnpaaOpn
namespace Go.Proofs.Ytnkfibahkmmnpaa
open Go.RowKit

/-- A code that was copied: its lists lie in rows of their own, with a mark behind the instructions. -/
structure CopAt (W : World) (c : Cd) (g1 g2 g3 g4 : Nat) : Prop where
  t : W.heap[g1]? = some (.cells (intVals c.table).toArray 3 (0, 0))
  k : W.heap[g2]? = some (.cells (intVals c.consts).toArray 3 (0, 0))
  i : W.heap[g3]? = some (.cells (rowI c.cell).toArray 61 (0, 0))
  r : W.heap[g4]? = some (.cells (qdVals c.arrows).toArray 86 (0, 0))
theorem CopAt.next {W W2 : World} {c : Cd} {g1 g2 g3 g4 : Nat} (h : CopAt W c g1 g2 g3 g4) (hb : Below W.heap.size W W2) : CopAt W2 c g1 g2 g3 g4 :=
  ⟨by rw [hb.block _ (lt_block h.t)]; exact h.t, by rw [hb.block _ (lt_block h.k)]; exact h.k, by rw [hb.block _ (lt_block h.i)]; exact h.i, by rw [hb.block _ (lt_block h.r)]; exact h.r⟩
def copS (c : Cd) (g1 g2 g3 g4 : Nat) : Ls := ⟨⟨some ⟨g1, 0, none⟩, c.table.length, c.table.length⟩, ⟨some ⟨g2, 0, none⟩, c.consts.length, c.consts.length⟩, ⟨some ⟨g3, 0, none⟩, c.cell.length, c.cell.length + 2⟩, ⟨some ⟨g4, 0, none⟩, c.arrows.length, c.arrows.length⟩⟩
theorem rowT_at {W : World} {g : Nat} {l : List Int} {m : List Value} (h : W.heap[g]? = some (.cells (intVals l ++ m).toArray 3 (0, 0))) (hl : l.length ≤ maxLen) : IntsAt W (some ⟨g, 0, none⟩) l.length l := by
  refine ⟨rfl, hl, fun _ => ⟨g, 0, rfl, fun i hi => ?_⟩⟩
  rw [Nat.zero_add]
  refine cell_block h i _ ?_
  rw [List.getElem?_toArray, List.getElem?_append_left (by rw [intVals_length]; exact hi), intVals, List.getElem?_map, getD_get hi]
  rfl
theorem rowQ_at {W : World} {g : Nat} {l : List Qd} {m : List Value} {E : TypeId} (h : W.heap[g]? = some (.cells (qdVals l ++ m).toArray E (0, 0))) (hl : l.length ≤ maxLen) : QdsAt W (some ⟨g, 0, none⟩) l.length l := by
  refine ⟨rfl, hl, fun _ => ⟨g, 0, rfl, fun i q hi => ?_⟩⟩
  have key : ∀ j u, (qdCells q)[j]? = some u → W.cell? ⟨g, i * 4 + j, none⟩ = some u := fun j u hu => by
    refine cell_block h _ _ ?_
    have h1 := flat_get qd_len l i q j u hi hu
    have h2 : i * 4 + j < (qdVals l).length := (List.getElem?_eq_some_iff.1 h1).1
    rw [List.getElem?_toArray, List.getElem?_append_left h2]
    exact h1
  simp only [Nat.zero_add]
  exact ⟨key 0 _ rfl, key 1 _ rfl, key 2 _ rfl, key 3 _ rfl⟩
theorem CopAt.at' {W : World} {c : Cd} {g1 g2 g3 g4 : Nat} (h : CopAt W c g1 g2 g3 g4) (h1 : c.table.length ≤ maxLen) (h2 : c.consts.length ≤ maxLen) (h3 : c.cell.length ≤ maxLen) (h4 : c.arrows.length ≤ maxLen) : CdAt W c (copS c g1 g2 g3 g4) :=
  ⟨rowT_at (m := []) (by simpa using h.t) h1, rowT_at (m := []) (by simpa using h.k) h2, rowQ_at h.i h3, rowQ_at (m := []) (by simpa using h.r) h4⟩
/-- The boxes: the code's, the result's, the copy's. -/
structure Cp (w : World) (cs ds : Array Value) (W : World) : Prop where
  low : Below w.heap.size w W
  box : W.heap[w.heap.size]? = some (.cells cs 32 (0, 0))
  res : W.heap[w.heap.size + 1]? = some (.cells #[.int .i64 0, .int .i64 0, .int .i64 0, .int .i64 0, .int .i64 0, .int .i64 0, .slice none 0 0, .slice none 0 0, .slice none 0 0, .slice none 0 0] 32 (0, 0))
  dbx : W.heap[w.heap.size + 2]? = some (.cells ds 32 (0, 0))
section
variable {w W W2 : World} {cs ds : Array Value}
theorem Cp.next (h : Cp w cs ds W) (hb : Below W.heap.size W W2) : Cp w cs ds W2 :=
  ⟨h.low.trans (hb.mono h.low.size), by rw [hb.block _ (lt_block h.box)]; exact h.box, by rw [hb.block _ (lt_block h.res)]; exact h.res, by rw [hb.block _ (lt_block h.dbx)]; exact h.dbx⟩
theorem Cp.nextB (h : Cp w cs ds W) {B : Nat} (hB : w.heap.size + 2 < B) (hb : Below B W W2) : Cp w cs ds W2 :=
  ⟨h.low.trans (hb.mono (by omega)), by rw [hb.block _ (by omega)]; exact h.box, by rw [hb.block _ (by omega)]; exact h.res, by rw [hb.block _ hB]; exact h.dbx⟩
theorem Cp.c (h : Cp w cs ds W) (i : Nat) (v : Value) (hv : cs[i]? = some v) : W.cell? ⟨w.heap.size, i, none⟩ = some v := cell_block h.box i v hv
theorem Cp.d (h : Cp w cs ds W) (i : Nat) (v : Value) (hv : ds[i]? = some v) : W.cell? ⟨w.heap.size + 2, i, none⟩ = some v := cell_block h.dbx i v hv
theorem Cp.fz (h : Cp w cs ds W) (i : Nat) : W.frozen? ⟨w.heap.size + 2, i, none⟩ = false := frozen_of_row W _ i _ _ h.dbx
theorem Cp.put {es : Array Value} (h : Cp w cs ds W) (i : Nat) (v : Value) (he : ds.setIfInBounds i v = es) : Cp w cs es (W.setCell ⟨w.heap.size + 2, i, none⟩ v) :=
  ⟨h.low.setCell (p := ⟨w.heap.size + 2, i, none⟩) (by show w.heap.size ≤ w.heap.size + 2; omega) v, by rw [Below.heap_setCell _ _ _ _ (by show w.heap.size ≠ w.heap.size + 2; omega)]; exact h.box, by rw [Below.heap_setCell _ _ _ _ (by show w.heap.size + 1 ≠ w.heap.size + 2; omega)]; exact h.res, by rw [heap_setCell_same _ _ _ _ _ _ h.dbx, he]⟩
theorem Cp.row (h : Cp w cs ds W) (i : Nat) (v : Value) {g : Nat} {xs : Array Value} {t : TypeId} (ht : t ≠ 32) (hg : W.heap[g]? = some (.cells xs t (0, 0))) : (W.setCell ⟨w.heap.size + 2, i, none⟩ v).heap[g]? = some (.cells xs t (0, 0)) := by
  rw [Below.heap_setCell _ _ _ _ (fun e => by have e' : g = w.heap.size + 2 := e; rw [e', h.dbx] at hg; cases hg; exact ht rfl)]; exact hg
theorem Cp.start (w : World) (cs : Array Value) : Cp w cs cs (((w.alloc (.cells cs 32)).alloc (.cells #[.int .i64 0, .int .i64 0, .int .i64 0, .int .i64 0, .int .i64 0, .int .i64 0, .slice none 0 0, .slice none 0 0, .slice none 0 0, .slice none 0 0] 32)).alloc (.cells cs 32)) := by
  have key : ∀ {W : World} {b : Nat} {o : Obj}, W.heap.size = b → (W.alloc o).heap[b]? = some o := fun h => by rw [← h]; exact heap_alloc_new _ _
  refine ⟨((below_new _).alloc (by simp) _).alloc (by simp; omega) _, ?_, ?_, key (by simp)⟩
  · rw [(below_new _).block _ (by simp; omega), (below_new _).block _ (by simp)]; exact heap_alloc_new _ _
  · rw [(below_new _).block _ (by simp)]; exact key (by simp)
end
theorem heap_setOther {W : World} {b i g : Nat} {cs xs : Array Value} {t u : TypeId} {f f2 : Nat × Nat} (v : Value) (hb : W.heap[b]? = some (.cells cs t f)) (hg : W.heap[g]? = some (.cells xs u f2)) (hne : u ≠ t) : (W.setCell ⟨b, i, none⟩ v).heap[g]? = W.heap[g]? :=
  Below.heap_setCell _ _ _ _ (fun e => by have e' : g = b := e; rw [e', hb] at hg; cases hg; exact hne rfl)
structure CopR (w W : World) (c : Cd) (g1 g2 g3 g4 r : Nat) : Prop where
  cop : CopAt W c g1 g2 g3 g4
  low : Below w.heap.size w W
  le : w.heap.size ≤ r
  box : ∃ zs, W.heap[r]? = some (.cells zs 32 (0, 0))
theorem CopR.set {w W : World} {c : Cd} {g1 g2 g3 g4 r : Nat} (h : CopR w W c g1 g2 g3 g4 r) (i : Nat) (v : Value) : CopR w (W.setCell ⟨r, i, none⟩ v) c g1 g2 g3 g4 r := by
  obtain ⟨hc, hl, hle, zs, hz⟩ := h
  refine ⟨⟨?_, ?_, ?_, ?_⟩, hl.setCell (p := ⟨r, i, none⟩) hle v, hle, _, heap_setCell_same _ _ _ _ _ _ hz⟩
  · rw [heap_setOther _ hz hc.t (by decide)]; exact hc.t
  · rw [heap_setOther _ hz hc.k (by decide)]; exact hc.k
  · rw [heap_setOther _ hz hc.i (by decide)]; exact hc.i
  · rw [heap_setOther _ hz hc.r (by decide)]; exact hc.r
theorem row_next {W W2 : World} {g : Nat} {o : Obj} (h : W.heap[g]? = some o) (hb : Below W.heap.size W W2) : W2.heap[g]? = some o := by rw [hb.block _ (lt_block h)]; exact h
theorem info35 : (Try.prog.info? 61).map (fun i => (i.zero, i.size, i.bytes)) = some (some (.agg #[.int .i64 0, .int .i64 0, .int .i64 0, .int .i64 0]), 4, 32) := by kernel_rfl
theorem info42 : (Try.prog.info? 86).map (fun i => (i.zero, i.size, i.bytes)) = some (some (.agg #[.int .i64 0, .int .i64 0, .int .i64 0, .int .i64 0]), 4, 32) := by kernel_rfl

end Go.Proofs.Ytnkfibahkmmnpaa
