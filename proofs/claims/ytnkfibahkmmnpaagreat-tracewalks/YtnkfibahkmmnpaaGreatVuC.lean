/-
  The walks of the statements' own example and awake.
-/
import Derived.Test.YtnkfibahkmmnpaaGreatKaa
import Derived.Test.YtnkfibahkmmnpaaGreatVrN
import Derived.Test.YtnkfibahkmmnpaaGreatKab
namespace Go.Proofs.YtnkfibahkmmnpaaGreat
open Go.RowKit

def exS (b : Nat) : Ls := ⟨⟨some ⟨b + 1, 0, none⟩, 4, 4⟩, ⟨some ⟨b + 2, 0, none⟩, 1, 1⟩, ⟨some ⟨b + 4, 0, none⟩, 10, 10⟩, ⟨some ⟨b + 3, 0, none⟩, 2, 2⟩⟩
/-- The example's rows, its instructions as told. -/
structure ExAt (w : World) (b : Nat) (l : List Qd) : Prop where
  t : w.heap[b + 1]? = some (.cells #[.int .i64 1, .int .i64 (-1), .int .i64 (-1), .int .i64 1] 3 (0, 0))
  k : w.heap[b + 2]? = some (.cells #[.int .i64 0] 3 (0, 0))
  r : w.heap[b + 3]? = some (.cells #[.int .i64 1, .int .i64 0, .int .i64 0, .int .i64 1, .int .i64 1, .int .i64 1, .int .i64 1, .int .i64 1] 79 (0, 0))
  i : w.heap[b + 4]? = some (.cells (qdVals l).toArray 65 (0, 0))
theorem ExAt.next {w w2 : World} {b : Nat} {l : List Qd} (h : ExAt w b l) (hb : Below w.heap.size w w2) : ExAt w2 b l :=
  ⟨by rw [hb.block _ (lt_block h.t)]; exact h.t, by rw [hb.block _ (lt_block h.k)]; exact h.k, by rw [hb.block _ (lt_block h.r)]; exact h.r, by rw [hb.block _ (lt_block h.i)]; exact h.i⟩
theorem ExAt.at' {w : World} {b : Nat} {l : List Qd} (h : ExAt w b l) (hl : l.length = 10) : CdAt w { exC with cell := l } (exS b) :=
  ⟨ints_new (zs := [1, -1, -1, 1]) h.t rfl (by unfold maxLen; simp), ints_new (zs := [0]) h.k rfl (by unfold maxLen; simp), by have := qds_new h.i rfl (by rw [hl]; unfold maxLen; omega); rw [hl] at this; exact this, qds_new (l := [(1, 0, 0, 1), (1, 1, 1, 1)]) h.r rfl (by unfold maxLen; simp)⟩
theorem ExAt.put {w : World} {b : Nat} {l l2 : List Qd} (h : ExAt w b l) (j : Nat) (v : Value) (he : (qdVals l).set j v = qdVals l2) : ExAt (w.setCell ⟨b + 4, j, none⟩ v) b l2 := by
  refine ⟨?_, ?_, ?_, ?_⟩
  · rw [Below.heap_setCell _ _ _ _ (by show b + 1 ≠ b + 4; omega)]; exact h.t
  · rw [Below.heap_setCell _ _ _ _ (by show b + 2 ≠ b + 4; omega)]; exact h.k
  · rw [Below.heap_setCell _ _ _ _ (by show b + 3 ≠ b + 4; omega)]; exact h.r
  · rw [heap_setCell_same _ _ _ _ _ _ h.i, ← he]; simp
theorem ExAt.cell {w : World} {b : Nat} {l : List Qd} (h : ExAt w b l) (j : Nat) (v : Value) (hv : (qdVals l)[j]? = some v) : w.cell? ⟨b + 4, j, none⟩ = some v := cell_block h.i j v (by simpa using hv)
set_option maxHeartbeats 1000000 in
theorem example_calls (w : World) : Calls Tryz.prog 10 #[] w fun e w' => e = .returned (.agg (cdCells exC (exS w.heap.size))) ∧ ExAt w' w.heap.size exC.cell ∧ Below w.heap.size w w' := by
  have hres : Tryz.f10.results = #[.cell 0 26] := by kernel_rfl
  go_enter Tryz.func10, Tryz.ntmps10
  go_wp2
  refine bodyPost_ret (v := .agg (cdCells exC (exS w.heap.size))) ?_ rfl ⟨rfl, ?_, ?_⟩
  · simp only [results, hres]
    go_simp
    rfl
  · have key : ∀ {W : World} {b : Nat} {o : Obj}, W.heap.size = b → (W.alloc o).heap[b]? = some o := fun h => by rw [← h]; exact heap_alloc_new _ _
    refine ⟨?_, ?_, ?_, ?_⟩
    · rw [(below_new _).block _ (by simp), (below_new _).block _ (by simp), (below_new _).block _ (by simp)]
      exact key (by simp)
    · rw [(below_new _).block _ (by simp), (below_new _).block _ (by simp)]
      exact key (by simp)
    · rw [(below_new _).block _ (by simp)]
      exact key (by simp)
    · exact key (by simp)
  · exact ((((below_new _).alloc (by simp) _).alloc (by simp; omega) _).alloc (by simp; omega) _).alloc (by simp; omega) _


/-- A box somewhere, and what was there ahead. -/
structure Bk (w wr : World) (g : Nat) (cs : Array Value) : Prop where
  low : Below w.heap.size w wr
  box : wr.heap[g]? = some (.cells cs 26 (0, 0))
theorem Bk.next {w wr w2 : World} {g : Nat} {cs : Array Value} (h : Bk w wr g cs) (hb : Below wr.heap.size wr w2) : Bk w w2 g cs :=
  ⟨h.low.trans (hb.mono h.low.size), by rw [hb.block _ (lt_block h.box)]; exact h.box⟩
theorem Bk.cell {w wr : World} {g : Nat} {cs : Array Value} (h : Bk w wr g cs) (i : Nat) (v : Value) (hv : cs[i]? = some v) : wr.cell? ⟨g, i, none⟩ = some v := cell_block h.box i v hv
theorem Bk.put {w wr : World} {g : Nat} {cs : Array Value} (h : Bk w wr g cs) {k : Nat} (hk : w.heap.size ≤ k) (hne : g ≠ k) (j : Nat) (v : Value) : Bk w (wr.setCell ⟨k, j, none⟩ v) g cs :=
  ⟨h.low.setCell (p := ⟨k, j, none⟩) hk v, by rw [Below.heap_setCell _ _ _ _ hne]; exact h.box⟩
theorem exd_eq : ({ exC with cell := exD.cell } : Cd) = exD := rfl
theorem below_alA {w W : World} (h : Below w.heap.size w W) (o : Obj) : Below w.heap.size w (W.alloc o) := h.alloc h.size o
theorem us_ex : usdB exC 4 = ([0, 1], 0) := by kernel_rfl
theorem no_at (w : World) : CdAt w noC ⟨⟨none, 0, 0⟩, ⟨none, 0, 0⟩, ⟨none, 0, 0⟩, ⟨none, 0, 0⟩⟩ := ⟨IntsAt.nil _ _, IntsAt.nil _ _, QdsAt.nil _ _, QdsAt.nil _ _⟩
end Go.Proofs.YtnkfibahkmmnpaaGreat
