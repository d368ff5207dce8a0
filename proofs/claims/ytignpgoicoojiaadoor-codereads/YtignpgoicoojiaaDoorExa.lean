/-
  The walks of example and weighs.
-/
import Derived.Test.YtignpgoicoojiaaDoorRtB
namespace Go.Proofs.YtignpgoicoojiaaDoor
open Go.RowKit

def exC : Cd := ⟨2, 1, 1, 0, 0, 5, [1, -1, -1, 1], [0], [(2, 0, 0, 3), (7, 0, 0, 0), (8, 0, 0, 3)], []⟩
theorem qds_new {w : World} {g : Nat} {l : List Qd} {cs : Array Value} {t : TypeId} {f : Nat × Nat} (h : w.heap[g]? = some (.cells cs t f)) (hc : cs = (qdVals l).toArray) (hs : l.length ≤ maxLen) : QdsAt w (some ⟨g, 0, none⟩) l.length l := by
  refine ⟨rfl, hs, fun _ => ⟨g, 0, rfl, fun i q hi => ?_⟩⟩
  have key : ∀ j u, (qdCells q)[j]? = some u → w.cell? ⟨g, i * 4 + j, none⟩ = some u := fun j u hu => by
    refine cell_block h _ _ ?_
    subst hc
    show (qdVals l).toArray[i * 4 + j]? = some u
    rw [List.getElem?_toArray]
    exact flat_get qd_len l i q j u hi hu
  simp only [Nat.zero_add]
  exact ⟨key 0 _ rfl, key 1 _ rfl, key 2 _ rfl, key 3 _ rfl⟩

theorem ex_at (w : World) (o : Obj) : CdAt ((((w.alloc o).alloc (.cells #[.int .i64 1, .int .i64 (-1), .int .i64 (-1), .int .i64 1] 3)).alloc (.cells #[.int .i64 0] 3)).alloc (.cells #[.int .i64 2, .int .i64 0, .int .i64 0, .int .i64 3, .int .i64 7, .int .i64 0, .int .i64 0, .int .i64 0, .int .i64 8, .int .i64 0, .int .i64 0, .int .i64 3] 38)) exC ⟨⟨some ⟨w.heap.size + 1, 0, none⟩, 4, 4⟩, ⟨some ⟨w.heap.size + 1 + 1, 0, none⟩, 1, 1⟩, ⟨some ⟨w.heap.size + 1 + 1 + 1, 0, none⟩, 3, 3⟩, ⟨none, 0, 0⟩⟩ := by
  refine ⟨?_, ?_, ?_, QdsAt.nil _ _⟩
  · refine ints_new (zs := [1, -1, -1, 1]) (cs := #[.int .i64 1, .int .i64 (-1), .int .i64 (-1), .int .i64 1]) (t := 3) (f := (0, 0)) ?_ rfl (by unfold maxLen; simp)
    rw [(below_new _).block _ (by simp), (below_new _).block _ (by simp), show w.heap.size + 1 = (w.alloc o).heap.size by simp, heap_alloc_new]
  · refine ints_new (zs := [0]) (cs := #[.int .i64 0]) (t := 3) (f := (0, 0)) ?_ rfl (by unfold maxLen; simp)
    rw [(below_new _).block _ (by simp), show w.heap.size + 1 + 1 = ((w.alloc o).alloc (.cells #[.int .i64 1, .int .i64 (-1), .int .i64 (-1), .int .i64 1] 3)).heap.size by simp, heap_alloc_new]
  · refine qds_new (l := [(2, 0, 0, 3), (7, 0, 0, 0), (8, 0, 0, 3)]) (cs := #[.int .i64 2, .int .i64 0, .int .i64 0, .int .i64 3, .int .i64 7, .int .i64 0, .int .i64 0, .int .i64 0, .int .i64 8, .int .i64 0, .int .i64 0, .int .i64 3]) (t := 38) (f := (0, 0)) ?_ rfl (by unfold maxLen; simp)
    rw [show w.heap.size + 1 + 1 + 1 = (((w.alloc o).alloc (.cells #[.int .i64 1, .int .i64 (-1), .int .i64 (-1), .int .i64 1] 3)).alloc (.cells #[.int .i64 0] 3)).heap.size by simp, heap_alloc_new]

set_option maxHeartbeats 1000000 in
theorem example_calls (w : World) : Calls Tryd.prog 22 #[] w fun e w' => ∃ s, e = .returned (.agg (cdCells exC s)) ∧ CdAt w' exC s ∧ Below w.heap.size w w' := by
  have hres : Tryd.f22.results = #[.cell 0 26] := by kernel_rfl
  go_enter Tryd.func22, Tryd.ntmps22
  go_wp2
  refine bodyPost_ret (v := .agg (cdCells exC ⟨⟨some ⟨w.heap.size + 1, 0, none⟩, 4, 4⟩, ⟨some ⟨w.heap.size + 2, 0, none⟩, 1, 1⟩, ⟨some ⟨w.heap.size + 3, 0, none⟩, 3, 3⟩, ⟨none, 0, 0⟩⟩)) ?_ rfl ⟨_, rfl, ?_, ?_⟩
  · simp only [results, hres]
    go_simp
    rfl
  · exact ex_at w _
  · exact (((below_new _).alloc (by simp) _).alloc (by simp; omega) _).alloc (by simp; omega) _

set_option maxHeartbeats 1000000 in
theorem weighs_calls (c : Cd) (s : Ls) (w : World) (h : CdAt w c s) :
    Calls Tryd.prog 9 #[.agg (cdCells c s)] w fun e w' => (∃ z, e = .returned (.int .i64 z) ∧ (z ≤ 2147483647 → s.t.n ≤ 2147483647 ∧ s.k.n ≤ 2147483647 ∧ s.i.n ≤ 2147483647 ∧ s.r.n ≤ 2147483647)) ∧ Below w.heap.size w w' := by
  have h1 := h.table.short
  have h2 := h.consts.short
  have h3 := h.cell.short
  have h4 := h.arrows.short
  unfold maxLen at h1 h2 h3 h4
  clear h
  obtain ⟨⟨ta, tn, tc⟩, ⟨ka, kn, kc⟩, ⟨ia, n3, ic⟩, ⟨ra, rn, rc⟩⟩ := s
  simp only at h1 h2 h3 h4
  simp only [cdCells]
  by_cases a1 : 2147483647 < tn
  · have d1 : decide ((2147483647 : Int) < (tn : Int)) = true := by simp; omega
    go_enter Tryd.func9, Tryd.ntmps9
    go_wp2
    go_ret
    exact ⟨⟨_, rfl, fun h => by simp at h⟩, below_new _⟩
  have d1 : decide ((2147483647 : Int) < (tn : Int)) = false := by simp; omega
  by_cases a2 : 2147483647 < kn
  · have d2 : decide ((2147483647 : Int) < (kn : Int)) = true := by simp; omega
    go_enter Tryd.func9, Tryd.ntmps9
    go_wp2
    go_ret
    exact ⟨⟨_, rfl, fun h => by simp at h⟩, below_new _⟩
  have d2 : decide ((2147483647 : Int) < (kn : Int)) = false := by simp; omega
  by_cases a3 : 2147483647 < n3
  · have d3 : decide ((2147483647 : Int) < (n3 : Int)) = true := by simp; omega
    go_enter Tryd.func9, Tryd.ntmps9
    go_wp2
    go_ret
    exact ⟨⟨_, rfl, fun h => by simp at h⟩, below_new _⟩
  have d3 : decide ((2147483647 : Int) < (n3 : Int)) = false := by simp; omega
  by_cases a4 : 2147483647 < rn
  · have d4 : decide ((2147483647 : Int) < (rn : Int)) = true := by simp; omega
    go_enter Tryd.func9, Tryd.ntmps9
    go_wp2
    go_ret
    exact ⟨⟨_, rfl, fun h => by simp at h⟩, below_new _⟩
  have d4 : decide ((2147483647 : Int) < (rn : Int)) = false := by simp; omega
  go_enter Tryd.func9, Tryd.ntmps9
  go_wp2
  go_ret
  exact ⟨⟨_, rfl, fun _ => ⟨by omega, by omega, by omega, by omega⟩⟩, below_new _⟩
end Go.Proofs.YtignpgoicoojiaaDoor
