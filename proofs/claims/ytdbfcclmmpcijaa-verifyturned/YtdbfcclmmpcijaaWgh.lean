/-
  The walk of weighs.
-/
import Derived.Test.YtdbfcclmmpcijaaRtB
namespace Go.Proofs.Ytdbfcclmmpcijaa
open Go.RowKit

theorem qds_new {w : World} {g : Nat} {l : List Qd} {cs : Array Value} {t : TypeId} {f : Nat × Nat} (h : w.heap[g]? = some (.cells cs t f)) (hc : cs = (qdVals l).toArray) (hs : l.length ≤ maxLen) : QdsAt w (some ⟨g, 0, none⟩) l.length l := by
  refine ⟨rfl, hs, fun _ => ⟨g, 0, rfl, fun i q hi => ?_⟩⟩
  have key : ∀ j u, (qdCells q)[j]? = some u → w.cell? ⟨g, i * 4 + j, none⟩ = some u := fun j u hu => by
    refine cell_block h _ _ ?_
    subst hc
    show (qdVals l).toArray[i * 4 + j]? = some u
    rw [List.getElem?_toArray]
    exact flat_get qd_len l i q j u hi hu
  simp only [Nat.zero_add]
  exact ⟨key 0 _ rfl, key 1 _ rfl, key 2 _ rfl, key 3 _ rfl⟩

set_option maxHeartbeats 1000000 in
theorem weighs_calls (c : Cd) (s : Ls) (w : World) (h : CdAt w c s) :
    Calls Try.prog 7 #[.agg (cdCells c s)] w fun e w' => (∃ z, e = .returned (.int .i64 z) ∧ (z ≤ 2147483647 → s.t.n ≤ 2147483647 ∧ s.k.n ≤ 2147483647 ∧ s.i.n ≤ 2147483647 ∧ s.r.n ≤ 2147483647)) ∧ Below w.heap.size w w' := by
  have h1 := h.table.short
  have h2 := h.consts.short
  have h3 := h.cell.short
  have h4 := h.arrows.short
  unfold maxLen at h1 h2 h3 h4
  clear h
  obtain ⟨⟨ta, tn, tc⟩, ⟨ka, kn, kc⟩, ⟨ia, n3, ic⟩, ⟨ra, rn, rc⟩⟩ := s
  simp only at h1 h2 h3 h4
  simp only [cdCells]
  by_cases a1 : 2147483647 < tn
  · have d1 : decide ((2147483647 : Int) < (tn : Int)) = true := by simp; omega
    go_enter Try.func7, Try.ntmps7
    go_wp2
    go_ret
    exact ⟨⟨_, rfl, fun h => by simp at h⟩, below_new _⟩
  have d1 : decide ((2147483647 : Int) < (tn : Int)) = false := by simp; omega
  by_cases a2 : 2147483647 < kn
  · have d2 : decide ((2147483647 : Int) < (kn : Int)) = true := by simp; omega
    go_enter Try.func7, Try.ntmps7
    go_wp2
    go_ret
    exact ⟨⟨_, rfl, fun h => by simp at h⟩, below_new _⟩
  have d2 : decide ((2147483647 : Int) < (kn : Int)) = false := by simp; omega
  by_cases a3 : 2147483647 < n3
  · have d3 : decide ((2147483647 : Int) < (n3 : Int)) = true := by simp; omega
    go_enter Try.func7, Try.ntmps7
    go_wp2
    go_ret
    exact ⟨⟨_, rfl, fun h => by simp at h⟩, below_new _⟩
  have d3 : decide ((2147483647 : Int) < (n3 : Int)) = false := by simp; omega
  by_cases a4 : 2147483647 < rn
  · have d4 : decide ((2147483647 : Int) < (rn : Int)) = true := by simp; omega
    go_enter Try.func7, Try.ntmps7
    go_wp2
    go_ret
    exact ⟨⟨_, rfl, fun h => by simp at h⟩, below_new _⟩
  have d4 : decide ((2147483647 : Int) < (rn : Int)) = false := by simp; omega
  go_enter Try.func7, Try.ntmps7
  go_wp2
  go_ret
  exact ⟨⟨_, rfl, fun _ => ⟨by omega, by omega, by omega, by omega⟩⟩, below_new _⟩
end Go.Proofs.Ytdbfcclmmpcijaa
