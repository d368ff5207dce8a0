/-
  Rows in memory that are cut, or of which a part is laid anew.
-/
import Derived.Test.YtolehoibpnenlabPsB
import Derived.Lib.SliceRun
import Derived.Deep.RegionLaw
namespace Go.Proofs.Ytolehoibpnenlab
open Go.RowKit Go.Deep Go.Maps

theorem heap_setCells (g : Nat) (t : TypeId) : ∀ (vs : List Value) (o : Nat) (w : World) (cur : Array Value), w.heap[g]? = some (.cells cur t (0, 0)) →
    ∃ cur' : Array Value, (w.setCells g o vs).heap[g]? = some (.cells cur' t (0, 0)) ∧ cur'.size = cur.size ∧ (∀ j, j < o ∨ o + vs.length ≤ j → cur'[j]? = cur[j]?) ∧ (∀ j, j < vs.length → o + j < cur.size → cur'[o + j]? = vs[j]?)
  | [], _, _, cur, h => ⟨cur, h, rfl, fun _ _ => rfl, fun j hj => by simp at hj⟩
  | v :: r, o, w, cur, h => by
    obtain ⟨c', h1, h2, h3, h4⟩ := heap_setCells g t r (o + 1) (w.setCell ⟨g, o, none⟩ v) _ (heap_set v h)
    refine ⟨c', h1, by rw [h2]; simp, fun j hj => ?_, fun j hj hs => ?_⟩
    · simp at hj
      rw [h3 j (by omega), Array.getElem?_setIfInBounds_ne (by omega)]
    · cases j with
      | zero =>
        rw [h3 (o + 0) (by omega)]
        simp at hs
        simp [hs]
      | succ j =>
        rw [show o + (j + 1) = o + 1 + j by omega, h4 j (by simpa using hj) (by simp; omega)]
        rfl
theorem grown_refl (w : World) (r : Option Nat) : w.grownBy w r := ⟨rfl, rfl, rfl, Nat.le_refl _, fun _ _ _ => rfl⟩
theorem grown_setCells (g : Nat) : ∀ (vs : List Value) (o : Nat) (w : World), w.grownBy (w.setCells g o vs) (some g)
  | [], _, w => grown_refl w _
  | v :: r, o, w => grown_trans (grown_set w g o v) (grown_setCells g r (o + 1) _)
/-- A row is cut, and what lies behind it is written. -/
theorem own_cut {w : World} {base : Nat} {e : TypeId} {size g n cap : Nat} {xs : List Value} (h : w.ownsRow base e size (.slice (some ⟨g, 0, none⟩) n cap) n xs) (m o : Nat) (vs : List Value) (hm : m ≤ n) (ho : m * size ≤ o) :
    (w.setCells g o vs).ownsRow base e size (.slice (some ⟨g, 0, none⟩) m cap) m (xs.take (m * size)) := by
  have hms : m * size ≤ n * size := Nat.mul_le_mul_right _ hm
  refine ⟨by rw [List.length_take, h.1]; omega, ?_⟩
  rcases h.2 with ⟨hv, _⟩ | ⟨g', cap', cur, hv, hb, hg, h1, h2, h3, h4⟩
  · cases hv
  · cases hv
    obtain ⟨c', k1, k2, k3, _⟩ := heap_setCells g e vs o w cur hg
    refine .inr ⟨g, cap, c', rfl, hb, k1, by omega, h2, by rw [k2, h3], ?_⟩
    rw [← h4, List.take_take, Nat.min_eq_left hms]
    apply List.ext_getElem?
    intro j
    by_cases hj : j < m * size
    · rw [List.getElem?_take_of_lt hj, List.getElem?_take_of_lt hj, Array.getElem?_toList, Array.getElem?_toList, k3 j (by omega)]
    · rw [List.getElem?_take_eq_none (by omega), List.getElem?_take_eq_none (by omega)]
/-- The end of a row is laid anew. -/
theorem own_lay {w : World} {base : Nat} {e : TypeId} {size g n cap : Nat} {xs : List Value} (h : w.ownsRow base e size (.slice (some ⟨g, 0, none⟩) n cap) n xs) (i m : Nat) (vs : List Value) (hv : i * size + vs.length = m * size) (hi : i ≤ n) (hm : m ≤ cap) :
    (w.setCells g (i * size) vs).ownsRow base e size (.slice (some ⟨g, 0, none⟩) m cap) m (xs.take (i * size) ++ vs) := by
  have his : i * size ≤ n * size := Nat.mul_le_mul_right _ hi
  have hmc : m * size ≤ cap * size := Nat.mul_le_mul_right _ hm
  have hxl := h.1
  refine ⟨by rw [List.length_append, List.length_take, hxl]; omega, ?_⟩
  rcases h.2 with ⟨hv', _⟩ | ⟨g', cap', cur, hv', hb, hg, h1, h2, h3, h4⟩
  · cases hv'
  · cases hv'
    obtain ⟨c', k1, k2, k3, k4⟩ := heap_setCells g e vs (i * size) w cur hg
    refine .inr ⟨g, cap, c', rfl, hb, k1, hm, h2, by rw [k2, h3], ?_⟩
    apply List.ext_getElem?
    intro j
    have hl : (xs.take (i * size)).length = i * size := by rw [List.length_take, hxl]; omega
    by_cases hj : j < i * size
    · rw [List.getElem?_take_of_lt (by omega), Array.getElem?_toList, k3 j (by omega), List.getElem?_append_left (by omega), List.getElem?_take_of_lt hj, ← h4, List.getElem?_take_of_lt (by omega), Array.getElem?_toList]
    · rw [List.getElem?_append_right (by omega), hl]
      by_cases hj2 : j < m * size
      · rw [List.getElem?_take_of_lt hj2, Array.getElem?_toList]
        have := k4 (j - i * size) (by omega) (by omega)
        rwa [show i * size + (j - i * size) = j by omega] at this
      · rw [List.getElem?_take_eq_none (by omega), List.getElem?_eq_none (by omega)]
theorem zero_one {z : Array Value} (h0 : 0 < z.size) (h : ∀ u ∈ z, u.oneCell' = true) (n : Nat) : ∀ u ∈ (Builtin.zeroCells z n).toList, u.oneCell' = true := fun u hu => by
  simp only [Builtin.zeroCells, Array.toList_map, List.mem_map] at hu
  obtain ⟨i, _, rfl⟩ := hu
  have hlt := Nat.mod_lt i h0
  rw [getElem!_pos z _ hlt]
  exact h _ (Array.getElem_mem _)
/-- 'clear(s)' on a slice of elements of several cells. -/
theorem run_clear_cells {P : Program} (w : World) (t e ty : TypeId) (z : Value) (ht : P.underlying t = some (.slice e)) (hv : ∀ w, (zeroValue e).run P w = .ok z w) (size : Nat) (hz : z.cells.size = size) (h0 : 0 < size) (h1 : ∀ u ∈ z.cells, u.oneCell' = true) (b o n c : Nat) (hn : 0 < n)
    (hc : ∀ j, j < n * size → (w.cell? ⟨b, o + j, none⟩).isSome = true) (hf : ∀ j, j < n * size → w.frozen? ⟨b, o + j, none⟩ = false) :
    (Builtin.clear_ #[t] ty #[.slice (some ⟨b, o, none⟩) n c]).run P w = .ok (.tuple #[]) (w.setCells b o (Builtin.zeroCells z.cells n).toList) := by
  have hl : (Builtin.zeroCells z.cells n).toList.length = n * size := by rw [Array.length_toList, size_zeroCells, hz]
  have hst := run_storeCells_cells (P := P) b o (Builtin.zeroCells z.cells n).toList 0 w (by rw [hl]; simpa using hc) (by rw [hl]; simpa using hf) (zero_one (by omega) h1 n)
  simp only [Nat.add_zero] at hst
  obtain ⟨m, rfl⟩ : ∃ m, n = m + 1 := ⟨n - 1, by omega⟩
  simp [Builtin.clear_, run_underlying ht, hv, hst]
/-- Cells of a row's block, as far as its capacity goes. -/
theorem own_there {w : World} {base : Nat} {e : TypeId} {size g n cap : Nat} {xs : List Value} (h : w.ownsRow base e size (.slice (some ⟨g, 0, none⟩) n cap) n xs) : n ≤ cap ∧ cap ≤ maxLen ∧ ∀ j, j < cap * size → (w.cell? ⟨g, j, none⟩).isSome = true ∧ w.frozen? ⟨g, j, none⟩ = false := by
  rcases h.2 with ⟨hv, _⟩ | ⟨g', cap', cur, hv, hb, hg, h1, h2, h3, h4⟩
  · cases hv
  · cases hv
    refine ⟨h1, h2, fun j hj => ⟨?_, frozen_of_row w g j _ _ hg⟩⟩
    rw [blk hg (Array.getElem?_eq_getElem (by omega))]
    rfl
end Go.Proofs.Ytolehoibpnenlab
