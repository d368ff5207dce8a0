/-
  The walk of weighs.
-/
import Derived.Test.YtnkfibahkmmnpaaGreatKl
namespace Go.Proofs.YtnkfibahkmmnpaaGreat
open Go.RowKit

theorem qds_new {w : World} {g : Nat} {l : List Qd} {cs : Array Value} {t : TypeId} {f : Nat × Nat} (h : w.heap[g]? = some (.cells cs t f)) (hc : cs = (qdVals l).toArray) (hs : l.length ≤ maxLen) : QdsAt w (some ⟨g, 0, none⟩) l.length l := by
  refine ⟨rfl, hs, fun _ => ⟨g, 0, rfl, fun i q hi => ?_⟩⟩
  have key : ∀ j u, (qdCells q)[j]? = some u → w.cell? ⟨g, i * 4 + j, none⟩ = some u := fun j u hu => by
    refine cell_block h _ _ ?_
    subst hc
    show (qdVals l).toArray[i * 4 + j]? = some u
    rw [List.getElem?_toArray]
    exact flat_get qd_len l i q j u hi hu
  simp only [Nat.zero_add]
  exact ⟨key 0 _ rfl, key 1 _ rfl, key 2 _ rfl, key 3 _ rfl⟩

end Go.Proofs.YtnkfibahkmmnpaaGreat
