/-
  The eight cells of a record in a block of its own.
-/
import Derived.Test.YtdhphipdpjhhbaaGreatDoorReadF
namespace Go.Proofs.YtdhphipdpjhhbaaGreatDoor
open Go.RowKit

theorem cells8 {W : World} {k : Nat} {t : TypeId} {a0 a1 a2 a3 a4 a5 a6 a7 : Value} (h : W.heap[k]? = some (.cells #[a0, a1, a2, a3, a4, a5, a6, a7] t (0, 0))) :
    W.cell? ⟨k, 0, none⟩ = some a0 ∧ W.cell? ⟨k, 1, none⟩ = some a1 ∧ W.cell? ⟨k, 2, none⟩ = some a2 ∧ W.cell? ⟨k, 3, none⟩ = some a3 ∧ W.cell? ⟨k, 4, none⟩ = some a4 ∧ W.cell? ⟨k, 5, none⟩ = some a5 ∧ W.cell? ⟨k, 6, none⟩ = some a6 ∧ W.cell? ⟨k, 7, none⟩ = some a7 :=
  ⟨cellB h rfl, cellB h rfl, cellB h rfl, cellB h rfl, cellB h rfl, cellB h rfl, cellB h rfl, cellB h rfl⟩
theorem cells8n {W : World} {k : Nat} {t : TypeId} {a0 a1 a2 a3 a4 a5 a6 a7 : Value} (h : W.heap[k]? = some (.cells #[a0, a1, a2, a3, a4, a5, a6, a7] t (0, 0))) :
    (∀ o, (W.alloc o).cell? ⟨k, 0, none⟩ = some a0) ∧ (∀ o, (W.alloc o).cell? ⟨k, 1, none⟩ = some a1) ∧ (∀ o, (W.alloc o).cell? ⟨k, 2, none⟩ = some a2) ∧ (∀ o, (W.alloc o).cell? ⟨k, 3, none⟩ = some a3) ∧ (∀ o, (W.alloc o).cell? ⟨k, 4, none⟩ = some a4) ∧ (∀ o, (W.alloc o).cell? ⟨k, 5, none⟩ = some a5) ∧ (∀ o, (W.alloc o).cell? ⟨k, 6, none⟩ = some a6) ∧ (∀ o, (W.alloc o).cell? ⟨k, 7, none⟩ = some a7) := by
  have hk : ∀ o, (W.alloc o).heap[k]? = some (.cells #[a0, a1, a2, a3, a4, a5, a6, a7] t (0, 0)) := fun o => keepB h ((Below.refl _ W).alloc (Nat.le_refl _) o)
  exact ⟨fun o => cellB (hk o) rfl, fun o => cellB (hk o) rfl, fun o => cellB (hk o) rfl, fun o => cellB (hk o) rfl, fun o => cellB (hk o) rfl, fun o => cellB (hk o) rfl, fun o => cellB (hk o) rfl, fun o => cellB (hk o) rfl⟩
end Go.Proofs.YtdhphipdpjhhbaaGreatDoor
