/-
  A definition is laid down: lay.
-/
import Derived.Test.YtolehoibpnenlabCkM2
import Derived.Deep.DeepCutAuto
namespace Go.Proofs.Ytolehoibpnenlab
open Go.RowKit Go.Deep Go.Maps
theorem wpost_parts {r : Int} {w : World} {e : Ending} {w' : World} (h : WPost r w e w') : ∃ v, e = .returned (.tuple #[.int .i64 v, .bool (inB maxV r)]) ∧ (inB maxV r = true → v = r) ∧ Below w.heap.size w w' := by
  obtain ⟨⟨v, h1, h2⟩, h3⟩ := h
  exact ⟨v, h1, h2, h3⟩
section
variable {w W W' : World} {O0 O : Nat → Prop} {b : Nat} {d : Df}
end
theorem info3 : (Try.prog.info? 3).map (fun i => (i.zero, i.size, i.bytes)) = some (some (.int .i64 0), 1, 8) := by kernel_rfl
theorem cells_new (W : World) (l : List Value) (ty : TypeId) : ∀ (i : Nat) (u : Value), l[i]? = some u → (W.alloc (.cells l.toArray ty)).cell? ((⟨W.heap.size, 0, none⟩ : Addr).add i) = some u := by
  intro i u hu
  have hadd : (⟨W.heap.size, 0, none⟩ : Addr).add i = ⟨W.heap.size, i, none⟩ := by unfold Addr.add; split <;> simp_all
  rw [hadd, cell_of_row _ W.heap.size i _ ty (0, 0) (heap_alloc_new W _)]
  simpa using hu
theorem it_new (W : World) (z : Int) : ∀ (i : Nat) (u : Value), [Value.int .i64 z][i]? = some u → (W.alloc (.cells #[.int .i64 z] 3)).cell? ((⟨W.heap.size, 0, none⟩ : Addr).add i) = some u := cells_new W [.int .i64 z] 3
theorem df_one (d : Df) : ∀ u ∈ dfCells d, u.oneCell' = true := by
  intro u hu
  simp [dfCells] at hu
  rcases hu with rfl | rfl | rfl | rfl <;> rfl
theorem it_one (z : Int) : ∀ u ∈ [Value.int .i64 z], u.oneCell' = true := by
  intro u hu
  simp at hu
  subst hu; rfl
end Go.Proofs.Ytolehoibpnenlab
