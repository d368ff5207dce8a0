/-
  What was said so far in memory: the checker's block, its rows, the names; a world that is as it was but for some blocks. The checker's block and its rows: what a store, an append leaves of them; what may be said so far. A definition is laid down: lay.
-/
import Derived.ArgAppend
import Derived.Maps.OwnSet
import Derived.StringKeys
import Derived.Deep.DeepCutAuto
import Derived.Test.YtolehoibpnenlabMa
import Derived.Test.YtolehoibpnenlabCkB
namespace Go.Proofs.Ytolehoibpnenlab
open Go.RowKit Go.Deep Go.Maps
def dfCells (d : Df) : List Value := [.int .i64 d.op, .int .i64 d.num, .int .i64 d.a, .int .i64 d.b]
def dfRow (l : List Df) : List Value := l.flatMap dfCells
def itRow (l : List Int) : List Value := l.map (.int .i64 ·)
def pcCells (p : Int × Int) : List Value := [.int .i64 p.1, .int .i64 p.2]
def pcRow (l : List (Int × Int)) : List Value := l.flatMap pcCells
theorem itRow_snoc (l : List Int) (d : Int) : itRow (l ++ [d]) = itRow l ++ [.int .i64 d] := by simp [itRow]
end Go.Proofs.Ytolehoibpnenlab
namespace Go.Proofs.Ytolehoibpnenlab
open Go.RowKit Go.Deep Go.Maps
section
variable {O : Nat → Prop} {b : Nat} {w w' : World}
theorem own_isI {base : Nat} {v : Value} {l : List Int} (h : w.ownsRow base 3 1 v l.length (itRow l)) : ∃ ao cap, v = .slice ao l.length cap ∧ IsI w ao l := by
  obtain ⟨ao, cap, rfl⟩ := owned_shape h
  refine ⟨ao, cap, rfl, fun i z hi => ?_⟩
  have hlt : i < l.length := (List.getElem?_eq_some_iff.1 hi).1
  obtain ⟨g, cap', e, _⟩ := owned_some h (by omega)
  cases e
  refine ⟨g, 0, rfl, ?_⟩
  rw [Nat.zero_add]
  exact (owned_cells h i _ (by simp [itRow, hi])).1
end
section
variable {O : Nat → Prop} {b : Nat} {w : World}
end
end Go.Proofs.Ytolehoibpnenlab
namespace Go.Proofs.Ytolehoibpnenlab
open Go.RowKit Go.Deep Go.Maps
theorem wpost_parts {r : Int} {w : World} {e : Ending} {w' : World} (h : WPost r w e w') : ∃ v, e = .returned (.tuple #[.int .i64 v, .bool (inB maxV r)]) ∧ (inB maxV r = true → v = r) ∧ Below w.heap.size w w' := by
  obtain ⟨⟨v, h1, h2⟩, h3⟩ := h
  exact ⟨v, h1, h2, h3⟩
section
variable {w W W' : World} {O0 O : Nat → Prop} {b : Nat} {d : Df}
end
theorem info3 : (Try.prog.info? 3).map (fun i => (i.zero, i.size, i.bytes)) = some (some (.int .i64 0), 1, 8) := by kernel_rfl
theorem cells_new (W : World) (l : List Value) (ty : TypeId) : ∀ (i : Nat) (u : Value), l[i]? = some u → (W.alloc (.cells l.toArray ty)).cell? ((⟨W.heap.size, 0, none⟩ : Addr).add i) = some u := by
  intro i u hu
  have hadd : (⟨W.heap.size, 0, none⟩ : Addr).add i = ⟨W.heap.size, i, none⟩ := by unfold Addr.add; split <;> simp_all
  rw [hadd, cell_of_row _ W.heap.size i _ ty (0, 0) (heap_alloc_new W _)]
  simpa using hu
theorem it_new (W : World) (z : Int) : ∀ (i : Nat) (u : Value), [Value.int .i64 z][i]? = some u → (W.alloc (.cells #[.int .i64 z] 3)).cell? ((⟨W.heap.size, 0, none⟩ : Addr).add i) = some u := cells_new W [.int .i64 z] 3
theorem df_one (d : Df) : ∀ u ∈ dfCells d, u.oneCell' = true := by
  intro u hu
  simp [dfCells] at hu
  rcases hu with rfl | rfl | rfl | rfl <;> rfl
theorem it_one (z : Int) : ∀ u ∈ [Value.int .i64 z], u.oneCell' = true := by
  intro u hu
  simp at hu
  subst hu; rfl
end Go.Proofs.Ytolehoibpnenlab
