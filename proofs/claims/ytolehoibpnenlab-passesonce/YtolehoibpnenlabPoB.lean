/-
  Lists that are done at their head; rows of bools.
-/
import Derived.Test.YtolehoibpnenlabPsH
import Derived.Test.YtolehoibpnenlabMq
import Derived.Test.YtolehoibpnenlabPsU
namespace Go.Proofs.Ytolehoibpnenlab
open Go.RowKit Go.Deep Go.Maps

/-- Lists of which the head is done. -/
def parL {α : Type} (f : α → α) (l : List α) (i : Nat) : List α := (l.take i).map f ++ l.drop i
theorem parL_zero {α : Type} (f : α → α) (l : List α) : parL f l 0 = l := by simp [parL]
theorem parL_all {α : Type} (f : α → α) (l : List α) {i : Nat} (h : l.length ≤ i) : parL f l i = l.map f := by simp [parL, List.take_of_length_le h, List.drop_eq_nil_of_le h]
theorem parL_len {α : Type} (f : α → α) (l : List α) (i : Nat) : (parL f l i).length = l.length := by simp [parL]; omega
theorem parL_get {α : Type} (f : α → α) (l : List α) (i : Nat) {a : α} (h : l[i]? = some a) : (parL f l i)[i]? = some a := by
  have hl := (List.getElem?_eq_some_iff.1 h).1
  rw [parL, List.getElem?_append_right (by simp; omega)]
  simp [Nat.min_eq_left (Nat.le_of_lt hl), h]
theorem parL_set {α : Type} (f : α → α) (l : List α) (i : Nat) {a : α} (h : l[i]? = some a) : (parL f l i).set i (f a) = parL f l (i + 1) := by
  obtain ⟨hl, e⟩ := List.getElem?_eq_some_iff.1 h
  rw [parL, parL, List.take_succ_eq_append_getElem hl, e, List.drop_eq_getElem_cons hl, e]
  simp [Nat.min_eq_left (Nat.le_of_lt hl)]
theorem parL_same {α : Type} (f : α → α) (l : List α) (i : Nat) {a : α} (h : l[i]? = some a) (hf : f a = a) : parL f l (i + 1) = parL f l i := by
  rw [← parL_set f l i h, hf]
  obtain ⟨hl, e⟩ := List.getElem?_eq_some_iff.1 (parL_get f l i h)
  rw [← e]
  exact List.set_getElem_self hl
def blRow (f : List Bool) : List Value := f.map .bool
theorem blRow_get (f : List Bool) {j : Nat} (h : j < f.length) : (blRow f)[j]? = some (.bool (f.getD j false)) := by
  rw [blRow, List.getElem?_map, List.getD_eq_getElem?_getD, List.getElem?_eq_getElem h]
  rfl
theorem info4b : (Try.prog.info? 4).map (fun i => (i.zero, i.size, i.bytes)) = some (some (.bool false), 1, 1) := by kernel_rfl
theorem made_bl (n : Nat) : (madeCells (Value.bool false).cells (n * 1)).toList = blRow (List.replicate n false) := by
  simp [madeCells, Value.cells, blRow, Nat.mod_one, List.eq_replicate_iff]
end Go.Proofs.Ytolehoibpnenlab
