/-
  How many instructions are gone through.
-/
import Derived.Test.YtnkfibahkmmnpaaGreatKc
namespace Go.Proofs.YtnkfibahkmmnpaaGreat
open Go.RowKit

def rowN (c : Cd) (y : List Int) (i : Nat) : Nat := ((rowHi c y i) + 1 - (rowLo c i : Int)).toNat
def cntTo (c : Cd) (y : List Int) : Nat → Nat
  | 0 => 0
  | i + 1 => cntTo c y i + rowN c y i
theorem cells_len (c : Cd) (y : List Int) : ∀ n : Nat, ((List.range n).flatMap fun i => ((List.range (y.length + 1)).filter fun j => inBd c i j).map fun j => (i, j)).length = cntTo c y n
  | 0 => rfl
  | n + 1 => by
    rw [show List.range (n + 1) = List.range n ++ [n] from List.range_succ, List.flatMap_append, List.length_append, cells_len c y n]
    show _ = cntTo c y n + rowN c y n
    congr 1
    simp only [List.flatMap_cons, List.flatMap_nil, List.append_nil, List.length_map]
    rw [← row_cells, List.length_range']
    rfl
theorem wrap_add (a b : Int) : wrap64 (wrap64 a + b) = wrap64 (a + b) := by unfold wrap64; omega
theorem acts_steps (c : Cd) (x y : List Int) (i j : Nat) : ∀ (l : List Qd) (M : Ms), (l.foldl (actB c x y i j) M).steps = M.steps
  | [], _ => rfl
  | q :: l, M => by
    rw [List.foldl_cons, acts_steps c x y i j l]
    unfold actB
    split
    · rfl
    split
    · rfl
    split
    · rfl
    split
    · rfl
    split
    · show (if i = 0 ∨ j = 0 then _ else _ : Ms).steps = _
      split <;> rfl
    split
    · rfl
    split
    · rfl
    · show (if _ then _ else M : Ms).steps = _
      split <;> rfl
theorem run_steps (c : Cd) (x y : List Int) : (runM c x y).steps = wrap64 ((cntTo c y (x.length + 1) : Int) * (c.cell.length : Int)) := by
  have hl : (cellsL c x.length y.length).length = cntTo c y (x.length + 1) := cells_len c y (x.length + 1)
  rw [← hl, runM_cells]
  refine cells_ind c x.length y.length (fun M p => cellM c x y p.1 p.2 M) ms0 (fun pre M => M.steps = wrap64 ((pre.length : Int) * (c.cell.length : Int))) (by show (0 : Int) = wrap64 (((0 : Nat) : Int) * _); rw [show ((0 : Nat) : Int) = 0 from rfl, Int.zero_mul]; unfold wrap64; omega) ?_
  intro pre i j M _ _ _ _ h
  show wrap64 ((c.cell.foldl (actB c x y i j) M).steps + (c.cell.length : Int)) = _
  rw [acts_steps, h, wrap_add, List.length_append]
  congr 1
  show _ = (((pre.length + 1 : Nat)) : Int) * _
  rw [Int.natCast_add, Int.add_mul]
  simp
theorem rowN_le (c : Cd) (y : List Int) (i : Nat) : rowN c y i ≤ y.length + 1 := by
  unfold rowN rowHi rowLo
  omega
theorem cnt_le (c : Cd) (y : List Int) : ∀ n : Nat, cntTo c y n ≤ n * (y.length + 1)
  | 0 => by simp [cntTo]
  | n + 1 => by
    have h1 := cnt_le c y n
    have h2 := rowN_le c y n
    show cntTo c y n + rowN c y n ≤ _
    rw [Nat.add_mul, Nat.one_mul]
    omega
theorem cnt_mono (c : Cd) (y : List Int) (i k : Nat) : cntTo c y i ≤ cntTo c y (i + k) := by
  induction k with
  | zero => exact Nat.le_refl _
  | succ k ih => show _ ≤ cntTo c y (i + k) + rowN c y (i + k); omega
/-- Small enough. -/
theorem run_steps_small {c : Cd} {x y : List Int} (h : (x.length + 1) * (y.length + 1) ≤ 1048576) (hc : c.cell.length ≤ 1000) : (runM c x y).steps = (cntTo c y (x.length + 1) : Int) * (c.cell.length : Int) := by
  rw [run_steps]
  have h1 := Nat.le_trans (cnt_le c y (x.length + 1)) h
  have h2 : cntTo c y (x.length + 1) * c.cell.length ≤ 1048576 * 1000 := Nat.mul_le_mul h1 hc
  have h3 : ((cntTo c y (x.length + 1) : Int) * (c.cell.length : Int)) = ((cntTo c y (x.length + 1) * c.cell.length : Nat) : Int) := by rw [Int.natCast_mul]
  rw [h3]
  generalize cntTo c y (x.length + 1) * c.cell.length = q at *
  unfold wrap64
  omega
end Go.Proofs.YtnkfibahkmmnpaaGreat
