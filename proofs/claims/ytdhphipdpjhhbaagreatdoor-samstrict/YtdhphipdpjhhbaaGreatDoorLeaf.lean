/-
  The walks of isColumn, isOp.
-/
import Derived.Test.YtdhphipdpjhhbaaGreatDoorMem
namespace Go.Proofs.YtdhphipdpjhhbaaGreatDoor
open Go.RowKit

def isColI (x : Int) : Bool := x == 77 || (x == 68 || x == 73)
def isOpI (x : Int) : Bool := isColI x || x == 83
theorem eq_nat (c : UInt8) (n : Nat) (h : n < 256) : ((c.toNat : Int) == (n : Int)) = (c == UInt8.ofNat n) := by
  rw [Bool.eq_iff_iff]
  simp only [beq_iff_eq]
  constructor
  · intro e
    apply UInt8.toNat_inj.1
    rw [UInt8.toNat_ofNat', Nat.mod_eq_of_lt h]
    omega
  · rintro rfl
    rw [UInt8.toNat_ofNat', Nat.mod_eq_of_lt h]
theorem isColI_byte (c : UInt8) : isColI (c.toNat : Int) = isColB c := by
  unfold isColI isColB
  rw [show (77 : Int) = ((77 : Nat) : Int) from rfl, show (68 : Int) = ((68 : Nat) : Int) from rfl, show (73 : Int) = ((73 : Nat) : Int) from rfl, eq_nat c 77 (by decide), eq_nat c 68 (by decide), eq_nat c 73 (by decide)]
  rfl
theorem isOpI_byte (c : UInt8) : isOpI (c.toNat : Int) = isOpB c := by
  unfold isOpI isOpB
  rw [isColI_byte, show (83 : Int) = ((83 : Nat) : Int) from rfl, eq_nat c 83 (by decide)]
  rfl
theorem isColumn_calls (x : Int) (w : World) :
    Calls Tryz.prog 119 #[.int .i32 x] w fun e w' => e = .returned (.bool (isColI x)) ∧ w' = w := by
  go_enter Tryz.func119, Tryz.ntmps119
  go_wp2
  all_goals (go_ret; exact ⟨ret_bool (by simp_all [isColI, Bool.or_assoc]), rfl⟩)
theorem isOp_calls (x : Int) (w : World) :
    Calls Tryz.prog 100 #[.int .i32 x] w fun e w' => e = .returned (.bool (isOpI x)) ∧ w' = w := by
  have HN : Hid (isOpI x = (isColI x || x == 83)) := rfl
  have HC : Hid (∀ w, Calls Tryz.prog 119 #[.int .i32 x] w fun e w' => e = .returned (.bool (isColI x)) ∧ w' = w) := fun w => isColumn_calls x w
  generalize isOpI x = O at *
  generalize isColI x = C at *
  go_enter Tryz.func100, Tryz.ntmps100
  go_wp2_with (go_at_call 119; refine (HC.out _).mono ?_; rintro e w' ⟨rfl, rfl⟩)
  all_goals (go_ret; refine ⟨ret_bool ?_, rfl⟩; rw [HN.out]; clear HN HC; simp_all)


/-- What a function that grows an owned row of runs leaves. -/
def Grew (B : Nat) (l : List Rn) (w : World) (e : Ending) (w' : World) : Prop :=
  ∃ v, e = .returned v ∧ w'.ownsRow B 37 2 v l.length (rowCells l) ∧ Below B w w'

theorem below_append {B n : Nat} {e : TypeId} {size : Nat} {v : Value} {xs : List Value} {w w3 : World} (hown : w.ownsRow B e size v n xs) (hB : B ≤ w.heap.size) {o : Obj} (hg : (w.alloc o).grownBy w3 v.ownBlock) : Below B w w3 :=
  Below.grown ((Below.refl _ _).alloc hB o) hg (by simp; omega) (fun j hj => (hown.lt _ hj).1)
theorem grew_append {B n : Nat} {v v' : Value} {l : List Rn} {r : Rn} {w w3 : World} (hown : w.ownsRow B 37 2 v n (rowCells l)) (hB : B ≤ w.heap.size) (hn : l.length = n) {o : Obj}
    (h : w3.ownsRow B 37 2 v' (n + 1) (rowCells l ++ rnCells r)) (hg : (w.alloc o).grownBy w3 v.ownBlock) : Grew B (l ++ [r]) w (.returned v') w3 := by
  refine ⟨v', rfl, ?_, below_append hown hB hg⟩
  rw [rowCells_snoc, List.length_append, hn]
  exact h

end Go.Proofs.YtdhphipdpjhhbaaGreatDoor
