/-
  The walk of the document's Widest.
-/
import Derived.Test.YtegndeefddlccabBdE
namespace Go.Proofs.Ytegndeefddlccab
open Go.RowKit

theorem max3' (ts : Array TypeId) (t : TypeId) (a b c : Int) (W : World) : (Builtin.max_ ts t #[.int .i64 a, .int .i64 b, .int .i64 c]).run Try.prog W = .ok (.int .i64 (max (max a b) c)) W := by
  rw [Go.run_max_int3]
  congr 2
  split <;> split <;> omega
theorem max2' (ts : Array TypeId) (t : TypeId) (a b : Int) (W : World) : (Builtin.max_ ts t #[.int .i64 a, .int .i64 b]).run Try.prog W = .ok (.int .i64 (max a b)) W := by
  rw [Go.run_max_int2]
  congr 2
  split <;> omega
theorem max2w (ts : Array TypeId) (t : TypeId) (v a x : Int) (W : World) : (Builtin.max_ ts t #[.int .i64 v, .int .i64 (a + x)]).run Try.prog W = .ok (.int .i64 (max v (a + x))) W := max2' ..

/-- How far the first loop has come: the widest of the first ends, and of so many numbers. -/
def widS (m : Md) (k : Nat) : Int := max (max (max 1 m.front) m.back) (widN (m.subst.take k))
theorem widS_snoc (m : Md) (k : Nat) (h : k < m.subst.length) : widS m (k + 1) = wmax (widS m k) (m.subst.getD k 0) := by
  unfold widS
  rw [take_snocD _ _ _ (getD_some h), widN_snoc]
  unfold wmax
  omega
theorem widS_zero (m : Md) : widS m 0 = max (max 1 m.front) m.back := by
  unfold widS
  show max _ (0 : Int) = _
  omega

end Go.Proofs.Ytegndeefddlccab
