/-
  The walk of the statements' own same.
-/
import Derived.Test.YtdhphipdpjhhbaaGreatDoorRight
namespace Go.Proofs.YtdhphipdpjhhbaaGreatDoor
open Go.RowKit

theorem drewN_add (w : World) (a b : Nat) : (w.drewN a).drewN b = w.drewN (a + b) := by
  induction b with
  | zero => rfl
  | succ b ih => show ((w.drewN a).drewN b).drew = (w.drewN (a + b)).drew; rw [ih]

theorem guard29 : Tryz.prog.eqGuardType Tryz.prog.depth 37 = false := by kernel_rfl
theorem fields29 : Tryz.prog.underlying 37 = some (.struct (Tryz.prog.fieldsOf 37)) := by kernel_rfl
theorem held29 : Tryz.prog.stoodInHeld 37 = false := by kernel_rfl
theorem byte_int (a b : UInt8) : ((a.toNat : Int) = (b.toNat : Int)) ↔ a = b := ⟨fun h => UInt8.toNat_inj.1 (by omega), fun h => by rw [h]⟩
theorem equal_rn (q p : Rn) (W : World) : (Op.equalIn 10000 37 (.agg #[.int .u8 (q.1.toNat : Int), .int .i64 q.2]) (.agg #[.int .u8 (p.1.toNat : Int), .int .i64 p.2])).run Tryz.prog W = .ok (decide (q = p)) W := by
  obtain ⟨a, b⟩ := q
  obtain ⟨c, d⟩ := p
  rw [show (10000 : Nat) = 9999 + 1 from rfl, run_equalIn_agg W 9999 37 _ _ fields29 held29]
  simp only [Program.fieldsOf, Tryz.underlying37]
  go_simp
  by_cases h1 : a = c <;> by_cases h2 : b = d <;> simp [h1, h2, byte_int]
theorem same_next {qs ps : List Rn} {k : Nat} {q p : Rn} (hq : qs[k]? = some q) (hp : ps[k]? = some p) (h : qs.take k = ps.take k) (e : q = p) : qs.take (k + 1) = ps.take (k + 1) := by
  obtain ⟨h1, h2⟩ := List.getElem?_eq_some_iff.1 hq
  obtain ⟨h3, h4⟩ := List.getElem?_eq_some_iff.1 hp
  rw [List.take_succ_eq_append_getElem h1, List.take_succ_eq_append_getElem h3, h2, h4, h, e]
theorem same_not {qs ps : List Rn} {k : Nat} {q p : Rn} (hq : qs[k]? = some q) (hp : ps[k]? = some p) (e : ¬ q = p) : ¬ qs = ps := by
  intro h
  rw [h, hp] at hq
  exact e (Option.some.inj hq).symm

end Go.Proofs.YtdhphipdpjhhbaaGreatDoor
