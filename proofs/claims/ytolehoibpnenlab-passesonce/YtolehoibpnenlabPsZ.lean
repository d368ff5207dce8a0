/-
  Drop: the states that the band bars.
-/
import Derived.BigQuiet
import Derived.Test.YtolehoibpnenlabMq
namespace Go.Proofs.Ytolehoibpnenlab
open Go.RowKit Go.Deep Go.Maps

set_option maxRecDepth 20000 in
set_option maxHeartbeats 2000000 in
theorem bars_calls (x : Rc) (base wb : Nat) (vs : List Int) (y : Ly) (k : Int) (w : World) (h : WkAt w base wb x vs y) :
    Calls Try.prog 59 #[.pointer (some ⟨wb, 0, none⟩), .int .i64 k] w fun e w' => e = .returned (.bool (barB x k)) ∧ w'.heap = w.heap ∧ Below w.heap.size w w' := by
  obtain ⟨bd, hbd⟩ : ∃ bd, x.banded = bd := ⟨_, rfl⟩
  obtain ⟨lo, hlo⟩ : ∃ lo, x.lo = lo := ⟨_, rfl⟩
  obtain ⟨hi, hhi⟩ : ∃ hi, x.hi = hi := ⟨_, rfl⟩
  have c7 : w.cell? ⟨wb, 7, none⟩ = some (.bool bd) := by rw [← hbd]; exact h.cell 7 _ rfl
  have c8 : w.cell? ⟨wb, 8, none⟩ = some (.int .i64 lo) := by rw [← hlo]; exact h.cell 8 _ rfl
  have c9 : w.cell? ⟨wb, 9, none⟩ = some (.int .i64 hi) := by rw [← hhi]; exact h.cell 9 _ rfl
  clear h
  by_cases hk : k = 1
  · have HV : Hid (barB x k = false) := by simp [barB, hk, Hid]
    have hk3 : (k != (1 : Int)) = false := by simp [hk]
    clear hk
    go_enter Try.func59, Try.ntmps59
    go_wp2_with fail
    go_quiet (fail)
    go_wp2
    go_ret
    exact ⟨by rw [HV.out]; rfl, rfl, below_dn (Below.refl _ _) nq⟩
  · have hk3 : (k != (1 : Int)) = true := bne_iff_ne.2 hk
    cases bd with
    | false =>
      have HV : Hid (barB x k = false) := by simp [barB, hbd, Hid]
      clear hk
      go_enter Try.func59, Try.ntmps59
      go_wp2_with fail
      go_quiet (fail)
      go_wp2
      go_ret
      exact ⟨by rw [HV.out]; rfl, rfl, below_dn (Below.refl _ _) nq⟩
    | true =>
      by_cases hl : lo = hi
      · have HV : Hid (barB x k = true) := by simp [barB, hbd, hk, hlo, hhi, hl, Hid]
        have hl3 : (lo == hi) = true := beq_iff_eq.2 hl
        clear hl hk
        go_enter Try.func59, Try.ntmps59
        go_wp2_with fail
        go_quiet (fail)
        go_wp2
        go_ret
        exact ⟨by rw [HV.out]; rfl, rfl, below_dn (Below.refl _ _) nq⟩
      · have HV : Hid (barB x k = false) := by simp [barB, hlo, hhi, hl, Hid]
        have hl3 : (lo == hi) = false := beq_eq_false_iff_ne.2 hl
        clear hl hk
        go_enter Try.func59, Try.ntmps59
        go_wp2_with fail
        go_quiet (fail)
        go_wp2
        go_ret
        exact ⟨by rw [HV.out]; rfl, rfl, below_dn (Below.refl _ _) nq⟩
end Go.Proofs.Ytolehoibpnenlab
