/-
  The document's small ones: mayDef.
-/
import Derived.Test.YtolehoibpnenlabVmC
namespace Go.Proofs.Ytolehoibpnenlab
open Go.RowKit Go.Deep Go.Maps
theorem ahead_no (a p : Int) (h : decide (0 ≤ a) = false) : aheadB a p = false := by simp at h; simp [aheadB]; omega
theorem ahead_yes (a p : Int) (h : decide (0 ≤ a) = true) : aheadB a p = decide (a < p) := by simp at h; simp [aheadB, h]
set_option maxRecDepth 20000 in
set_option maxHeartbeats 1000000 in
theorem mayDef_calls (d : Df) (p : Int) (w : World) :
    Calls Try.prog 14 #[dfV d, .int .i64 p] w fun e w' => e = .returned (.bool (defB d p)) ∧ Below w.heap.size w w' := by
  unfold dfV
  obtain ⟨op, num, a, b⟩ := d
  simp only
  have HD : Hid (defB ⟨op, num, a, b⟩ p = if op = 1 then decide (a = 0 ∧ b = 0) else if op = 2 then decide (num = 0) && (aheadB a p && decide (b = 0)) else if 3 ≤ op ∧ op ≤ 7 then decide (num = 0) && (aheadB a p && aheadB b p) else false) := rfl
  generalize defB ⟨op, num, a, b⟩ p = D at *
  have hA : (decide (0 ≤ a) = false ∧ aheadB a p = false) ∨ (decide (0 ≤ a) = true ∧ decide (a < p) = false ∧ aheadB a p = false) ∨ (decide (0 ≤ a) = true ∧ decide (a < p) = true ∧ aheadB a p = true) := by
    cases h : decide (0 ≤ a)
    · exact .inl ⟨rfl, ahead_no a p h⟩
    · rw [ahead_yes a p h]
      cases decide (a < p) <;> simp
  have hB : (decide (0 ≤ b) = false ∧ aheadB b p = false) ∨ (decide (0 ≤ b) = true ∧ decide (b < p) = false ∧ aheadB b p = false) ∨ (decide (0 ≤ b) = true ∧ decide (b < p) = true ∧ aheadB b p = true) := by
    cases h : decide (0 ≤ b)
    · exact .inl ⟨rfl, ahead_no b p h⟩
    · rw [ahead_yes b p h]
      cases decide (b < p) <;> simp
  generalize aheadB a p = fa at *
  generalize aheadB b p = fb at *
  have hO : op = 1 ∨ op = 2 ∨ (3 ≤ op ∧ op ≤ 7) ∨ op < 1 ∨ 7 < op := by omega
  rcases hO with rfl | rfl | h3 | h0 | h8
  · have HE : Hid (D = decide (a = 0 ∧ b = 0)) := HD.out
    clear HD
    by_cases ha : a = 0
    · have ea : (a == 0) = true := by simpa using ha
      rcases hA with ⟨x1, rfl⟩ | ⟨x1, x2, rfl⟩ | ⟨x1, x2, rfl⟩ <;> rcases hB with ⟨y1, rfl⟩ | ⟨y1, y2, rfl⟩ | ⟨y1, y2, rfl⟩
      all_goals
        go_enter Try.func14, Try.ntmps14
        go_wp2
        go_ret
        exact ⟨ret_bool (by rw [HE.out]; simp [beqz, ha]), (Below.refl _ _).alloc (Nat.le_refl _) _⟩
    · have ea : (a == 0) = false := by simpa using ha
      rcases hA with ⟨x1, rfl⟩ | ⟨x1, x2, rfl⟩ | ⟨x1, x2, rfl⟩ <;> rcases hB with ⟨y1, rfl⟩ | ⟨y1, y2, rfl⟩ | ⟨y1, y2, rfl⟩
      all_goals
        go_enter Try.func14, Try.ntmps14
        go_wp2
        go_ret
        exact ⟨ret_bool (by rw [HE.out]; simp [ha]), (Below.refl _ _).alloc (Nat.le_refl _) _⟩
  · have HE : Hid (D = (decide (num = 0) && (fa && decide (b = 0)))) := HD.out
    clear HD
    by_cases hb : b = 0
    · have eb : (b == 0) = true := by simpa using hb
      rcases hA with ⟨x1, rfl⟩ | ⟨x1, x2, rfl⟩ | ⟨x1, x2, rfl⟩ <;> rcases hB with ⟨y1, rfl⟩ | ⟨y1, y2, rfl⟩ | ⟨y1, y2, rfl⟩
      all_goals
        go_enter Try.func14, Try.ntmps14
        go_wp2
        go_ret
        exact ⟨ret_bool (by rw [HE.out]; simp [beqz, hb]), (Below.refl _ _).alloc (Nat.le_refl _) _⟩
    · have eb : (b == 0) = false := by simpa using hb
      rcases hA with ⟨x1, rfl⟩ | ⟨x1, x2, rfl⟩ | ⟨x1, x2, rfl⟩ <;> rcases hB with ⟨y1, rfl⟩ | ⟨y1, y2, rfl⟩ | ⟨y1, y2, rfl⟩
      all_goals
        go_enter Try.func14, Try.ntmps14
        go_wp2
        go_ret
        exact ⟨ret_bool (by rw [HE.out]; simp [hb]), (Below.refl _ _).alloc (Nat.le_refl _) _⟩
  · have HE : Hid (D = (decide (num = 0) && (fa && fb))) := by have := HD.out; rw [if_neg (by omega), if_neg (by omega), if_pos h3] at this; exact this
    clear HD
    have e1 : (op == 1) = false := by simp; omega
    have e2 : (op == 2) = false := by simp; omega
    have e3 : decide (3 ≤ op) = true := by simpa using h3.1
    have e7 : decide (op ≤ 7) = true := by simpa using h3.2
    rcases hA with ⟨x1, rfl⟩ | ⟨x1, x2, rfl⟩ | ⟨x1, x2, rfl⟩ <;> rcases hB with ⟨y1, rfl⟩ | ⟨y1, y2, rfl⟩ | ⟨y1, y2, rfl⟩
    all_goals
      go_enter Try.func14, Try.ntmps14
      go_wp2
      go_ret
      exact ⟨ret_bool (by rw [HE.out]; simp [beqz]), (Below.refl _ _).alloc (Nat.le_refl _) _⟩
  · have HE : Hid (D = false) := by have := HD.out; rw [if_neg (by omega), if_neg (by omega), if_neg (by omega)] at this; exact this
    clear HD
    have e1 : (op == 1) = false := by simp; omega
    have e2 : (op == 2) = false := by simp; omega
    have e3 : decide (3 ≤ op) = false := by simp; omega
    rcases hA with ⟨x1, rfl⟩ | ⟨x1, x2, rfl⟩ | ⟨x1, x2, rfl⟩ <;> rcases hB with ⟨y1, rfl⟩ | ⟨y1, y2, rfl⟩ | ⟨y1, y2, rfl⟩
    all_goals
      go_enter Try.func14, Try.ntmps14
      go_wp2
      go_ret
      exact ⟨ret_bool (by rw [HE.out]; try simp), (Below.refl _ _).alloc (Nat.le_refl _) _⟩
  · have HE : Hid (D = false) := by have := HD.out; rw [if_neg (by omega), if_neg (by omega), if_neg (by omega)] at this; exact this
    clear HD
    have e1 : (op == 1) = false := by simp; omega
    have e2 : (op == 2) = false := by simp; omega
    have e3 : decide (3 ≤ op) = true := by simp; omega
    have e7 : decide (op ≤ 7) = false := by simp; omega
    rcases hA with ⟨x1, rfl⟩ | ⟨x1, x2, rfl⟩ | ⟨x1, x2, rfl⟩ <;> rcases hB with ⟨y1, rfl⟩ | ⟨y1, y2, rfl⟩ | ⟨y1, y2, rfl⟩
    all_goals
      go_enter Try.func14, Try.ntmps14
      go_wp2
      go_ret
      exact ⟨ret_bool (by rw [HE.out]; try simp), (Below.refl _ _).alloc (Nat.le_refl _) _⟩
end Go.Proofs.Ytolehoibpnenlab
