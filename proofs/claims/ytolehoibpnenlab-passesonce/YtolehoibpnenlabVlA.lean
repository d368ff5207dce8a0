/-
  Whether a definition may stand at a place: isDef.
-/
import Derived.Deep.RegionLaw
import Derived.Test.YtolehoibpnenlabMa
import Derived.Test.YtolehoibpnenlabCkN
namespace Go.Proofs.Ytolehoibpnenlab
open Go.RowKit Go.Deep Go.Maps
theorem beqz (z k : Int) : (z == k) = decide (z = k) := by rw [Bool.eq_iff_iff]; simp
set_option maxRecDepth 20000 in
set_option maxHeartbeats 400000 in
theorem ahead_calls (a p : Int) (g : Nat) (w : World) (hc : w.cell? ⟨g, 0, none⟩ = some (.int .i64 p)) :
    Calls Try.prog 61 #[.int .i64 a, .pointer (some ⟨g, 0, none⟩)] w fun e w' => e = .returned (.bool (aheadB a p)) ∧ w = w' := by
  by_cases h : 0 ≤ a
  · have hd : decide (0 ≤ a) = true := by simpa using h
    go_enter Try.func61, Try.ntmps61
    go_wp2
    go_ret
    exact ⟨ret_bool (by simp [aheadB, h]), rfl⟩
  · have hd : decide (0 ≤ a) = false := by simpa using h
    go_enter Try.func61, Try.ntmps61
    go_wp2
    go_ret
    exact ⟨ret_bool (by simp [aheadB]; omega), rfl⟩
set_option maxRecDepth 20000 in
set_option maxHeartbeats 1000000 in
theorem isDef_calls (d : Df) (p : Int) (w : World) :
    Calls Try.prog 42 #[dfV d, .int .i64 p] w fun e w' => e = .returned (.bool (defB d p)) ∧ Below w.heap.size w w' := by
  have hmf : ∀ (fn : Fn) (first cap : Array Value) (w : World), (Instr.makeFunc fn first cap).run Try.prog w = .ok (.func fn first cap) w := fun _ _ _ _ => rfl
  have HBl : Hid (Below w.heap.size w ((w.alloc (.cells #[.int .i64 d.op, .int .i64 d.num, .int .i64 d.a, .int .i64 d.b] 34)).alloc (.cells #[.int .i64 p] 3))) := ((Below.refl _ _).alloc (Nat.le_refl _) _).alloc (by simp) _
  have HA : Hid (∀ a, Calls Try.prog 61 #[.int .i64 a, .pointer (some ⟨w.heap.size + 1, 0, none⟩)] ((w.alloc (.cells #[.int .i64 d.op, .int .i64 d.num, .int .i64 d.a, .int .i64 d.b] 34)).alloc (.cells #[.int .i64 p] 3)) fun e w' => e = .returned (.bool (aheadB a p)) ∧ ((w.alloc (.cells #[.int .i64 d.op, .int .i64 d.num, .int .i64 d.a, .int .i64 d.b] 34)).alloc (.cells #[.int .i64 p] 3)) = w') := fun a => by
    refine ahead_calls a p _ _ ?_
    have := heap_alloc_new (w.alloc (.cells #[.int .i64 d.op, .int .i64 d.num, .int .i64 d.a, .int .i64 d.b] 34)) (.cells #[.int .i64 p] 3)
    rw [show (w.alloc (.cells #[.int .i64 d.op, .int .i64 d.num, .int .i64 d.a, .int .i64 d.b] 34)).heap.size = w.heap.size + 1 by simp] at this
    exact blk this rfl
  unfold dfV
  obtain ⟨op, num, a, b⟩ := d
  simp only at HBl HA ⊢
  have HD : Hid (defB ⟨op, num, a, b⟩ p = if op = 1 then decide (a = 0 ∧ b = 0) else if op = 2 then decide (num = 0) && (aheadB a p && decide (b = 0)) else if 3 ≤ op ∧ op ≤ 7 then decide (num = 0) && (aheadB a p && aheadB b p) else false) := rfl
  generalize defB ⟨op, num, a, b⟩ p = D at *
  by_cases h1 : op = 1
  · subst h1
    have e1 : ((1 : Int) == 1) = true := rfl
    have HE : Hid (D = decide (a = 0 ∧ b = 0)) := HD.out
    clear HD
    by_cases ha : a = 0
    · subst ha
      have ea : ((0 : Int) == 0) = true := rfl
      go_enter Try.func42, Try.ntmps42
      go_wp2
      go_ret
      exact ⟨ret_bool (by rw [HE.out]; simp [beqz]), HBl.out⟩
    · have ea : (a == 0) = false := by simpa using ha
      go_enter Try.func42, Try.ntmps42
      go_wp2
      go_ret
      exact ⟨ret_bool (by rw [HE.out]; simp [ha]), HBl.out⟩
  have e1 : (op == 1) = false := by simpa using h1
  by_cases h2 : op = 2
  · subst h2
    have e2 : ((2 : Int) == 2) = true := rfl
    have HE : Hid (D = (decide (num = 0) && (aheadB a p && decide (b = 0)))) := HD.out
    clear HD h1
    by_cases hn : num = 0
    · subst hn
      have en : ((0 : Int) == 0) = true := rfl
      cases haa : aheadB a p
      · rw [haa] at HE
        have HA2 : Hid (Calls Try.prog 61 #[.int .i64 a, .pointer (some ⟨w.heap.size + 1, 0, none⟩)] ((w.alloc (.cells #[.int .i64 2, .int .i64 0, .int .i64 a, .int .i64 b] 34)).alloc (.cells #[.int .i64 p] 3)) fun e w' => e = .returned (.bool false) ∧ ((w.alloc (.cells #[.int .i64 2, .int .i64 0, .int .i64 a, .int .i64 b] 34)).alloc (.cells #[.int .i64 p] 3)) = w') := by have := HA.out a; rw [haa] at this; exact this
        clear HA haa
        go_enter Try.func42, Try.ntmps42
        go_wp2_with (go_at_call 61; refine (HA2.out).mono ?_; rintro e w' ⟨rfl, rfl⟩)
        go_ret
        exact ⟨ret_bool (by rw [HE.out]; simp), HBl.out⟩
      · rw [haa] at HE
        have HA2 : Hid (Calls Try.prog 61 #[.int .i64 a, .pointer (some ⟨w.heap.size + 1, 0, none⟩)] ((w.alloc (.cells #[.int .i64 2, .int .i64 0, .int .i64 a, .int .i64 b] 34)).alloc (.cells #[.int .i64 p] 3)) fun e w' => e = .returned (.bool true) ∧ ((w.alloc (.cells #[.int .i64 2, .int .i64 0, .int .i64 a, .int .i64 b] 34)).alloc (.cells #[.int .i64 p] 3)) = w') := by have := HA.out a; rw [haa] at this; exact this
        clear HA haa
        go_enter Try.func42, Try.ntmps42
        go_wp2_with (go_at_call 61; refine (HA2.out).mono ?_; rintro e w' ⟨rfl, rfl⟩)
        go_ret
        exact ⟨ret_bool (by rw [HE.out]; simp [beqz]), HBl.out⟩
    · have en : (num == 0) = false := by simpa using hn
      go_enter Try.func42, Try.ntmps42
      go_wp2
      go_ret
      exact ⟨ret_bool (by rw [HE.out]; simp [hn]), HBl.out⟩
  have e2 : (op == 2) = false := by simpa using h2
  by_cases h3 : 3 ≤ op ∧ op ≤ 7
  · have HE : Hid (D = (decide (num = 0) && (aheadB a p && aheadB b p))) := by have := HD.out; rw [if_neg h1, if_neg h2, if_pos h3] at this; exact this
    clear HD
    have hop : op = 3 ∨ op = 4 ∨ op = 5 ∨ op = 6 ∨ op = 7 := by omega
    clear h1 h2 h3 e1 e2
    by_cases hn : num = 0
    · subst hn
      have en : ((0 : Int) == 0) = true := rfl
      cases haa : aheadB a p
      · rw [haa] at HE
        have hA2 := HA.out a
        rw [haa] at hA2
        clear haa HA
        rcases hop with rfl | rfl | rfl | rfl | rfl
        all_goals
          go_enter Try.func42, Try.ntmps42
          go_wp2_with (go_at_call 61; refine (hA2).mono ?_; rintro e w' ⟨rfl, rfl⟩)
          go_ret
          exact ⟨ret_bool (by rw [HE.out]; simp), HBl.out⟩
      · rw [haa] at HE
        have hA2 := HA.out a
        have hB2 := HA.out b
        rw [haa] at hA2
        have HAa : Hid (Calls Try.prog 61 #[.int .i64 a, .pointer (some ⟨w.heap.size + 1, 0, none⟩)] ((w.alloc (.cells #[.int .i64 op, .int .i64 0, .int .i64 a, .int .i64 b] 34)).alloc (.cells #[.int .i64 p] 3)) fun e w' => e = .returned (.bool true) ∧ ((w.alloc (.cells #[.int .i64 op, .int .i64 0, .int .i64 a, .int .i64 b] 34)).alloc (.cells #[.int .i64 p] 3)) = w') := hA2
        have HBb : Hid (Calls Try.prog 61 #[.int .i64 b, .pointer (some ⟨w.heap.size + 1, 0, none⟩)] ((w.alloc (.cells #[.int .i64 op, .int .i64 0, .int .i64 a, .int .i64 b] 34)).alloc (.cells #[.int .i64 p] 3)) fun e w' => e = .returned (.bool (aheadB b p)) ∧ ((w.alloc (.cells #[.int .i64 op, .int .i64 0, .int .i64 a, .int .i64 b] 34)).alloc (.cells #[.int .i64 p] 3)) = w') := hB2
        clear haa HA hA2 hB2
        generalize aheadB b p = rb at *
        rcases hop with rfl | rfl | rfl | rfl | rfl
        all_goals
          go_enter Try.func42, Try.ntmps42
          go_wp2_with fail
          refine (HAa.out).mono ?_
          rintro e w' ⟨rfl, rfl⟩
          go_wp2_with fail
          refine (HBb.out).mono ?_
          rintro e w' ⟨rfl, rfl⟩
          go_wp2
          go_ret
          exact ⟨ret_bool (by rw [HE.out]; simp), HBl.out⟩
    · have en : (num == 0) = false := by simpa using hn
      rcases hop with rfl | rfl | rfl | rfl | rfl
      all_goals
        go_enter Try.func42, Try.ntmps42
        go_wp2
        go_ret
        exact ⟨ret_bool (by rw [HE.out]; simp [hn]), HBl.out⟩
  · have HE : Hid (D = false) := by have := HD.out; rw [if_neg h1, if_neg h2, if_neg h3] at this; exact this
    have e3 : (op == 3) = false := by rw [beq_eq_false_iff_ne]; omega
    have e4 : (op == 4) = false := by rw [beq_eq_false_iff_ne]; omega
    have e5 : (op == 5) = false := by rw [beq_eq_false_iff_ne]; omega
    have e6 : (op == 6) = false := by rw [beq_eq_false_iff_ne]; omega
    have e7 : (op == 7) = false := by rw [beq_eq_false_iff_ne]; omega
    clear HD h1 h2 h3
    go_enter Try.func42, Try.ntmps42
    go_wp2
    go_ret
    exact ⟨ret_bool (by rw [HE.out]), HBl.out⟩
end Go.Proofs.Ytolehoibpnenlab
