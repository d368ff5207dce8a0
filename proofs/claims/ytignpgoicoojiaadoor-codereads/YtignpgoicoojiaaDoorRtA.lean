/-
  The walks of within, in, wide, fields.
-/
import Derived.Test.YtignpgoicoojiaaDoorMem
namespace Go.Proofs.YtignpgoicoojiaaDoor
open Go.RowKit

theorem all_bad {lo hi : Int} {zs : List Int} (k : Nat) (hk : k < zs.length) (h : zs.getD k 0 < lo ∨ hi < zs.getD k 0) : allB lo hi zs = false := by
  cases e : allB lo hi zs with
  | false => rfl
  | true =>
    have := inB_iff.1 (List.all_eq_true.1 e zs[k] (List.getElem_mem hk))
    simp [List.getD, List.getElem?_eq_getElem hk] at h
    omega
theorem all_good {lo hi : Int} {zs : List Int} (h : ∀ j, j < zs.length → lo ≤ zs.getD j 0 ∧ zs.getD j 0 ≤ hi) : allB lo hi zs = true := by
  refine List.all_eq_true.2 fun z hz => ?_
  obtain ⟨j, hj, rfl⟩ := List.getElem_of_mem hz
  have := h j hj
  simp [List.getD, List.getElem?_eq_getElem hj] at this
  exact inB_iff.2 this

set_option maxHeartbeats 1000000 in
theorem within_calls (lo hi : Int) (ao : Option Addr) (len cap : Nat) (zs : List Int) (w : World) (hz : IntsAt w ao len zs) :
    Calls Tryd.prog 41 #[.int .i64 lo, .int .i64 hi, .slice ao len cap] w fun e w' => e = .returned (.bool (allB lo hi zs)) ∧ w = w' := by
  have hm := hz.short
  unfold maxLen at hm
  have HZ : Hid (IntsAt w ao len zs) := hz
  clear hz
  go_enter Tryd.func41, Tryd.ntmps41
  go_wp2
  go_loop [8, 11] (fun _ i => ∃ k : Nat, k ≤ len ∧ i = .int .i64 k ∧ (∀ j, j < k → lo ≤ zs.getD j 0 ∧ zs.getD j 0 ≤ hi)) (fun _ i => len - (intOf i).toNat)
  case atStart => exact ⟨0, Nat.zero_le _, rfl, fun j hj => by omega⟩
  case round =>
    obtain ⟨k, hk, rfl, hall⟩ := hrel
    have HA : Hid (∀ j, j < k → lo ≤ zs.getD j 0 ∧ zs.getD j 0 ≤ hi) := hall
    clear hall
    by_cases hlt : k < len
    · obtain ⟨b, off, rfl, hcs⟩ := HZ.out.cells (by omega)
      have hc1 := hcs k hlt
      clear hcs
      generalize hz : zs.getD k 0 = z at hc1
      have HK : Hid (zs.getD k 0 = z) := hz
      clear hz
      by_cases h1 : z < lo
      · have HE : Hid (allB lo hi zs = false) := all_bad k (by rw [HZ.out.length]; exact hlt) (by rw [HK.out]; exact Or.inl h1)
        go_wp2
        go_ret
        rw [HE.out]
        exact ⟨rfl, rfl⟩
      · by_cases h2 : hi < z
        · have HE : Hid (allB lo hi zs = false) := all_bad k (by rw [HZ.out.length]; exact hlt) (by rw [HK.out]; exact Or.inr h2)
          go_wp2
          go_ret
          rw [HE.out]
          exact ⟨rfl, rfl⟩
        · go_wp2
          go_round
          case rel =>
            refine ⟨k + 1, by omega, by go_num, ?_⟩
            intro j hj
            by_cases e : j = k
            · subst e; rw [HK.out]; omega
            · exact HA.out j (by omega)
          case measure => simp [intOf]; omega
    · have HE : Hid (allB lo hi zs = true) := all_good (fun j hj => HA.out j (by rw [HZ.out.length] at hj; omega))
      go_wp2
      go_ret
      rw [HE.out]
      exact ⟨rfl, rfl⟩

theorem in_calls (n lo hi : Int) (w : World) : Calls Tryd.prog 28 #[.int .i64 n, .int .i64 lo, .int .i64 hi] w fun e w' => e = .returned (.bool (inB lo hi n)) ∧ w = w' := by
  by_cases h1 : lo ≤ n
  · have h1b : decide (lo ≤ n) = true := by simpa using h1
    have HE : Hid (inB lo hi n = decide (n ≤ hi)) := by show _ = _; rw [Bool.eq_iff_iff, inB_iff]; simp; omega
    go_enter Tryd.func28, Tryd.ntmps28
    go_wp2
    go_ret
    exact ⟨ret_bool (by rw [HE.out]), rfl⟩
  · have h1b : decide (lo ≤ n) = false := by simpa using h1
    have HE : Hid (inB lo hi n = false) := by
      show _ = _
      cases e : inB lo hi n with
      | false => rfl
      | true => exact absurd (inB_iff.1 e).1 h1
    go_enter Tryd.func28, Tryd.ntmps28
    go_wp2
    go_ret
    exact ⟨ret_bool (by rw [HE.out]), rfl⟩

set_option maxHeartbeats 1000000 in
theorem wide_calls (ao : Option Addr) (len cap : Nat) (zs : List Int) (w : World) (hz : IntsAt w ao len zs) :
    Calls Tryd.prog 27 #[.slice ao len cap] w fun e w' => e = .returned (.bool (allB (-1152921504606846976) 1152921504606846976 zs)) ∧ w = w' := by
  have hm := hz.short
  unfold maxLen at hm
  have HZ : Hid (IntsAt w ao len zs) := hz
  clear hz
  go_enter Tryd.func27, Tryd.ntmps27
  go_wp2
  go_loop [3, 4] (fun i _ => ∃ k : Nat, k ≤ len ∧ i = .int .i64 k ∧ (∀ j, j < k → -1152921504606846976 ≤ zs.getD j 0 ∧ zs.getD j 0 ≤ 1152921504606846976)) (fun i _ => len - (intOf i).toNat)
  case atStart => exact ⟨0, Nat.zero_le _, rfl, fun j hj => by omega⟩
  case round =>
    obtain ⟨k, hk, rfl, hall⟩ := hrel
    have HA : Hid (∀ j, j < k → -1152921504606846976 ≤ zs.getD j 0 ∧ zs.getD j 0 ≤ 1152921504606846976) := hall
    clear hall
    by_cases hlt : k < len
    · obtain ⟨b, off, rfl, hcs⟩ := HZ.out.cells (by omega)
      have hc1 := hcs k hlt
      clear hcs
      generalize hz : zs.getD k 0 = z at hc1
      have HK : Hid (zs.getD k 0 = z) := hz
      clear hz
      obtain ⟨q, hq⟩ : ∃ q, inB (-1152921504606846976) 1152921504606846976 z = q := ⟨_, rfl⟩
      have HQ : Hid (inB (-1152921504606846976) 1152921504606846976 z = q) := hq
      clear hq
      go_wp2_with (go_at_call 28; refine (in_calls _ _ _ _).mono ?_; rintro e w1 ⟨rfl, rfl⟩; rw [HQ.out]; cases q)
      · have HE : Hid (allB (-1152921504606846976) 1152921504606846976 zs = false) := all_bad k (by rw [HZ.out.length]; exact hlt) (by
          rw [HK.out]
          have h : ¬ (inB (-1152921504606846976) 1152921504606846976 z = true) := by rw [HQ.out]; decide
          rw [inB_iff] at h; omega)
        go_ret
        rw [HE.out]
        exact ⟨rfl, rfl⟩
      · go_round
        case rel =>
          refine ⟨k + 1, by omega, by go_num, ?_⟩
          intro j hj
          by_cases e : j = k
          · subst e; rw [HK.out]; exact inB_iff.1 HQ.out
          · exact HA.out j (by omega)
        case measure => simp [intOf]; omega
    · have HE : Hid (allB (-1152921504606846976) 1152921504606846976 zs = true) := all_good (fun j hj => HA.out j (by rw [HZ.out.length] at hj; omega))
      go_wp2
      go_ret
      rw [HE.out]
      exact ⟨rfl, rfl⟩

set_option maxHeartbeats 1000000 in
theorem fields_calls (a b c : Int) (w : World) : Calls Tryd.prog 29 #[.int .i64 a, .int .i64 b, .int .i64 c] w fun e w' => e = .returned (.bool (allB 0 65535 [a, b, c])) ∧ w = w' := by
  obtain ⟨x, hx⟩ : ∃ q, inB 0 65535 a = q := ⟨_, rfl⟩
  obtain ⟨y, hy⟩ : ∃ q, inB 0 65535 b = q := ⟨_, rfl⟩
  obtain ⟨z, hz⟩ : ∃ q, inB 0 65535 c = q := ⟨_, rfl⟩
  have HE : Hid (allB 0 65535 [a, b, c] = (x && y && z)) := by show _ = _; simp [allB, hx, hy, hz, Bool.and_assoc]
  have HX : Hid (inB 0 65535 a = x) := hx
  have HY : Hid (inB 0 65535 b = y) := hy
  have HZ : Hid (inB 0 65535 c = z) := hz
  clear hx hy hz
  go_enter Tryd.func29, Tryd.ntmps29
  go_wp2_with fail
  refine (in_calls _ _ _ _).mono ?_
  rintro e w1 ⟨rfl, rfl⟩
  rw [HX.out]
  go_wp2_with fail
  refine (in_calls _ _ _ _).mono ?_
  rintro e w1 ⟨rfl, rfl⟩
  rw [HY.out]
  go_wp2_with fail
  refine (in_calls _ _ _ _).mono ?_
  rintro e w1 ⟨rfl, rfl⟩
  rw [HZ.out]
  cases x <;> cases y <;> (go_wp2; go_ret; exact ⟨ret_bool (by rw [HE.out]; cases z <;> rfl), rfl⟩)
end Go.Proofs.YtignpgoicoojiaaDoor
