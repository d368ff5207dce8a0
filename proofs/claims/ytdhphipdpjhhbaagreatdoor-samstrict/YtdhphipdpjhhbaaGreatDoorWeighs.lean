/-
  The walks of the statements' own weighs and bulk.
-/
import Derived.Test.YtdhphipdpjhhbaaGreatDoorLent
namespace Go.Proofs.YtdhphipdpjhhbaaGreatDoor
open Go.RowKit

set_option maxRecDepth 20000 in
set_option maxHeartbeats 4000000 in
theorem weighs_calls (ao : Option Addr) (len cap : Nat) (xs : List Rl) (w : World) (hz : RecsAt w ao len xs) :
    Calls Tryz.prog 9 #[.slice ao len cap] w fun e w' => ∃ n : Int, e = .returned (.int .i64 n) ∧ (n ≤ 2147483647 → len ≤ 2147483647 ∧ ∀ x ∈ xs, x.1.len ≤ 2147483647) ∧ Below w.heap.size w w' := by
  have HZ : Hid (RecsAt w ao len xs) := hz
  have HL : Hid (xs.length = len) := hz.length
  have hm := hz.short
  unfold maxLen at hm
  clear hz
  go_enter Tryz.func9, Tryz.ntmps9
  go_wp2_with fail
  go_loopw [3, 4] (fun n i wr => ∃ k N : Nat, k ≤ len ∧ i = .int .i64 k ∧ n = .int .i64 N ∧ len ≤ N ∧ N ≤ 9223372036854775807 ∧ (∀ x ∈ xs.take k, x.1.len ≤ 2147483647) ∧ Below w.heap.size w wr) (fun _ i _ => len - (intOf i).toNat)
  case atStart => exact ⟨0, len, Nat.zero_le _, rfl, rfl, Nat.le_refl _, by omega, by simp, Below.refl _ _⟩
  case round =>
    obtain ⟨k, N, hk, rfl, rfl, hln, hNm, hall, hbel⟩ := hrel
    have HB : Hid (Below w.heap.size w wr) := hbel
    have HAl : Hid (∀ x ∈ xs.take k, x.1.len ≤ 2147483647) := hall
    clear hbel hall
    by_cases hlt : k < len
    · have hd : decide ((k : Int) < (len : Int)) = true := by simp; omega
      by_cases hN : N ≤ 2147483647
      · have hd2 : decide ((N : Int) ≤ 2147483647) = true := by simp; omega
        obtain ⟨x, hxk⟩ : ∃ x, xs[k]? = some x := ⟨_, List.getElem?_eq_getElem (by rw [HL.out]; exact hlt)⟩
        obtain ⟨b2, off2, rfl, hcs⟩ := (HZ.out.below HB.out).cells (by omega)
        have hcx := hcs k x hxk
        have HNx : Hid (x.1.len ≤ 2147483647 → ∀ y ∈ xs.take (k + 1), y.1.len ≤ 2147483647) := by
          intro h1 y hy
          obtain ⟨hl, he⟩ := List.getElem?_eq_some_iff.1 hxk
          rw [List.take_succ_eq_append_getElem hl, he] at hy
          rcases List.mem_append.1 hy with hy | hy
          · exact HAl.out y hy
          · simp at hy; subst hy; exact h1
        have HA : Hid (∀ o, Below w.heap.size w (wr.alloc o)) := fun o => HB.out.alloc HB.out.size o
        obtain ⟨⟨nm, m, rf, p, ro, rl, rc, b, q, sc⟩, lx⟩ := x
        obtain ⟨c0, c1, c2, c3, c4, c5, c6, c7⟩ := hcx
        simp only at HNx c0 c1 c2 c3 c4 c5 c6 c7
        clear hcs hxk HAl HZ HL
        by_cases h1 : nm.size ≤ 2147483647
        case neg =>
          have d1 : decide ((nm.size : Int) > 2147483647) = true := by simp; omega
          go_wp2
          go_ret
          exact ⟨_, rfl, fun h => absurd h (by decide), HA.out _⟩
        have d1 : decide ((nm.size : Int) > 2147483647) = false := by simp; omega
        by_cases h2 : rf.size ≤ 2147483647
        case neg =>
          have d2 : decide ((rf.size : Int) > 2147483647) = true := by simp; omega
          go_wp2
          go_ret
          exact ⟨_, rfl, fun h => absurd h (by decide), HA.out _⟩
        have d2 : decide ((rf.size : Int) > 2147483647) = false := by simp; omega
        by_cases h3 : b.size ≤ 2147483647
        case neg =>
          have d3 : decide ((b.size : Int) > 2147483647) = true := by simp; omega
          go_wp2
          go_ret
          exact ⟨_, rfl, fun h => absurd h (by decide), HA.out _⟩
        have d3 : decide ((b.size : Int) > 2147483647) = false := by simp; omega
        by_cases h4 : q.size ≤ 2147483647
        case neg =>
          have d4 : decide ((q.size : Int) > 2147483647) = true := by simp; omega
          go_wp2
          go_ret
          exact ⟨_, rfl, fun h => absurd h (by decide), HA.out _⟩
        have d4 : decide ((q.size : Int) > 2147483647) = false := by simp; omega
        by_cases h5 : rl ≤ 2147483647
        case neg =>
          have d5 : decide ((rl : Int) > 2147483647) = true := by simp; omega
          go_wp2
          go_ret
          exact ⟨_, rfl, fun h => absurd h (by decide), HA.out _⟩
        have d5 : decide ((rl : Int) > 2147483647) = false := by simp; omega
        go_wp2
        go_roundw
        case rel => exact ⟨k + 1, N + nm.size + rf.size + b.size + q.size + rl, by omega, by go_num, by go_num, by omega, by omega, HNx.out h5, HA.out _⟩
        case measure => simp [intOf]; omega
      · have hd2 : decide ((N : Int) ≤ 2147483647) = false := by simp; omega
        go_wp2
        go_ret
        exact ⟨_, rfl, fun h => absurd h (by omega), HB.out⟩
    · have hd : decide ((k : Int) < (len : Int)) = false := by simp; omega
      go_wp2
      go_ret
      refine ⟨_, rfl, fun h => ⟨by omega, ?_⟩, HB.out⟩
      have := HAl.out
      rwa [List.take_of_length_le (by rw [HL.out]; omega)] at this

set_option maxRecDepth 20000 in
set_option maxHeartbeats 4000000 in
theorem bulk_calls (ao : Option Addr) (len cap : Nat) (qs : List Sq) (w : World) (hz : SqsAt w ao len qs) :
    Calls Tryz.prog 18 #[.slice ao len cap] w fun e w' => ∃ n : Int, e = .returned (.int .i64 n) ∧ (n ≤ 2147483647 → len ≤ 2147483647) ∧ Below w.heap.size w w' := by
  have HZ : Hid (SqsAt w ao len qs) := hz
  have HL : Hid (qs.length = len) := hz.length
  have hm := hz.short
  unfold maxLen at hm
  clear hz
  go_enter Tryz.func18, Tryz.ntmps18
  go_wp2_with fail
  go_loopw [3, 4] (fun n i wr => ∃ k N : Nat, k ≤ len ∧ i = .int .i64 k ∧ n = .int .i64 N ∧ len ≤ N ∧ N ≤ 9223372036854775807 ∧ Below w.heap.size w wr) (fun _ i _ => len - (intOf i).toNat)
  case atStart => exact ⟨0, len, Nat.zero_le _, rfl, rfl, Nat.le_refl _, by omega, Below.refl _ _⟩
  case round =>
    obtain ⟨k, N, hk, rfl, rfl, hln, hNm, hbel⟩ := hrel
    have HB : Hid (Below w.heap.size w wr) := hbel
    clear hbel
    by_cases hlt : k < len
    · have hd : decide ((k : Int) < (len : Int)) = true := by simp; omega
      by_cases hN : N ≤ 2147483647
      · have hd2 : decide ((N : Int) ≤ 2147483647) = true := by simp; omega
        obtain ⟨x, hxk⟩ : ∃ x, qs[k]? = some x := ⟨_, List.getElem?_eq_getElem (by rw [HL.out]; exact hlt)⟩
        obtain ⟨b2, off2, rfl, hcs⟩ := (HZ.out.below HB.out).cells (by omega)
        obtain ⟨c0, c1, c2⟩ := hcs k x hxk
        obtain ⟨nm, nt, b⟩ := x
        simp only at c0 c1 c2
        clear hcs hxk HZ HL
        by_cases h1 : nm.size ≤ 2147483647
        case neg =>
          have d1 : decide ((nm.size : Int) > 2147483647) = true := by simp; omega
          go_wp2
          go_ret
          exact ⟨_, rfl, fun h => absurd h (by decide), HB.out⟩
        have d1 : decide ((nm.size : Int) > 2147483647) = false := by simp; omega
        by_cases h2 : nt.size ≤ 2147483647
        case neg =>
          have d2 : decide ((nt.size : Int) > 2147483647) = true := by simp; omega
          go_wp2
          go_ret
          exact ⟨_, rfl, fun h => absurd h (by decide), HB.out⟩
        have d2 : decide ((nt.size : Int) > 2147483647) = false := by simp; omega
        by_cases h3 : b.size ≤ 2147483647
        case neg =>
          have d3 : decide ((b.size : Int) > 2147483647) = true := by simp; omega
          go_wp2
          go_ret
          exact ⟨_, rfl, fun h => absurd h (by decide), HB.out⟩
        have d3 : decide ((b.size : Int) > 2147483647) = false := by simp; omega
        have hkn : (k : Int) < (len : Int) := by omega
        go_wp2_with fail
        go_quiet (fail)
        have HBq : Hid (Below w.heap.size w (wr.drewN nq)) := below_drewN HB.out nq
        generalize wr.drewN nq = wz at *
        go_wp2
        go_roundw
        case rel => exact ⟨k + 1, N + nm.size + nt.size + b.size, by omega, by go_num, by go_num, by omega, by omega, HBq.out⟩
        case measure => simp [intOf]; omega
      · have hd2 : decide ((N : Int) ≤ 2147483647) = false := by simp; omega
        go_wp2
        go_ret
        exact ⟨_, rfl, fun h => absurd h (by omega), HB.out⟩
    · have hd : decide ((k : Int) < (len : Int)) = false := by simp; omega
      go_wp2
      go_ret
      exact ⟨_, rfl, fun h => by omega, HB.out⟩
end Go.Proofs.YtdhphipdpjhhbaaGreatDoor
