/-
  The walk of the document's own Digits.
-/
import Derived.Test.YtdhphipdpjhhbaaGreatDoorPrint
namespace Go.Proofs.YtdhphipdpjhhbaaGreatDoor
open Go.RowKit

def digS (d : Nat) : ByteArray := ⟨#[UInt8.ofNat (48 + d)]⟩
theorem digS_cut : ∀ d, d < 10 → (⟨#[48, 49, 50, 51, 52, 53, 54, 55, 56, 57]⟩ : ByteArray).extract d (d + 1) = digS d
  | 0, _ | 1, _ | 2, _ | 3, _ | 4, _ | 5, _ | 6, _ | 7, _ | 8, _ | 9, _ => rfl
  | d + 10, h => absurd h (by omega)
theorem run_dig (n : Nat) (W : World) : (Instr.slice 9 (.string ⟨#[48, 49, 50, 51, 52, 53, 54, 55, 56, 57]⟩) (some (.int .i64 ((n : Int) % 10))) (some (.int .i64 ((n : Int) % 10 + 1))) none).run Tryz.prog W = .ok (.string (digS (n % 10))) W := by
  have hs : (⟨#[48, 49, 50, 51, 52, 53, 54, 55, 56, 57]⟩ : ByteArray).size = 10 := rfl
  rw [run_slice_string W 9 _ .i64 .i64 _ _ Tryz.underlying9 (by omega) (by omega) (by rw [hs]; omega)]
  have e1 : ((n : Int) % 10).toNat = n % 10 := by omega
  have e2 : ((n : Int) % 10 + 1).toNat = n % 10 + 1 := by omega
  rw [e1, e2, digS_cut _ (Nat.mod_lt _ (by decide))]
theorem dec_step {n : Nat} (h : ¬ n < 10) : Lib.decDigits n = Lib.decDigits (n / 10) ++ [UInt8.ofNat (48 + n % 10)] := by
  rw [Lib.decDigits, dif_neg h]
theorem ba_append (a b : ByteArray) : (a ++ b).data.toList = a.data.toList ++ b.data.toList := by simp
/-- What is still to be written of a number, ahead of what is written. -/
def digRest (m : Nat) : List UInt8 := if m = 0 then [] else Lib.decDigits m
theorem digRest_first (N : Nat) : digRest (N / 10) ++ [UInt8.ofNat (48 + N % 10)] = Lib.decDigits N := by
  unfold digRest
  by_cases h : N < 10
  · rw [if_pos (by omega), Lib.decDigits, dif_pos h, Nat.mod_eq_of_lt h]; rfl
  · rw [if_neg (by omega), dec_step h]
theorem digRest_step {m : Nat} (h : 0 < m) : digRest (m / 10) ++ [UInt8.ofNat (48 + m % 10)] = digRest m := by
  rw [digRest_first]
  unfold digRest
  rw [if_neg (by omega)]

set_option maxHeartbeats 1000000 in
theorem digits_calls (N : Nat) (w : World) (hN : N ≤ 9223372036854775807) :
    Calls Tryz.prog 59 #[.int .i64 (N : Int)] w fun e w' => ∃ t : ByteArray, e = .returned (.string t) ∧ t.data.toList = Lib.decDigits N ∧ w' = w := by
  have hcut := run_dig N
  have hlen : (Lib.decDigits N).length ≤ 22 := by
    have := Lib.itoa_length_le (N : Int) (by omega) (by omega)
    rw [Lib.itoa_nonneg] at this; omega
  have HFirst : Hid (digRest (N / 10) ++ (digS (N % 10)).data.toList = Lib.decDigits N) := digRest_first N
  generalize Lib.decDigits N = D at *
  generalize digS (N % 10) = t0 at *
  go_enter Tryz.func59, Tryz.ntmps59
  go_wp2
  clear hcut
  go_loop [0, 3] (fun a s => ∃ (m : Nat) (t : ByteArray), m ≤ 9223372036854775807 ∧ a = .int .i64 m ∧ s = .string t ∧ Hid (digRest m ++ t.data.toList = D)) (fun a _ => (intOf a).toNat)
  case atStart => exact ⟨N / 10, t0, by omega, by go_num, rfl, HFirst.out⟩
  case round =>
    obtain ⟨m, t, hm, rfl, rfl, HD⟩ := hrel
    by_cases h0 : 0 < m
    · have hcut := run_dig m
      have hdm : decide ((0 : Int) < (m : Int)) = true := by simp; omega
      have hm0 : ¬ m = 0 := by omega
      have hts : t.size ≤ 22 := by
        have := congrArg List.length HD.out
        simp at this; omega
      have hsz : (digS (m % 10)).size = 1 := rfl
      have HN : Hid (digRest (m / 10) ++ (digS (m % 10) ++ t).data.toList = D) := by
        show _ = _
        rw [ba_append, ← List.append_assoc, show (digS (m % 10)).data.toList = [UInt8.ofNat (48 + m % 10)] from rfl, digRest_step h0]
        exact HD.out
      have hcat : ∀ W, (Op.stringOp .add (digS (m % 10)) t).run Tryz.prog W = .ok (.string (digS (m % 10) ++ t)) W := fun W => run_string_add_sum W _ _ (by rw [hsz]; omega)
      clear hsz HD
      generalize digS (m % 10) = t1 at *
      go_wp2
      go_round
      case rel => exact ⟨m / 10, _, by omega, by go_num, rfl, HN.out⟩
      case measure => simp [intOf]; omega
    · have h0' : m = 0 := by omega
      subst h0'
      go_wp2
      go_ret
      exact ⟨t, rfl, HD.out, rfl⟩

theorem dec_small {d : Nat} (h : d < 10) : Lib.decDigits d = [UInt8.ofNat (48 + d)] := by rw [Lib.decDigits, dif_pos h]
theorem itoa_neg_one {u : Nat} (h0 : 0 < u) (h : u < 10) : Lib.itoa (-(u : Int)) = 45 :: Lib.decDigits (u % 10) := by
  rw [Lib.itoa_neg u h0, Nat.mod_eq_of_lt h]
theorem itoa_neg_more {u : Nat} (h : ¬ u < 10) : Lib.itoa (-(u : Int)) = 45 :: (Lib.decDigits (u / 10) ++ Lib.decDigits (u % 10)) := by
  rw [Lib.itoa_neg u (by omega), dec_step h, dec_small (Nat.mod_lt u (by decide))]
theorem tdiv_neg10 (u : Nat) : Int.tdiv (-(u : Int)) 10 = -((u / 10 : Nat) : Int) := by rw [Int.neg_tdiv]; rfl
theorem tmod_neg10 (u : Nat) : Int.tmod (-(u : Int)) 10 = -((u % 10 : Nat) : Int) := by rw [Int.neg_tmod]; rfl

set_option maxHeartbeats 1000000 in
theorem number_calls (z : Int) (w : World) (hz : fitI z) :
    Calls Tryz.prog 31 #[.int .i64 z] w fun e w' => ∃ t : ByteArray, e = .returned (.string t) ∧ t.data.toList = Lib.itoa z ∧ w' = w := by
  obtain ⟨hz1, hz2⟩ := hz
  by_cases h0 : 0 ≤ z
  · obtain ⟨n, rfl⟩ : ∃ n : Nat, z = (n : Int) := ⟨z.toNat, by omega⟩
    have HD : Hid (Calls Tryz.prog 59 #[.int .i64 (n : Int)] w fun e w' => ∃ t : ByteArray, e = .returned (.string t) ∧ t.data.toList = Lib.decDigits n ∧ w' = w) := digits_calls n w (by omega)
    go_enter Tryz.func31, Tryz.ntmps31
    go_wp2_with (go_at_call 59; refine HD.out.mono ?_; rintro e w' ⟨t, rfl, ht, rfl⟩)
    go_ret
    exact ⟨t, rfl, by rw [ht, Lib.itoa_nonneg], rfl⟩
  · obtain ⟨u, hu, rfl⟩ : ∃ u : Nat, 0 < u ∧ z = -(u : Int) := ⟨(-z).toNat, by omega, by omega⟩
    have hd := tdiv_neg10 u
    have hm := tmod_neg10 u
    have hD : ∀ n : Nat, n ≤ 9223372036854775807 → Calls Tryz.prog 59 #[.int .i64 (n : Int)] w fun e w' => ∃ t : ByteArray, e = .returned (.string t) ∧ t.data.toList = Lib.decDigits n ∧ w' = w := fun n hn => digits_calls n w hn
    have H1 : Hid (Calls Tryz.prog 59 #[.int .i64 ((u % 10 : Nat) : Int)] w fun e w' => ∃ t : ByteArray, e = .returned (.string t) ∧ t.data.toList = Lib.decDigits (u % 10) ∧ w' = w) := hD _ (by omega)
    have H2 : Hid (Calls Tryz.prog 59 #[.int .i64 ((u / 10 : Nat) : Int)] w fun e w' => ∃ t : ByteArray, e = .returned (.string t) ∧ t.data.toList = Lib.decDigits (u / 10) ∧ w' = w) := hD _ (by omega)
    have hl1 : (Lib.decDigits (u % 10)).length ≤ 22 := by have := Lib.itoa_length_le ((u % 10 : Nat) : Int) (by omega) (by omega); rw [Lib.itoa_nonneg] at this; omega
    have hl2 : (Lib.decDigits (u / 10)).length ≤ 22 := by have := Lib.itoa_length_le ((u / 10 : Nat) : Int) (by omega) (by omega); rw [Lib.itoa_nonneg] at this; omega
    clear hD
    go_enter Tryz.func31, Tryz.ntmps31
    go_wp2_with fail
    refine H1.out.mono ?_
    rintro e w1 ⟨t, rfl, ht, hw1⟩
    rw [hw1]
    clear hw1 H1
    have hts : t.size ≤ 22 := by rw [← size_toList, ht]; exact hl1
    have HT : Hid (t.data.toList = Lib.decDigits (u % 10)) := ht
    clear ht hl1 hd hm
    by_cases h10 : u < 10
    · have hr : decide ((0 : Int) < (u : Int) / 10) = false := by simp; omega
      have hr2 : ¬ (0 : Int) < (u : Int) / 10 := by omega
      have HE : Hid (Lib.itoa (-(u : Int)) = 45 :: Lib.decDigits (u % 10)) := itoa_neg_one hu h10
      go_wp2
      go_ret
      exact ⟨_, rfl, by rw [ba_append, HT.out, HE.out]; rfl, rfl⟩
    · have hr : decide ((0 : Int) < (u : Int) / 10) = true := by simp; omega
      have hr2 : (0 : Int) < (u : Int) / 10 := by omega
      have HE : Hid (Lib.itoa (-(u : Int)) = 45 :: (Lib.decDigits (u / 10) ++ Lib.decDigits (u % 10))) := itoa_neg_more h10
      go_wp2_with fail
      refine H2.out.mono ?_
      rintro e w1 ⟨t2, rfl, ht2, hw1⟩
      rw [hw1]
      clear hw1 H2
      have hts2 : t2.size ≤ 22 := by rw [← size_toList, ht2]; exact hl2
      have HT2 : Hid (t2.data.toList = Lib.decDigits (u / 10)) := ht2
      clear ht2 hl2
      go_wp2
      go_ret
      exact ⟨_, rfl, by rw [ba_append, ba_append, HT.out, HT2.out, HE.out]; rfl, rfl⟩
end Go.Proofs.YtdhphipdpjhhbaaGreatDoor
