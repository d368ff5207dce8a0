/-
  How many ways lead over so many rows and columns, and how many legal paths there are of at most four letters each.
-/
import Derived.Test.YtegndeefddlccabPxA
import Derived.Test.YtegndeefddlccabPsQ
namespace Go.Proofs.Ytegndeefddlccab
open Go.RowKit

def dlI : Nat → Int → Int → Int
  | 0, _, _ => 1
  | n + 1, r, c => if r = 0 ∨ c = 0 then 1 else dlI n (r - 1) c + dlI n r (c - 1) + dlI n (r - 1) (c - 1)
theorem dlI_rng : ∀ (n : Nat) (r c : Int), 1 ≤ dlI n r c ∧ dlI n r c ≤ 3 ^ n
  | 0, _, _ => ⟨by simp [dlI], by simp [dlI]⟩
  | n + 1, r, c => by
    rw [dlI]
    have hp : (1 : Int) ≤ 3 ^ n := by
      have := dlI_rng n 0 0
      omega
    rw [Int.pow_succ]
    split
    · omega
    · have h1 := dlI_rng n (r - 1) c
      have h2 := dlI_rng n r (c - 1)
      have h3 := dlI_rng n (r - 1) (c - 1)
      omega
theorem pow_le (n : Nat) (h : n ≤ 8) : (3 : Int) ^ n ≤ 6561 := by
  have : ∀ n ∈ List.range 9, (3 : Int) ^ n ≤ 6561 := by decide
  exact this n (List.mem_range.2 (by omega))
def sumR (f : Nat → Int) (a : Nat) : Nat → Int
  | 0 => 0
  | d + 1 => sumR f a d + f (a + d)
def begM (mode : Int) (i j : Nat) : Bool := ((i : Int) == 0 && (j : Int) == 0) || mode == 3 || (mode == 2 && (j : Int) == 0)
def endM (mode : Int) (R C k n : Nat) : Bool := ((k : Int) == (R : Int) && (n : Int) == (C : Int)) || mode == 3 || mode == 4 || (mode == 2 && (n : Int) == (C : Int))
def tM (mode : Int) (R C i j k n : Nat) : Int := if begM mode i j && endM mode R C k n then dlI 8 ((k : Int) - i) ((n : Int) - j) else 0
def s4 (mode : Int) (R C i j k : Nat) : Int := sumR (fun n => tM mode R C i j k n) j (C + 1 - j)
def s3 (mode : Int) (R C i j : Nat) : Int := sumR (fun k => s4 mode R C i j k) i (R + 1 - i)
def s2 (mode : Int) (R C i : Nat) : Int := sumR (fun j => s3 mode R C i j) 0 (C + 1)
def s1 (mode : Int) (R C : Nat) : Int := sumR (fun i => s2 mode R C i) 0 (R + 1)
def mN (mode : Int) : Md := ⟨2, [1, 0, 0, 1], [(1, 1)], mode, false, 0, 0, 0, 0, 0⟩
theorem many_is : ∀ R ∈ List.range 5, ∀ C ∈ List.range 5, ∀ k ∈ List.range 4, ((pathsB (mN ((k : Int) + 1)) R C).length : Int) = s1 ((k : Int) + 1) R C := by decide +kernel
theorem many_sh : ∀ R ∈ List.range 5, ∀ C ∈ List.range 5, ∀ k ∈ List.range 4, shE (mN ((k : Int) + 1)) (List.replicate R 0) (List.replicate C 0) = 0 := by decide +kernel
theorem many_eq {mode : Int} {R C : Nat} (h1 : 1 ≤ mode) (h2 : mode ≤ 4) (hR : R ≤ 4) (hC : C ≤ 4) : ((pathsB (mN mode) R C).length : Int) = s1 mode R C ∧ shE (mN mode) (List.replicate R 0) (List.replicate C 0) = 0 := by
  have e : mode = (((mode - 1).toNat : Nat) : Int) + 1 := by omega
  have hk : (mode - 1).toNat ∈ List.range 4 := List.mem_range.2 (by omega)
  rw [e]
  exact ⟨many_is R (List.mem_range.2 (by omega)) C (List.mem_range.2 (by omega)) _ hk, many_sh R (List.mem_range.2 (by omega)) C (List.mem_range.2 (by omega)) _ hk⟩
theorem wrap_add (a t : Int) : wrap64 (wrap64 a + t) = wrap64 (a + t) := by unfold wrap64; omega
theorem paths_few {mode : Int} {R C : Nat} (h1 : 1 ≤ mode) (h2 : mode ≤ 4) (hR : R ≤ 4) (hC : C ≤ 4) : (pathsB (mN mode) R C).length ≤ 100000 := by
  have : ∀ R ∈ List.range 5, ∀ C ∈ List.range 5, ∀ k ∈ List.range 4, s1 ((k : Int) + 1) R C ≤ 100000 := by decide +kernel
  have e : mode = (((mode - 1).toNat : Nat) : Int) + 1 := by omega
  have h3 := this R (List.mem_range.2 (by omega)) C (List.mem_range.2 (by omega)) _ (List.mem_range.2 (show (mode - 1).toNat < 4 by omega))
  rw [← e] at h3
  have h4 := (many_eq h1 h2 hR hC).1
  omega
set_option maxHeartbeats 1000000 in
theorem many_calls : ∀ (n : Nat) (r c : Int) (w : World), 0 ≤ r → 0 ≤ c → r + c ≤ n → n ≤ 8 → Calls Try.prog 14 #[.int .i64 r, .int .i64 c] w fun e w' => e = .returned (.int .i64 (dlI n r c)) ∧ w = w'
  | 0, r, c, w, h1, h2, h3, h4 => by
    obtain rfl : r = 0 := by omega
    go_enter Try.func14, Try.ntmps14
    go_wp2
    go_ret
    exact ⟨rfl, rfl⟩
  | n + 1, r, c, w, h1, h2, h3, h4 => by
    by_cases hr : r = 0
    · subst hr
      have HE : Hid (dlI (n + 1) 0 c = 1) := by show _ = _; rw [dlI, if_pos (.inl rfl)]
      rw [HE.out]
      go_enter Try.func14, Try.ntmps14
      go_wp2
      go_ret
      exact ⟨rfl, rfl⟩
    · have e1 : (r == 0) = false := by simpa using hr
      by_cases hc : c = 0
      · subst hc
        have HE : Hid (dlI (n + 1) r 0 = 1) := by show _ = _; rw [dlI, if_pos (.inr rfl)]
        rw [HE.out]
        go_enter Try.func14, Try.ntmps14
        go_wp2
        go_ret
        exact ⟨rfl, rfl⟩
      · have e2 : (c == 0) = false := by simpa using hc
        have HE : Hid (dlI (n + 1) r c = dlI n (r - 1) c + dlI n r (c - 1) + dlI n (r - 1) (c - 1)) := by show _ = _; rw [dlI, if_neg (by omega)]
        have hp := pow_le n (by omega)
        have b1 := dlI_rng n (r - 1) c
        have b2 := dlI_rng n r (c - 1)
        have b3 := dlI_rng n (r - 1) (c - 1)
        have IH1 : Hid (∀ W, Calls Try.prog 14 #[.int .i64 (r - 1), .int .i64 c] W fun e w' => e = .returned (.int .i64 (dlI n (r - 1) c)) ∧ W = w') := fun W => many_calls n _ _ W (by omega) (by omega) (by omega) (by omega)
        have IH2 : Hid (∀ W, Calls Try.prog 14 #[.int .i64 r, .int .i64 (c - 1)] W fun e w' => e = .returned (.int .i64 (dlI n r (c - 1))) ∧ W = w') := fun W => many_calls n _ _ W (by omega) (by omega) (by omega) (by omega)
        have IH3 : Hid (∀ W, Calls Try.prog 14 #[.int .i64 (r - 1), .int .i64 (c - 1)] W fun e w' => e = .returned (.int .i64 (dlI n (r - 1) (c - 1))) ∧ W = w') := fun W => many_calls n _ _ W (by omega) (by omega) (by omega) (by omega)
        rw [HE.out]
        generalize dlI n (r - 1) c = x1 at *
        generalize dlI n r (c - 1) = x2 at *
        generalize dlI n (r - 1) (c - 1) = x3 at *
        have v1 : 1 ≤ x1 ∧ x1 ≤ 6561 := by omega
        have v2 : 1 ≤ x2 ∧ x2 ≤ 6561 := by omega
        have v3 : 1 ≤ x3 ∧ x3 ≤ 6561 := by omega
        clear b1 b2 b3 hp HE
        go_enter Try.func14, Try.ntmps14
        go_wp2_with fail
        refine (IH1.out _).mono ?_
        rintro e w1 ⟨rfl, rfl⟩
        go_wp2_with fail
        refine (IH2.out _).mono ?_
        rintro e w1 ⟨rfl, rfl⟩
        go_wp2_with fail
        refine (IH3.out _).mono ?_
        rintro e w1 ⟨rfl, rfl⟩
        go_wp2
        go_ret
        exact ⟨by go_num, rfl⟩
end Go.Proofs.Ytegndeefddlccab
