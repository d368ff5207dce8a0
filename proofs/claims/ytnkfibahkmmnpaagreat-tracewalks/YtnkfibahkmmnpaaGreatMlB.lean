/-
  Bits that are taken away one by one.
-/
import Derived.Test.YtnkfibahkmmnpaaGreatKc
namespace Go.Proofs.YtnkfibahkmmnpaaGreat

theorem clear_bit {m b : Nat} (h : m.testBit b = true) (j : Nat) : (m - 2 ^ b).testBit j = (m.testBit j && !(j == b)) := by
  obtain ⟨q, hq⟩ : ∃ q, m / 2 ^ b = q := ⟨_, rfl⟩
  obtain ⟨r, hr⟩ : ∃ r, m % 2 ^ b = r := ⟨_, rfl⟩
  have hp : 0 < 2 ^ b := Nat.two_pow_pos b
  have hrl : r < 2 ^ b := by rw [← hr]; exact Nat.mod_lt _ hp
  have hm : m = 2 ^ b * q + r := by rw [← hq, ← hr]; exact (Nat.div_add_mod m (2 ^ b)).symm
  have hodd : q % 2 = 1 := by
    rw [hm, Nat.testBit_two_pow_mul_add q hrl b, if_neg (Nat.lt_irrefl b), Nat.sub_self, Nat.testBit_zero] at h
    simpa using h
  obtain ⟨t, ht⟩ : ∃ t, q = t + 1 := ⟨q - 1, by omega⟩
  have hm2 : m - 2 ^ b = 2 ^ b * t + r := by
    rw [hm, ht, Nat.mul_add, Nat.mul_one]; omega
  rw [hm2, Nat.testBit_two_pow_mul_add t hrl j]
  rw [hm, Nat.testBit_two_pow_mul_add q hrl j]
  by_cases hj : j < b
  · rw [if_pos hj, if_pos hj]
    have : (j == b) = false := by simp; omega
    rw [this]; simp
  · rw [if_neg hj, if_neg hj]
    by_cases hjb : j = b
    · subst hjb
      have ht0 : t.testBit 0 = false := by rw [Nat.testBit_zero]; simp; omega
      rw [Nat.sub_self, ht0]; simp
    · have : (j == b) = false := by simp [hjb]
      rw [this]
      obtain ⟨k, hk⟩ : ∃ k, j - b = k + 1 := ⟨j - b - 1, by omega⟩
      rw [hk, Nat.testBit_succ, Nat.testBit_succ, show q / 2 = t / 2 by omega]; simp
theorem bit_le {m b : Nat} (h : m.testBit b = true) : 2 ^ b ≤ m := Nat.ge_two_pow_of_testBit h
/-- An arrow of plane p takes its bit away. -/
def remB (p : Int) (m : Nat) (a : Qd) : Nat := if a.1 = p ∧ m.testBit a.2.1.toNat = true then m - 2 ^ a.2.1.toNat else m
theorem rem_le (p : Int) : ∀ (l : List Qd) (m : Nat), l.foldl (remB p) m ≤ m
  | [], _ => Nat.le_refl _
  | a :: l, m => by
    rw [List.foldl_cons]
    refine Nat.le_trans (rem_le p l _) ?_
    unfold remB
    split
    · exact Nat.sub_le _ _
    · exact Nat.le_refl _
theorem rem_bit (p : Int) : ∀ (l : List Qd) (m : Nat) (j : Nat), (l.foldl (remB p) m).testBit j = (m.testBit j && !(l.any fun a => decide (a.1 = p) && a.2.1.toNat == j))
  | [], m, j => by simp
  | a :: l, m, j => by
    rw [List.foldl_cons, rem_bit p l, List.any_cons]
    unfold remB
    by_cases h1 : a.1 = p
    · by_cases h2 : m.testBit a.2.1.toNat = true
      · rw [if_pos ⟨h1, h2⟩, clear_bit h2]
        simp only [h1, decide_true, Bool.true_and, Bool.not_or]
        have : (j == a.2.1.toNat) = (a.2.1.toNat == j) := BEq.comm
        rw [this, Bool.and_assoc]
      · rw [if_neg (fun h => h2 h.2)]
        simp only [h1, decide_true, Bool.true_and, Bool.not_or]
        by_cases h3 : a.2.1.toNat = j
        · subst h3
          have : m.testBit a.2.1.toNat = false := by simpa using h2
          rw [this]; simp
        · have : (a.2.1.toNat == j) = false := by simp [h3]
          rw [this]; simp
    · rw [if_neg (fun h => h1 h.1)]
      simp [h1]
/-- All bits of a mask are arrows': none is left. -/
theorem rem_zero {p : Int} {l : List Qd} {m : Nat} (h : ∀ b, m.testBit b = true → ∃ a ∈ l, a.1 = p ∧ a.2.1 = (b : Int)) : l.foldl (remB p) m = 0 := by
  apply Nat.eq_of_testBit_eq
  intro j
  rw [rem_bit, Nat.zero_testBit]
  cases hj : m.testBit j with
  | false => rfl
  | true =>
    obtain ⟨a, a1, a2, a3⟩ := h j hj
    have : (l.any fun a => decide (a.1 = p) && a.2.1.toNat == j) = true := by
      rw [List.any_eq_true]
      exact ⟨a, a1, by simp [a2, a3]⟩
    rw [this]; rfl
theorem rem_has {p : Int} {l : List Qd} {m : Nat} {a : Qd} (k : Nat) (h : ((l.take k).foldl (remB p) m).testBit a.2.1.toNat = true) : m.testBit a.2.1.toNat = true := by
  rw [rem_bit, Bool.and_eq_true] at h
  exact h.1
open Go.RowKit in
theorem and_one {n : Nat} (h : n < 65536) : bits .and .i64 (n : Int) 1 = ((n % 2 : Nat) : Int) := by
  have e1 : ∀ k : Nat, k < 65536 → (BitVec.ofInt 64 (k : Int)).toNat = k := fun k hk => by rw [BitVec.toNat_ofInt]; omega
  show IntKind.i64.wrap (((BitVec.ofInt 64 (n : Int)) &&& (BitVec.ofInt 64 ((1 : Nat) : Int))).toNat : Int) = _
  rw [BitVec.toNat_and, e1 n h, e1 1 (by omega), Nat.and_one_is_mod]
  have : n % 2 < 2 := Nat.mod_lt _ (by omega)
  rcases (show n % 2 = 0 ∨ n % 2 = 1 by omega) with e | e <;> rw [e] <;> rfl
theorem tst_bit {m b : Nat} (hm : m < 65536) : (bits .and .i64 ((m : Int) / 2 ^ b) 1 == 0) = !(m.testBit b) := by
  have e : (m : Int) / 2 ^ b = ((m / 2 ^ b : Nat) : Int) := by
    rw [Int.natCast_ediv]; simp
  rw [e, and_one (Nat.lt_of_le_of_lt (Nat.div_le_self _ _) hm), Nat.testBit_eq_decide_div_mod_eq]
  generalize m / 2 ^ b = q
  rcases (show q % 2 = 0 ∨ q % 2 = 1 by omega) with e | e <;> rw [e] <;> rfl
open Go.RowKit in
theorem sub_bit {m b : Nat} (hm : m < 65536) (hb : b ≤ 15) (h : m.testBit b = true) : wrap64 ((m : Int) - wrap64 (2 ^ b)) = ((m - 2 ^ b : Nat) : Int) := by
  have h1 := bit_le h
  have h2 : ((2 : Int) ^ b) = ((2 ^ b : Nat) : Int) := by simp
  have h3 : 2 ^ b ≤ 2 ^ 15 := Nat.pow_le_pow_right (by omega) hb
  have h4 : 2 ^ 15 = 32768 := by decide
  rw [h2]
  generalize 2 ^ b = q at *
  unfold wrap64
  omega
end Go.Proofs.YtnkfibahkmmnpaaGreat
