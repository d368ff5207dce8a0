/-
  Runs by their text, plain lists.
-/
import Derived.Test.YtdhphipdpjhhbaaGreatDoorPlain
namespace Go.Proofs.YtdhphipdpjhhbaaGreatDoor

/-! Runs by their text -/
theorem dig_byte {d : Nat} (h : d < 10) : isDig (UInt8.ofNat (48 + d)) = true ∧ (UInt8.ofNat (48 + d)).toNat = 48 + d := by
  have e : (UInt8.ofNat (48 + d)).toNat = 48 + d := by rw [UInt8.toNat_ofNat', Nat.mod_eq_of_lt (by omega)]
  exact ⟨by simp [isDig]; omega, e⟩
theorem tok_digits : ∀ (n : Nat) (acc : List Rn) (s : List UInt8), 1 ≤ n → tokGo acc 0 (Lib.decDigits n ++ s) = tokGo acc n s := by
  intro n
  induction n using Nat.strongRecOn with
  | ind n ih =>
    intro acc s h1
    rw [Lib.decDigits]
    split
    · rename_i hn
      obtain ⟨hd, he⟩ := dig_byte hn
      rw [List.singleton_append, tokGo, if_pos hd, if_neg (by rintro ⟨_, e⟩; rw [e] at he; have : (48 : UInt8).toNat = 48 := rfl; omega), he]
      congr 1; omega
    · rename_i hn
      obtain ⟨hd, he⟩ := dig_byte (Nat.mod_lt n (by decide : 0 < 10))
      rw [List.append_assoc, ih (n / 10) (by omega) acc _ (by omega), List.singleton_append, tokGo, if_pos hd, if_neg (by rintro ⟨e, _⟩; omega), he]
      congr 1; omega
theorem op_dig {c : UInt8} (h : isOpB c = true) : isDig c = false := by
  simp [isOpB, isColB] at h
  rcases h with (h | h | h) | h <;> (subst h; decide)
theorem tok_text : ∀ (l acc : List Rn), (∀ r ∈ l, isOpB r.1 = true ∧ 1 ≤ r.2) → tokGo acc 0 (textB l) = some (acc ++ l)
  | [], acc, _ => by simp [textB, tokGo]
  | r :: l, acc, h => by
    obtain ⟨ho, hn⟩ := h r (by simp)
    have e : textB (r :: l) = Lib.decDigits r.2.toNat ++ (r.1 :: textB l) := by simp [textB]
    rw [e, tok_digits _ _ _ (by omega), tokGo, if_neg (by rw [op_dig ho]; decide), if_neg (by omega)]
    have e2 : (r.1, ((r.2.toNat : Nat) : Int)) = r := by rw [show ((r.2.toNat : Nat) : Int) = r.2 by omega]
    rw [e2, tok_text l (acc ++ [r]) (fun x hx => h x (by simp [hx])), List.append_assoc]
    rfl
theorem dec_long (n : Nat) : 1 ≤ (Lib.decDigits n).length := by
  rw [Lib.decDigits]; split <;> simp
theorem text_back {l : List Rn} (h : rightB l = true) : (textA l).2 = 0 ∧ parseA (textA l).1 = (l, 0) := by
  rw [textA, if_pos h]
  refine ⟨rfl, ?_⟩
  by_cases h0 : l = []
  · subst h0; rfl
  · simp only [if_neg h0]
    have hl : 2 ≤ (textB l).length := by
      cases l with
      | nil => exact absurd rfl h0
      | cons r l => have := dec_long r.2.toNat; simp [textB]; omega
    unfold parseA
    rw [if_neg (fun e => by rw [e] at hl; simp at hl), tok_text l [] (fun r hr => ⟨(right_each h r hr).1, (right_each h r hr).2.1⟩), List.nil_append, finA, if_pos ⟨h0, h⟩]

end Go.Proofs.YtdhphipdpjhhbaaGreatDoor
