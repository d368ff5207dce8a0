/-
  Rows and columns exchanged: the model turned over (plain).
-/
import Derived.Test.YtegndeefddlccabPwC
namespace Go.Proofs.Ytegndeefddlccab
open Go.RowKit

def mirS (L : Nat) (s : List Int) : List Int := (List.range (L * L)).map fun n => s.getD ((n % L) * L + n / L) 0
def mirM (m : Md) : Md := { m with subst := mirS m.letters.toNat m.subst, lo := - m.hi, hi := - m.lo }
def mirC (c : UInt8) : UInt8 := if c = 68 then 73 else if c = 73 then 68 else c
theorem mir_idx {L n : Nat} (h : n < L * L) : (n % L) * L + n / L < L * L ∧ (((n % L) * L + n / L) % L) * L + ((n % L) * L + n / L) / L = n := by
  have hL : 0 < L := by
    rcases Nat.eq_zero_or_pos L with h0 | h0
    · subst h0; simp at h
    · exact h0
  have h1 : n % L < L := Nat.mod_lt _ hL
  have h2 : n / L < L := Nat.div_lt_of_lt_mul h
  have h3 : (n % L) * L + n / L < L * L := by
    have : (n % L + 1) * L ≤ L * L := Nat.mul_le_mul_right L h1
    rw [Nat.add_mul] at this
    omega
  refine ⟨h3, ?_⟩
  rw [Nat.mul_comm (n % L) L, Nat.mul_add_mod, Nat.mod_eq_of_lt h2, Nat.mul_add_div hL, Nat.div_eq_of_lt h2, Nat.add_zero, Nat.mul_comm]
  exact Nat.div_add_mod n L
theorem mir_len (L : Nat) (s : List Int) : (mirS L s).length = L * L := by simp [mirS]
theorem mir_mem {L : Nat} {s : List Int} (h : s.length = L * L) (v : Int) : v ∈ mirS L s ↔ v ∈ s := by
  unfold mirS
  rw [List.mem_map]
  constructor
  · rintro ⟨n, hn, rfl⟩
    have := (mir_idx (List.mem_range.1 hn)).1
    rw [List.getD, List.getElem?_eq_getElem (by omega)]
    exact List.getElem_mem _
  · intro hv
    obtain ⟨k, hk, rfl⟩ := List.mem_iff_getElem.1 hv
    have := mir_idx (L := L) (n := k) (by omega)
    refine ⟨_, List.mem_range.2 this.1, ?_⟩
    rw [this.2, List.getD, List.getElem?_eq_getElem hk]
    rfl
theorem mir_from {L : Nat} {s : List Int} (h : s.length = L * L) (least : Int) : fromB least (mirS L s) = fromB least s := by
  unfold fromB
  rw [Bool.eq_iff_iff, List.all_eq_true, List.all_eq_true]
  exact ⟨fun hh v hv => hh v ((mir_mem h v).2 hv), fun hh v hv => hh v ((mir_mem h v).1 hv)⟩
theorem wmax_le (l : List Int) : ∀ (w B : Int), l.foldl wmax w ≤ B ↔ w ≤ B ∧ ∀ n ∈ l, max n (-n) ≤ B := by
  induction l with
  | nil => intro w B; simp
  | cons x l ih =>
    intro w B
    show l.foldl wmax (wmax w x) ≤ B ↔ _
    rw [ih, List.forall_mem_cons]
    unfold wmax
    constructor
    · rintro ⟨h1, h2⟩
      exact ⟨by omega, by omega, h2⟩
    · rintro ⟨h1, h2, h3⟩
      exact ⟨by omega, h3⟩
theorem mir_widN {L : Nat} {s : List Int} (h : s.length = L * L) : widN (mirS L s) = widN s := by
  have key : ∀ a b : List Int, (∀ v, v ∈ a → v ∈ b) → widN a ≤ widN b := fun a b hab => by
    have hb := (wmax_le b 0 (widN b)).1 (Int.le_refl _)
    exact (wmax_le a 0 (widN b)).2 ⟨hb.1, fun n hn => hb.2 n (hab n hn)⟩
  exact Int.le_antisymm (key _ _ fun v => (mir_mem h v).1) (key _ _ fun v => (mir_mem h v).2)
section
variable {m : Md}
theorem mir_wid (h : m.subst.length = m.letters.toNat * m.letters.toNat) : wid (mirM m) = wid m := by
  unfold wid mirM
  simp only [mir_widN h]
theorem mir_band : bandB (mirM m) = bandB m := by
  unfold bandB mirM fromB
  rw [Bool.eq_iff_iff]
  cases m.banded <;> simp <;> omega
theorem mir_right (h : m.subst.length = m.letters.toNat * m.letters.toNat) : rightM (mirM m) = rightM m := by
  have e1 : numbersB (mirM m) = numbersB m := by
    unfold numbersB
    rw [mir_band]
    show (gapsB m.gaps && fromB 0 [m.front, m.back] && fromB (-72057594037927936) [m.least] && fromB (-72057594037927936) (mirS m.letters.toNat m.subst) && bandB m) = _
    rw [mir_from h]
  have e2 : shapeB (mirM m) = shapeB m := by
    unfold shapeB
    show decide (2 ≤ m.letters ∧ m.letters ≤ 20 ∧ ((mirS m.letters.toNat m.subst).length : Int) = m.letters * m.letters ∧ m.gaps.length ≤ 4 ∧ 1 ≤ m.mode ∧ m.mode ≤ 4) = _
    rw [mir_len, h]
  unfold rightM
  rw [e1, e2]
theorem mir_ref (h : m.subst.length = m.letters.toNat * m.letters.toNat) (xs ys : List Int) : refE (mirM m) ys xs = refE m xs ys := by
  unfold refE
  rw [mir_right h, mir_wid h]
  show (if rightM m = true then (if lettersB m.letters ys = true ∧ lettersB m.letters xs = true then (if (ys.length : Int) ≤ most (wid m) ∧ (xs.length : Int) ≤ most (wid m) then 0 else 170) else 11) else 110) = _
  simp only [and_comm (a := lettersB m.letters ys = true), and_comm (a := (ys.length : Int) ≤ most (wid m))]
theorem mir_has (nx ny : Nat) (i j : Int) : hasB (mirM m) ny nx j i = hasB m nx ny i j := by
  unfold hasB mirM
  rw [Bool.eq_iff_iff]
  cases m.banded <;> simp <;> omega
theorem mir_go (c : UInt8) : goB (mirM m) (mirC c) = goB m c := by
  unfold goB mirC
  show ((if c = 68 then 73 else if c = 73 then 68 else c) == 77 || (((if c = 68 then 73 else if c = 73 then 68 else c) == 68 || (if c = 68 then 73 else if c = 73 then 68 else c) == 73) && decide (m.gaps ≠ []))) = _
  by_cases h1 : c = 68
  · subst h1; simp
  · by_cases h2 : c = 73
    · subst h2; simp
    · simp [h1, h2]
end
theorem mir_dn (c : UInt8) : dnB (mirC c) = ovB c := by
  unfold dnB ovB mirC
  by_cases h1 : c = 68
  · subst h1; rfl
  · by_cases h2 : c = 73
    · subst h2; rfl
    · simp [h1, h2]
theorem mir_ov (c : UInt8) : ovB (mirC c) = dnB c := by
  unfold dnB ovB mirC
  by_cases h1 : c = 68
  · subst h1; rfl
  · by_cases h2 : c = 73
    · subst h2; rfl
    · simp [h1, h2]
theorem mir_c77 (c : UInt8) : mirC c = 77 ↔ c = 77 := by
  unfold mirC
  by_cases h1 : c = 68
  · subst h1; simp
  · by_cases h2 : c = 73
    · subst h2; simp
    · simp [h1, h2]
theorem mir_inj {c d : UInt8} : mirC c = mirC d ↔ c = d := by
  have hh : ∀ c, mirC (mirC c) = c := fun c => by
    unfold mirC
    by_cases h1 : c = 68
    · subst h1; simp
    · by_cases h2 : c = 73
      · subst h2; simp
      · simp [h1, h2]
  exact ⟨fun h => by rw [← hh c, h, hh], fun h => by rw [h]⟩

end Go.Proofs.Ytegndeefddlccab
