/-
  The order of paths is one: in plain lists.
-/
import Derived.Test.YtegndeefddlccaaPyB
namespace Go.Proofs.Ytegndeefddlccaa
open Go.RowKit

theorem cmpB_lt {a b : Int} : cmpB a b < 0 ↔ a < b := by unfold cmpB; constructor <;> intro h <;> (repeat (first | omega | split at h | split))
theorem cmpB_eq {a b : Int} : cmpB a b = 0 ↔ a = b := by unfold cmpB; constructor <;> intro h <;> (repeat (first | omega | split at h | split))
theorem rank_inj {a b : UInt8} (h : rankB a = rankB b) : a = b := by
  have ha := a.toNat_lt
  have hb := b.toNat_lt
  unfold rankB at h
  by_cases a1 : a = 77
  · rw [if_pos a1] at h
    by_cases b1 : b = 77
    · rw [a1, b1]
    · rw [if_neg b1] at h
      repeat (first | omega | split at h)
  · rw [if_neg a1] at h
    by_cases b1 : b = 77
    · rw [if_pos b1] at h
      repeat (first | omega | split at h)
    · rw [if_neg b1] at h
      by_cases a2 : a = 68
      · rw [if_pos a2] at h
        by_cases b2 : b = 68
        · rw [a2, b2]
        · rw [if_neg b2] at h
          repeat (first | omega | split at h)
      · rw [if_neg a2] at h
        by_cases b2 : b = 68
        · rw [if_pos b2] at h
          repeat (first | omega | split at h)
        · rw [if_neg b2] at h
          by_cases a3 : a = 73
          · rw [if_pos a3] at h
            by_cases b3 : b = 73
            · rw [a3, b3]
            · rw [if_neg b3] at h
              omega
          · rw [if_neg a3] at h
            by_cases b3 : b = 73
            · rw [if_pos b3] at h
              omega
            · rw [if_neg b3] at h
              exact UInt8.toNat_inj.1 (by omega)
theorem colR_lt (x y : UInt8) (a b : List UInt8) : colR (x :: a) (y :: b) < 0 ↔ rankB x < rankB y ∨ (rankB x = rankB y ∧ colR a b < 0) := by
  simp only [colR]
  by_cases h : rankB x = rankB y
  · rw [if_pos (cmpB_eq.2 h)]
    constructor
    · intro h2; exact .inr ⟨h, h2⟩
    · rintro (h2 | h2)
      · omega
      · exact h2.2
  · rw [if_neg (fun e => h (cmpB_eq.1 e)), cmpB_lt]
    constructor
    · intro h2; exact .inl h2
    · rintro (h2 | h2)
      · exact h2
      · exact absurd h2.1 h
theorem colR_same : ∀ (a b : List UInt8), ¬ colR a b < 0 → ¬ colR b a < 0 → a = b := by
  intro a
  induction a with
  | nil =>
    intro b h1 _
    cases b with
    | nil => rfl
    | cons y b => exact absurd (by simp [colR]) h1
  | cons x a ih =>
    intro b h1 h2
    cases b with
    | nil => exact absurd (by simp [colR]) h2
    | cons y b =>
      rw [colR_lt] at h1 h2
      have hr : rankB x = rankB y := by omega
      have := ih b (fun h => h1 (.inr ⟨hr, h⟩)) (fun h => h2 (.inr ⟨hr.symm, h⟩))
      rw [rank_inj hr, this]
theorem colR_self : ∀ (a : List UInt8), ¬ colR a a < 0 := by
  intro a
  induction a with
  | nil => simp [colR]
  | cons x a ih => rw [colR_lt]; rintro (h | h); omega; exact ih h.2
theorem colR_trans : ∀ (a b c : List UInt8), colR a b < 0 → colR b c < 0 → colR a c < 0 := by
  intro a
  induction a with
  | nil =>
    intro b c _ h2
    cases c with
    | nil =>
      cases b with
      | nil => exact h2
      | cons y b => simp [colR] at h2
    | cons z c => simp [colR]
  | cons x a ih =>
    intro b c h1 h2
    cases b with
    | nil => simp [colR] at h1
    | cons y b =>
      cases c with
      | nil => simp [colR] at h2
      | cons z c =>
        rw [colR_lt] at *
        rcases h1 with h1 | ⟨h1, h1'⟩
        · rcases h2 with h2 | ⟨h2, _⟩
          · exact .inl (by omega)
          · exact .inl (by omega)
        · rcases h2 with h2 | ⟨h2, h2'⟩
          · exact .inl (by omega)
          · exact .inr ⟨by omega, ih b c h1' h2'⟩
theorem or3_lt (x y z : Int) : orB [x, y, z] < 0 ↔ x < 0 ∨ (x = 0 ∧ (y < 0 ∨ (y = 0 ∧ z < 0))) := by
  simp only [orB]
  repeat (first | omega | split)
theorem less_iff (p q : Pt) : lessB p q = true ↔ ((endW p.i p.j p.cols).1 < (endW q.i q.j q.cols).1 ∨ ((endW p.i p.j p.cols).1 = (endW q.i q.j q.cols).1 ∧ ((endW p.i p.j p.cols).2 < (endW q.i q.j q.cols).2 ∨ ((endW p.i p.j p.cols).2 = (endW q.i q.j q.cols).2 ∧ colR p.cols.reverse q.cols.reverse < 0)))) := by
  unfold lessB cmpP
  rw [decide_eq_true_iff, or3_lt, cmpB_lt, cmpB_lt, cmpB_eq, cmpB_eq]
theorem less_trans {p q r : Pt} (h1 : lessB p q = true) (h2 : lessB q r = true) : lessB p r = true := by
  rw [less_iff] at *
  rcases h1 with h1 | ⟨h1, h1 | ⟨h1', h1''⟩⟩ <;> rcases h2 with h2 | ⟨h2, h2 | ⟨h2', h2''⟩⟩
  · exact .inl (by omega)
  · exact .inl (by omega)
  · exact .inl (by omega)
  · exact .inl (by omega)
  · exact .inr ⟨by omega, .inl (by omega)⟩
  · exact .inr ⟨by omega, .inl (by omega)⟩
  · exact .inl (by omega)
  · exact .inr ⟨by omega, .inl (by omega)⟩
  · exact .inr ⟨by omega, .inr ⟨by omega, colR_trans _ _ _ h1'' h2''⟩⟩
theorem less_self (p : Pt) : lessB p p = false := by
  cases h : lessB p p with
  | false => rfl
  | true =>
    rw [less_iff] at h
    have := colR_self p.cols.reverse
    omega
theorem less_asym {p q : Pt} (h : lessB p q = true) : lessB q p = false := by
  cases h2 : lessB q p with
  | false => rfl
  | true => rw [← less_self p]; exact (less_trans h h2).symm
theorem endW_inj : ∀ (cols : List UInt8) (i j k l : Int), (-9223372036854775808 ≤ i ∧ i < 9223372036854775808) → (-9223372036854775808 ≤ j ∧ j < 9223372036854775808) → (-9223372036854775808 ≤ k ∧ k < 9223372036854775808) → (-9223372036854775808 ≤ l ∧ l < 9223372036854775808) → endW i j cols = endW k l cols → i = k ∧ j = l := by
  intro cols
  induction cols with
  | nil => intro i j k l _ _ _ _ h; simpa [endW] using h
  | cons c cs ih =>
    intro i j k l hi hj hk hl h
    have hw : ∀ x : Int, -9223372036854775808 ≤ wrap64 x ∧ wrap64 x < 9223372036854775808 := fun x => by unfold wrap64; omega
    have := ih _ _ _ _ (hw _) (hw _) (hw _) (hw _) h
    unfold wrap64 at this
    omega
theorem less_same {p q : Pt} (hi : -9223372036854775808 ≤ p.i ∧ p.i < 9223372036854775808) (hj : -9223372036854775808 ≤ p.j ∧ p.j < 9223372036854775808) (hk : -9223372036854775808 ≤ q.i ∧ q.i < 9223372036854775808) (hl : -9223372036854775808 ≤ q.j ∧ q.j < 9223372036854775808) (h1 : lessB p q = false) (h2 : lessB q p = false) : p = q := by
  have n1 : ¬ lessB p q = true := by rw [h1]; decide
  have n2 : ¬ lessB q p = true := by rw [h2]; decide
  rw [less_iff] at n1 n2
  have e1 : (endW p.i p.j p.cols).1 = (endW q.i q.j q.cols).1 := by omega
  have e2 : (endW p.i p.j p.cols).2 = (endW q.i q.j q.cols).2 := by omega
  have e3 : p.cols = q.cols := List.reverse_inj.1 (colR_same _ _ (fun h => n1 (.inr ⟨e1, .inr ⟨e2, h⟩⟩)) (fun h => n2 (.inr ⟨e1.symm, .inr ⟨e2.symm, h⟩⟩)))
  rw [← e3] at e1 e2
  have := endW_inj p.cols _ _ _ _ hi hj hk hl (Prod.ext e1 e2)
  obtain ⟨pi, pj, pc⟩ := p
  obtain ⟨qi, qj, qc⟩ := q
  simp only at this e3
  rw [this.1, this.2, e3]
theorem wf_rng {i : Int} (h : (Lit.int .i64 i).wf = true) : -9223372036854775808 ≤ i ∧ i < 9223372036854775808 := by
  simp only [Lit.wf, IntKind.min, IntKind.max, IntKind.signed, IntKind.bits, Bool.and_eq_true, decide_eq_true_eq, if_true] at h
  omega
end Go.Proofs.Ytegndeefddlccaa
