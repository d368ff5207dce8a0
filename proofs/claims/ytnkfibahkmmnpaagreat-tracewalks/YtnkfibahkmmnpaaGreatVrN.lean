/-
  The chapter's example, plain: what Check tells of it.
-/
import Derived.Test.YtnkfibahkmmnpaaGreatKad
namespace Go.Proofs.YtnkfibahkmmnpaaGreat

def exC : Cd := ⟨2, 2, 2, 0, 0, 5, [1, -1, -1, 1], [0], [(2, 0, 0, 3), (7, 0, 0, 0), (1, 0, 0, 0), (3, 1, 0, 1), (6, 0, 1, 0), (3, 1, 1, 1), (6, 0, 1, 1), (5, 0, 0, 0), (7, 1, 0, 0), (8, 1, 0, 3)], [(1, 0, 0, 1), (1, 1, 1, 1)]⟩
def exD : Cd := ⟨2, 2, 2, 0, 0, 5, [1, -1, -1, 1], [0], [(2, 0, 0, 3), (7, 0, 0, 0), (1, 0, 0, 0), (3, 1, 0, 1), (6, 0, 1, 0), (3, 1, 1, 1), (6, 0, 1, 1), (5, 0, 0, 0), (7, 1, 1, 0), (8, 1, 0, 3)], [(1, 0, 0, 1), (1, 1, 1, 1)]⟩
def noC : Cd := ⟨0, 0, 0, 0, 0, 0, [], [], [], []⟩
theorem chk_ex : chkB exC = (-1, 0) := by kernel_rfl
theorem chk_exd : chkB exD = (8, 161) := by kernel_rfl
theorem chk_no : chkB noC = (-1, 160) := by kernel_rfl

/-- Where Check tells a place, what stands behind it says nothing. -/
theorem goP_cut (c : Cd) : ∀ (l : List Qd) (S : St) (k j : Nat), (goP c S k l).1.2 ≠ 0 → (goP c S k l).1.1 = ((k + j : Nat) : Int) → goP c S k (l.take (j + 1)) = goP c S k l ∧ (goP c S k (l.take j)).1 = (-1, 0)
  | [], _, _, _, h, _ => absurd rfl h
  | q :: l, S, k, j, h, hj => by
    by_cases e : errB c S q = 0
    · have e2 : goP c S k (q :: l) = goP c (pastP S q) (k + 1) l := by rw [goP, if_pos e]
      rw [e2] at h hj
      cases j with
      | zero =>
        exfalso
        have key : ∀ (l : List Qd) (S : St) (k : Nat), (goP c S k l).1.2 ≠ 0 → (k : Int) ≤ (goP c S k l).1.1 := by
          intro l
          induction l with
          | nil => intro S k h; exact absurd rfl h
          | cons q l ih =>
            intro S k h
            rw [goP] at h ⊢
            split
            · rename_i e
              rw [if_pos e] at h
              have := ih (pastP S q) (k + 1) h
              omega
            · exact Int.le_refl _
        have := key l (pastP S q) (k + 1) h
        omega
      | succ j =>
        have ih := goP_cut c l (pastP S q) (k + 1) j h (by rw [hj]; omega)
        refine ⟨?_, ?_⟩
        · rw [e2, ← ih.1, List.take_succ_cons, goP, if_pos e]
        · rw [List.take_succ_cons, goP, if_pos e]; exact ih.2
    · have e2 : goP c S k (q :: l) = (((k : Int), errB c S q), S) := by rw [goP, if_neg e]
      rw [e2] at hj
      have : j = 0 := by simp only at hj; omega
      subst this
      refine ⟨?_, rfl⟩
      rw [e2, List.take_succ_cons, goP, if_neg e]
end Go.Proofs.YtnkfibahkmmnpaaGreat
