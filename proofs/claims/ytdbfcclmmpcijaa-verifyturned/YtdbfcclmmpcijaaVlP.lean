/-
  What is told of a code by its beginnings, plain.
-/
import Derived.Test.YtdbfcclmmpcijaaVrK
import Derived.Test.YtdbfcclmmpcijaaVrN
namespace Go.Proofs.Ytdbfcclmmpcijaa
open Go.RowKit

def cutC (c : Cd) (k : Nat) : Cd := ⟨c.letters, c.planes, c.regs, c.lo, c.hi, c.most, c.table, c.consts, c.cell.take k, c.arrows⟩
theorem cut_err (c : Cd) (k : Nat) (S : St) (q : Qd) : errB (cutC c k) S q = errB c S q := rfl
theorem cut_go (c : Cd) (n : Nat) : ∀ (l : List Qd) (S : St) (k : Nat), goP (cutC c n) S k l = goP c S k l
  | [], _, _ => rfl
  | q :: l, S, k => by rw [goP, goP, cut_err, cut_go c n l]
theorem cut_right {c : Cd} (h : rightB c = true) (k : Nat) : rightB (cutC c k) = true := by
  have hc : cellB (c.cell.take k) = true := by
    have h3 : cellB c.cell = true := by simp only [rightB, Bool.and_eq_true] at h; exact h.1.2
    simp only [cellB, Bool.and_eq_true, decide_eq_true_eq, List.all_eq_true] at h3 ⊢
    exact ⟨Nat.le_trans (by simp; omega) h3.1, fun q hq => h3.2 q (List.mem_of_mem_take hq)⟩
  simp only [rightB, Bool.and_eq_true] at h ⊢
  exact ⟨⟨h.1.1, hc⟩, h.2⟩
theorem goP_idx (c : Cd) : ∀ (l : List Qd) (S : St) (k : Nat), (goP c S k l).1.2 ≠ 0 → ∃ j, j < l.length ∧ (goP c S k l).1.1 = ((k + j : Nat) : Int)
  | [], _, _, h => absurd rfl h
  | q :: l, S, k, h => by
    rw [goP] at h ⊢
    split
    · rename_i e
      rw [if_pos e] at h
      obtain ⟨j, hj, he⟩ := goP_idx c l _ _ h
      exact ⟨j + 1, by simp; omega, by rw [he]; congr 1; omega⟩
    · exact ⟨0, by simp, rfl⟩
theorem goP_pre (c : Cd) : ∀ (l : List Qd) (S : St) (k j : Nat), (goP c S k l).1.2 = 0 → (goP c S k (l.take j)).1.2 = 0
  | [], _, _, _, _ => by simp [goP]
  | q :: l, S, k, 0, _ => rfl
  | q :: l, S, k, j + 1, h => by
    rw [goP] at h
    rw [List.take_succ_cons, goP]
    split
    · rename_i e
      rw [if_pos e] at h
      exact goP_pre c l _ _ j h
    · rename_i e
      rw [if_neg e] at h
      exact absurd h e
theorem chk_tail {c : Cd} (h1 : rightB c = true) (h2 : arsB c = true) (h3 : (goP c (st0 0) 0 c.cell).1.2 = 0) : ∃ f, chkB c = (-1, f) ∧ f ≠ 160 ∧ f ≠ 162 ∧ f ≠ 163 := by
  unfold chkB
  rw [if_neg (by rw [h1]; decide), if_neg (by rw [h2]; decide), if_neg (by rw [h3]; decide)]
  split
  · exact ⟨_, rfl, by decide, by decide, by decide⟩
  split
  · exact ⟨_, rfl, by decide, by decide, by decide⟩
  · exact ⟨_, rfl, by decide, by decide, by decide⟩
/-- Either no place is told, or one of an instruction. -/
theorem chk_cases (c : Cd) : (chkB c).1 = -1 ∨ ∃ j : Nat, j < c.cell.length ∧ (chkB c).1 = (j : Int) ∧ (chkB c).2 ≠ 0 ∧ rightB c = true ∧ chkB (cutC c (j + 1)) = chkB c ∧ ∃ f, chkB (cutC c j) = (-1, f) ∧ f ≠ 160 ∧ f ≠ 162 ∧ f ≠ 163 := by
  cases h1 : rightB c with
  | false => exact .inl (by unfold chkB; rw [if_pos h1])
  | true =>
  cases h2 : arsB c with
  | false => exact .inl (by unfold chkB; rw [if_neg (by rw [h1]; decide), if_pos h2])
  | true =>
  by_cases h3 : (goP c (st0 0) 0 c.cell).1.2 = 0
  · obtain ⟨f, hf, _⟩ := chk_tail h1 h2 h3
    exact .inl (by rw [hf])
  · have hc : chkB c = (goP c (st0 0) 0 c.cell).1 := by
      unfold chkB; rw [if_neg (by rw [h1]; decide), if_neg (by rw [h2]; decide), if_pos h3]
    obtain ⟨j, hj, he⟩ := goP_idx c c.cell (st0 0) 0 h3
    obtain ⟨e1, e2⟩ := goP_cut c c.cell (st0 0) 0 j h3 he
    refine .inr ⟨j, hj, by rw [hc, he, Nat.zero_add], by rw [hc]; exact h3, rfl, ?_, ?_⟩
    · have h3' : (goP (cutC c (j + 1)) (st0 0) 0 (c.cell.take (j + 1))).1.2 ≠ 0 := by rw [cut_go, e1]; exact h3
      have : chkB (cutC c (j + 1)) = (goP (cutC c (j + 1)) (st0 0) 0 (c.cell.take (j + 1))).1 := by
        unfold chkB; rw [if_neg (by rw [cut_right h1]; decide), if_neg (by rw [show arsB (cutC c (j + 1)) = arsB c from rfl, h2]; decide)]
        exact if_pos h3'
      rw [this, hc, cut_go, e1]
    · exact chk_tail (c := cutC c j) (cut_right h1 j) h2 (by show (goP (cutC c j) (st0 0) 0 (c.cell.take j)).1.2 = 0; rw [cut_go, e2])
theorem chk_none {c : Cd} (h1 : rightB c = true) (h : (chkB c).1 = -1) (k : Nat) : (chkB (cutC c k)).1 = -1 := by
  cases h2 : arsB c with
  | false => unfold chkB; rw [if_neg (by rw [cut_right h1]; decide), if_pos (show arsB (cutC c k) = false from h2)]
  | true =>
  by_cases h3 : (goP c (st0 0) 0 c.cell).1.2 = 0
  · obtain ⟨f, hf, _⟩ := chk_tail (c := cutC c k) (cut_right h1 k) h2 (by show (goP (cutC c k) (st0 0) 0 (c.cell.take k)).1.2 = 0; rw [cut_go]; exact goP_pre c _ _ _ _ h3)
    rw [hf]
  · have hc : chkB c = (goP c (st0 0) 0 c.cell).1 := by
      unfold chkB; rw [if_neg (by rw [h1]; decide), if_neg (by rw [h2]; decide), if_pos h3]
    obtain ⟨j, hj, he⟩ := goP_idx c c.cell (st0 0) 0 h3
    rw [hc, he] at h
    omega
theorem QdsAt.cut {w : World} {ao : Option Addr} {n : Nat} {l : List Qd} (h : QdsAt w ao n l) (k : Nat) (hk : k ≤ n) : QdsAt w ao k (l.take k) := by
  refine ⟨by rw [List.length_take, h.length]; omega, Nat.le_trans hk h.short, fun h0 => ?_⟩
  obtain ⟨b, off, e, hc⟩ := h.cells (by omega)
  refine ⟨b, off, e, fun i q hi => hc i q ?_⟩
  have hi2 : i < k := by have := (List.getElem?_eq_some_iff.1 hi).1; simp at this; omega
  rwa [List.getElem?_take_of_lt hi2] at hi
end Go.Proofs.Ytdbfcclmmpcijaa
