/-
  A gap costs at most what two cost whose columns make it up; a piece more makes none dearer (plain).
-/
import Derived.Test.YtegndeefddlccaaPqC
namespace Go.Proofs.Ytegndeefddlccaa
open Go.RowKit

theorem leastB_some (k : Int) : ∀ (l : List (Int × Int)), leastB k l ≤ 2305843009213693952 → ∃ g ∈ l, leastB k l = lineB k g := by
  have key : ∀ (l : List (Int × Int)) (a : Int), l.foldl (fun a g => min a (lineB k g)) a = a ∨ ∃ g ∈ l, l.foldl (fun a g => min a (lineB k g)) a = lineB k g := by
    intro l
    induction l with
    | nil => intro a; exact .inl rfl
    | cons x l ih =>
      intro a
      rcases ih (min a (lineB k x)) with h | ⟨g, hg, h⟩
      · rcases Int.le_total a (lineB k x) with hm | hm
        · exact .inl (by show List.foldl _ _ l = _; rw [h]; omega)
        · exact .inr ⟨x, List.mem_cons_self, by show List.foldl _ _ l = _; rw [h]; omega⟩
      · exact .inr ⟨g, List.mem_cons_of_mem _ hg, h⟩
  intro l h
  rcases key l 2305843009213693953 with he | he
  · have : leastB k l = 2305843009213693953 := he
    omega
  · exact he
theorem costE_in {k : Int} {l : List (Int × Int)} (h : costE k l = 0) : (1 ≤ k ∧ k ≤ 65536 ∧ l ≠ [] ∧ l.length ≤ 4 ∧ gapsB l = true) ∧ leastB k l ≤ 2305843009213693952 ∧ costV k l = leastB k l := by
  have h2 : costV k l = leastB k l := by unfold costV; rw [if_pos h]
  unfold costE at h
  split at h
  · rename_i h1
    split at h
    · rename_i h3
      exact ⟨h1, h3, h2⟩
    · cases h
  · cases h
theorem cost_more {k : Int} {l : List (Int × Int)} {g : Int × Int} (h1 : costE k l = 0) (h2 : costE k (l ++ [g]) = 0) : costV k (l ++ [g]) ≤ costV k l := by
  obtain ⟨_, a2, a3⟩ := costE_in h1
  obtain ⟨_, _, b3⟩ := costE_in h2
  rw [a3, b3]
  obtain ⟨x, hx, he⟩ := leastB_some k l a2
  rw [he]
  exact leastB_le k _ x (List.mem_append_left _ hx)
theorem lineB_le {k : Int} {g : Int × Int} (h : lineB k g ≤ 2305843009213693952) : lineB k g = g.1 + g.2 * k := by
  unfold lineB at *
  split at h
  · rename_i h1; rw [if_pos h1]
  · omega
theorem lineB_up {k : Int} {g : Int × Int} {n : Int} (h : g.1 + g.2 * k ≤ n) (hn : g.1 + g.2 * k ≤ 2305843009213693952) : lineB k g ≤ n := by
  unfold lineB
  rw [if_pos hn]
  exact h
theorem gaps_mem {l : List (Int × Int)} (h : gapsB l = true) {g : Int × Int} (hg : g ∈ l) : 0 ≤ g.1 ∧ 0 ≤ g.2 := by
  obtain ⟨k, hk⟩ := List.mem_iff_getElem?.1 hg
  have := gapsB_get h k g hk
  exact ⟨this.1.1, this.2.1⟩
theorem cost_split {k l : Int} {gs : List (Int × Int)} (h1 : costE k gs = 0) (h2 : costE l gs = 0) (h3 : costE (k + l) gs = 0) : costV (k + l) gs ≤ costV k gs + costV l gs ∧ (0 ≤ costV k gs ∧ costV k gs ≤ 2305843009213693952) ∧ (0 ≤ costV l gs ∧ costV l gs ≤ 2305843009213693952) := by
  obtain ⟨⟨k1, k2, _, _, kg⟩, a2, a3⟩ := costE_in h1
  obtain ⟨⟨l1, l2, _, _, _⟩, b2, b3⟩ := costE_in h2
  obtain ⟨_, c2, c3⟩ := costE_in h3
  rw [a3, b3, c3]
  obtain ⟨g, hg, hge⟩ := leastB_some k gs a2
  obtain ⟨f, hf, hfe⟩ := leastB_some l gs b2
  have hg0 := gaps_mem kg hg
  have hf0 := gaps_mem kg hf
  have e1 : leastB k gs = g.1 + g.2 * k := by rw [hge]; exact lineB_le (by rw [← hge]; exact a2)
  have e2 : leastB l gs = f.1 + f.2 * l := by rw [hfe]; exact lineB_le (by rw [← hfe]; exact b2)
  have p1 : 0 ≤ g.2 * k := Int.mul_nonneg hg0.2 (by omega)
  have p2 : 0 ≤ f.2 * l := Int.mul_nonneg hf0.2 (by omega)
  refine ⟨?_, ⟨by omega, a2⟩, ⟨by omega, b2⟩⟩
  rcases Int.le_total g.2 f.2 with hm | hm
  · have q1 : g.2 * l ≤ f.2 * l := Int.mul_le_mul_of_nonneg_right hm (by omega)
    have q2 : g.2 * (k + l) = g.2 * k + g.2 * l := Int.mul_add _ _ _
    have q3 := leastB_le (k + l) gs g hg
    by_cases hn : g.1 + g.2 * (k + l) ≤ 2305843009213693952
    · have : lineB (k + l) g ≤ leastB k gs + leastB l gs := lineB_up (by omega) hn
      omega
    · omega
  · have q1 : f.2 * k ≤ g.2 * k := Int.mul_le_mul_of_nonneg_right hm (by omega)
    have q2 : f.2 * (k + l) = f.2 * k + f.2 * l := Int.mul_add _ _ _
    have q3 := leastB_le (k + l) gs f hf
    by_cases hn : f.1 + f.2 * (k + l) ≤ 2305843009213693952
    · have : lineB (k + l) f ≤ leastB k gs + leastB l gs := lineB_up (by omega) hn
      omega
    · omega

end Go.Proofs.Ytegndeefddlccaa
