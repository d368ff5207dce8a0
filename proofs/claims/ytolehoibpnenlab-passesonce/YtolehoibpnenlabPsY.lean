/-
  Drop: how much is left, at most.
-/
import Derived.Test.YtolehoibpnenlabPsX
import Derived.Test.YtolehoibpnenlabPoA
namespace Go.Proofs.Ytolehoibpnenlab

theorem takeB_edges (g : Nat) (l : List St) (n : Nat) (h : ∀ s ∈ l, s.2.length ≤ n) : ∀ s ∈ takeB g l, s.2.length ≤ n := fun s hs => by
  rw [takeB, List.mem_map] at hs
  obtain ⟨t, ht, rfl⟩ := hs
  exact Nat.le_trans (woE_len _ _) (h t (List.mem_of_mem_eraseIdx ht))
theorem dropG_le (f : List Bool) : ∀ (k : Nat) (l : List St), (dropG f k l).length ≤ l.length
  | 0, _ => Nat.le_refl _
  | k + 1, l => by
    rw [dropG]
    refine Nat.le_trans (dropG_le f k _) ?_
    split
    · exact Nat.le_refl _
    · exact takeB_le k l
theorem dropG_edges (f : List Bool) (n : Nat) : ∀ (k : Nat) (l : List St), (∀ s ∈ l, s.2.length ≤ n) → ∀ s ∈ dropG f k l, s.2.length ≤ n
  | 0, _, h => h
  | k + 1, l, h => by
    rw [dropG]
    refine dropG_edges f n k _ ?_
    split
    · exact h
    · exact takeB_edges k l n h
theorem drop_fit {x : Rc} (h : rightR x = true) (hf : ∀ d ∈ x.defs, InR d.num) : Fit (dropB x) := by
  have h1 := (right_defs h).1
  have h2 := (right_subst h).1
  have h3 := (right_states h).1
  have h4 := dropG_le (foundB x) x.states.length x.states
  exact ⟨hf, by show x.defs.length ≤ _; omega, by show x.subst.length ≤ _; omega, by show (dropG _ _ _).length ≤ _; omega⟩
theorem drop_edges {x : Rc} (h : rightR x = true) : ∀ s ∈ (dropB x).states, s.2.length ≤ 100 := dropG_edges _ 100 _ _ (right_edges h)
end Go.Proofs.Ytolehoibpnenlab
