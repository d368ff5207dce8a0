/-
  Drop: a state is taken away step by step.
-/
import Derived.Test.YtolehoibpnenlabPsP
namespace Go.Proofs.Ytolehoibpnenlab

theorem woE_snoc (g : Int) (l : List (Int × Int)) (e : Int × Int) : woE g (l ++ [e]) = woE g l ++ (if e.1 = g then [] else [(if g < e.1 then e.1 - 1 else e.1, e.2)]) := by
  by_cases h : e.1 = g <;> simp [woE, h]
theorem woE_len (g : Int) (l : List (Int × Int)) : (woE g l).length ≤ l.length := by
  rw [woE, List.length_map]
  exact List.length_filter_le _ _
theorem takeB_snoc (g : Nat) (l : List St) {i : Nat} {s : St} (h : l[i]? = some s) : takeB g (l.take (i + 1)) = takeB g (l.take i) ++ (if i = g then [] else [(s.1, woE g s.2)]) := by
  obtain ⟨hi, e⟩ := List.getElem?_eq_some_iff.1 h
  have hl : (l.take i).length = i := by simp; omega
  rw [takeB, takeB, List.take_succ_eq_append_getElem hi, e]
  rcases Nat.lt_trichotomy g i with hg | hg | hg
  · rw [List.eraseIdx_append_of_lt_length (by omega), if_neg (by omega), List.map_append]
    rfl
  · subst hg
    rw [List.eraseIdx_append_of_length_le (by omega), if_pos rfl, hl, Nat.sub_self, List.eraseIdx_of_length_le (l := l.take g) (by omega)]
    simp
  · rw [List.eraseIdx_append_of_length_le (by omega), if_neg (by omega), hl, List.eraseIdx_of_length_le (l := l.take i) (by omega), List.eraseIdx_of_length_le (l := [s]) (by simp; omega), List.map_append]
    rfl
theorem takeB_zero (g : Nat) (l : List St) : takeB g (l.take 0) = [] := by simp [takeB]
theorem takeB_all (g : Nat) (l : List St) {i : Nat} (h : l.length ≤ i) : takeB g (l.take i) = takeB g l := by rw [List.take_of_length_le h]
theorem takeB_len (g : Nat) (l : List St) (h : g < l.length) : (takeB g l).length = l.length - 1 := by
  rw [takeB, List.length_map, List.length_eraseIdx_of_lt h]
theorem takeB_le (g : Nat) (l : List St) : (takeB g l).length ≤ l.length := by
  rw [takeB, List.length_map]
  exact List.length_eraseIdx_le l g
end Go.Proofs.Ytolehoibpnenlab
