/-
  All words, all places.
-/
import Derived.Test.YtnidinppglkcpaaKsP
namespace Go.Proofs.Ytnidinppglkcpaa

def ltP (p q : Pl) : Prop := p.1 < q.1 ∨ p.1 = q.1 ∧ p.2 < q.2
theorem occ1_rise (k r : Nat) (s : Wd) : (occ1 k r s).Pairwise fun o o' => ltP o.2 o'.2 := by
  rw [occ1, List.pairwise_map]
  refine List.pairwise_lt_range.imp fun {a b} h => .inr ⟨rfl, ?_⟩
  show (a : Int) < (b : Int)
  omega
theorem occ_rise (k : Nat) : ∀ (l : List Wd) (r : Nat), (occ k r l).Pairwise fun o o' => ltP o.2 o'.2
  | [], r => by rw [occ]; exact List.Pairwise.nil
  | s :: l, r => by
    rw [occ, List.pairwise_append]
    refine ⟨occ1_rise k r s, occ_rise k l (r + 1), fun a ha b hb => .inl ?_⟩
    obtain ⟨i, _, rfl⟩ := occ1_mem ha
    obtain ⟨j, c, _, _, rfl⟩ := occ_at hb
    simp only [oc1]
    omega
theorem pls_rise (k : Nat) (l : List Wd) (w : Wd) : (plsOf (occ k 0 l) w).Pairwise ltP := by
  rw [plsOf, List.pairwise_map]
  exact (occ_rise k l 0).filter _
theorem pw_get {α : Type} {R : α → α → Prop} {l : List α} (h : l.Pairwise R) {i j : Nat} {a b : α} (hij : i < j) (ha : l[i]? = some a) (hb : l[j]? = some b) : R a b := by
  obtain ⟨h1, e1⟩ := List.getElem?_eq_some_iff.1 ha
  obtain ⟨h2, e2⟩ := List.getElem?_eq_some_iff.1 hb
  have := List.pairwise_iff_getElem.1 h i j h1 h2 hij
  rw [e1, e2] at this
  exact this
def sumP (L : List Oc) (ws : List Wd) : Nat := (ws.map fun w => (plsOf L w).length).sum
theorem sumP_snoc (L : List Oc) (ws : List Wd) (w : Wd) : sumP L (ws ++ [w]) = sumP L ws + (plsOf L w).length := by simp [sumP]
theorem one_count (w : Wd) : ∀ (ws : List Wd), ws.Nodup → (ws.map fun v => if w = v then 1 else 0).sum = if w ∈ ws then 1 else 0
  | [], _ => by simp
  | a :: r, h => by
    obtain ⟨h1, h2⟩ := List.nodup_cons.1 h
    rw [List.map_cons, List.sum_cons, one_count w r h2]
    by_cases e : w = a
    · subst e; simp [h1]
    · simp [e]
theorem sumP_all (ws : List Wd) (hn : ws.Nodup) : ∀ (L : List Oc), (∀ o ∈ L, o.1 ∈ ws) → sumP L ws = L.length
  | [], _ => by
    have : ∀ ws : List Wd, sumP [] ws = 0 := by
      intro ws
      induction ws with
      | nil => rfl
      | cons a r ih => simp only [sumP, List.map_cons, List.sum_cons] at ih ⊢; rw [ih]; rfl
    simp [this]
  | o :: L, h => by
    have ih := sumP_all ws hn L fun x hx => h x (List.mem_cons_of_mem _ hx)
    have key : ∀ us : List Wd, sumP (o :: L) us = (us.map fun v => if o.1 = v then 1 else 0).sum + sumP L us := by
      intro us
      induction us with
      | nil => rfl
      | cons a r ih =>
        simp only [sumP, List.map_cons, List.sum_cons] at ih ⊢
        rw [ih]
        have e1 : plsOf (o :: L) a = plsOf [o] a ++ plsOf L a := pls_append [o] L a
        rw [e1, List.length_append]
        by_cases e : o.1 = a
        · simp [plsOf, e]; omega
        · simp [plsOf, e]; omega
    rw [key, one_count _ _ hn, if_pos (h o List.mem_cons_self), ih, List.length_cons]
    omega
theorem sumP_le (L : List Oc) : ∀ (ws : List Wd) (j : Nat), sumP L (ws.take j) ≤ sumP L ws
  | [], j => by simp
  | a :: r, 0 => by simp [sumP]
  | a :: r, j + 1 => by
    have := sumP_le L r j
    simp only [sumP, List.take_succ_cons, List.map_cons, List.sum_cons] at this ⊢
    omega
theorem sumP_take (L : List Oc) (ws : List Wd) (j : Nat) (h : j < ws.length) : sumP L (ws.take (j + 1)) = sumP L (ws.take j) + (plsOf L (ws.getD j [])).length := by
  rw [List.take_succ_eq_append_getElem h, sumP_snoc]
  simp [List.getD, List.getElem?_eq_getElem h]
/-- How many places there are, reference by reference. -/
theorem occ_len_take (k : Nat) (refs : List Wd) (j : Nat) (h : j < refs.length) : (occ k 0 (refs.take (j + 1))).length = (occ k 0 (refs.take j)).length + ((refs.getD j []).length + 1 - k) := by
  rw [List.take_succ_eq_append_getElem h, occ_snoc, List.length_append, occ1_len]
  simp [List.getD, List.getElem?_eq_getElem h]
end Go.Proofs.Ytnidinppglkcpaa
