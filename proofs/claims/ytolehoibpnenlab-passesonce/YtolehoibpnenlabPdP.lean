/-
  Drop, Prune: what is left of a right recurrence is right.
-/
import Derived.Test.YtolehoibpnenlabPsY
namespace Go.Proofs.Ytolehoibpnenlab

theorem edges_low {ns nd a b : Int} (h : a ≤ b) : ∀ {l : List (Int × Int)}, edgesB ns nd b l = true → edgesB ns nd a l = true
  | [], _ => rfl
  | e :: r, hl => by
    simp only [edgesB, Bool.and_eq_true, inI_iff] at hl ⊢
    exact ⟨⟨⟨by omega, hl.1.1.2⟩, hl.1.2⟩, hl.2⟩
theorem edges_wo {ns nd g : Int} (hg : g ≤ ns - 1) : ∀ (l : List (Int × Int)) (least : Int), edgesB ns nd least l = true → edgesB (ns - 1) nd (if g < least then least - 1 else least) (woE g l) = true
  | [], _, _ => rfl
  | e :: r, least, h => by
    simp only [edgesB, Bool.and_eq_true, inI_iff] at h
    obtain ⟨⟨⟨h1, h2⟩, h3⟩, h4⟩ := h
    have ih := edges_wo hg r _ h4
    by_cases he : e.1 = g
    · have e1 : woE g (e :: r) = woE g r := by simp [woE, he]
      rw [e1]
      refine edges_low ?_ ih
      rw [if_neg (by omega), if_pos (by omega)]
      omega
    · have e1 : woE g (e :: r) = (if g < e.1 then e.1 - 1 else e.1, e.2) :: woE g r := by simp [woE, he]
      rw [e1]
      simp only [edgesB, Bool.and_eq_true, inI_iff]
      refine ⟨⟨⟨?_, ?_⟩, h3⟩, ?_⟩
      · split <;> split <;> omega
      · split <;> omega
      · by_cases h5 : g < e.1
        · rw [if_pos (by omega)] at ih
          rw [if_pos h5]
          rw [show e.1 - 1 + 1 = e.1 + 1 - 1 by omega]
          exact ih
        · rw [if_neg (by omega)] at ih
          rw [if_neg h5]
          exact ih
/-- States that a right recurrence may have. -/
def SOk (nd : Int) (l : List St) : Prop := l.length ≤ 9 ∧ ∀ s ∈ l, stateB l.length nd s = true
theorem takeB_ok {nd : Int} {l : List St} (h : SOk nd l) {g : Nat} (hg : g < l.length) : SOk nd (takeB g l) := by
  have hl := takeB_len g l hg
  refine ⟨by have := h.1; omega, fun s hs => ?_⟩
  rw [takeB, List.mem_map] at hs
  obtain ⟨t, ht, rfl⟩ := hs
  have h1 := h.2 t (List.mem_of_mem_eraseIdx ht)
  simp only [stateB, Bool.and_eq_true] at h1 ⊢
  refine ⟨h1.1, ?_⟩
  have h2 := edges_wo (g := (g : Int)) (by omega) t.2 (-1) h1.2
  rw [if_neg (by omega)] at h2
  rw [show ((takeB g l).length : Int) = (l.length : Int) - 1 by omega]
  exact h2
theorem right_sok {x : Rc} (h : rightR x = true) : SOk x.defs.length x.states := right_states h
theorem right_with {x : Rc} (h : rightR x = true) {l : List St} (hl : SOk x.defs.length l) : rightR { x with states := l } = true := by
  simp only [rightR, substR, endsR, statesR, bandR, Bool.and_eq_true] at h ⊢
  refine ⟨h.1, h.2.1, h.2.2.1, h.2.2.2.1, ?_, ?_⟩
  · exact decide_eq_true hl.1
  · exact List.all_eq_true.2 hl.2
theorem dropG_ok {nd : Int} (f : List Bool) : ∀ (k : Nat) (l : List St), k ≤ l.length → SOk nd l → SOk nd (dropG f k l)
  | 0, _, _, h => h
  | k + 1, l, hk, h => by
    rw [dropG]
    split
    · exact dropG_ok f k l (by omega) h
    · exact dropG_ok f k _ (by rw [takeB_len k l (by omega)]; omega) (takeB_ok h (by omega))
theorem drop_right {x : Rc} (h : rightR x = true) : rightR (dropB x) = true := right_with h (dropG_ok _ _ _ (Nat.le_refl _) (right_sok h))
theorem pruneG_ok {nd : Int} (vs : List Int) : ∀ (k : Nat) (l : List St), k ≤ l.length → SOk nd l → SOk nd (pruneG vs k l)
  | 0, _, _, h => h
  | k + 1, l, hk, h => by
    rw [pruneG]
    split
    · exact pruneG_ok vs k _ (by rw [takeB_len k l (by omega)]; omega) (takeB_ok h (by omega))
    · exact pruneG_ok vs k l (by omega) h
theorem prune_right {x : Rc} {vs : List Int} (h : rightR x = true) : rightR (pruneB x vs) = true := right_with h (pruneG_ok _ _ _ (Nat.le_refl _) (right_sok h))
end Go.Proofs.Ytolehoibpnenlab
