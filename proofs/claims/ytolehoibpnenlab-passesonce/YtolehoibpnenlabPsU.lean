/-
  Drop: the document's list of the states that can be come to is the program's.
-/
import Derived.Test.YtolehoibpnenlabPsP
namespace Go.Proofs.Ytolehoibpnenlab

/-- The document's step, sweep, rounds. -/
def comeS (x : Rc) (f : List Bool) (k : Nat) : List Bool := f.set k (f.getD k false || okS x f (x.states.getD k (0, [])))
def comeW (x : Rc) (f : List Bool) : Nat → List Bool
  | 0 => f
  | k + 1 => comeS x (comeW x f k) k
def comeR (x : Rc) : Nat → List Bool
  | 0 => List.replicate x.states.length false
  | k + 1 => comeW x (comeR x k) x.states.length
def comeL (x : Rc) : List Bool := comeR x (x.states.length + 1)

def LeF (f g : List Bool) : Prop := f.length = g.length ∧ ∀ k, f.getD k false = true → g.getD k false = true
theorem LeF.refl (f : List Bool) : LeF f f := ⟨rfl, fun _ h => h⟩
theorem LeF.trans {f g h : List Bool} (a : LeF f g) (b : LeF g h) : LeF f h := ⟨a.1.trans b.1, fun k hk => b.2 k (a.2 k hk)⟩
theorem okS_mono {x : Rc} {f g : List Bool} {s : St} (h : LeF f g) (ho : okS x f s = true) : okS x g s = true := by
  rw [okS, Bool.and_eq_true, List.any_eq_true] at ho ⊢
  obtain ⟨h1, e, he, h2⟩ := ho
  refine ⟨h1, e, he, ?_⟩
  rw [leadB, Bool.or_eq_true] at h2 ⊢
  exact h2.imp id (h.2 _)
theorem getD_set' (f : List Bool) (k j : Nat) (v : Bool) (hk : k < f.length) : (f.set k v).getD j false = if j = k then v else f.getD j false := by
  by_cases h : j = k
  · subst h
    rw [if_pos rfl, List.getD_eq_getElem?_getD, List.getElem?_set_self hk]
    rfl
  · rw [if_neg h, List.getD_eq_getElem?_getD, List.getD_eq_getElem?_getD, List.getElem?_set_ne (Ne.symm h)]
def InvF (x : Rc) (f : List Bool) : Prop := f.length = x.states.length ∧ ∀ k, f.getD k false = true → okS x f (x.states.getD k (0, [])) = true
theorem stepF_le {x : Rc} {f : List Bool} (h : InvF x f) {k : Nat} (hk : k < x.states.length) : LeF f (stepF x f k) := by
  refine ⟨by rw [stepF, List.length_set], fun j hj => ?_⟩
  rw [stepF, getD_set' _ _ _ _ (by rw [h.1]; exact hk)]
  by_cases e : j = k
  · rw [if_pos e, ← e]; exact h.2 j hj
  · rw [if_neg e]; exact hj
theorem stepF_inv {x : Rc} {f : List Bool} (h : InvF x f) {k : Nat} (hk : k < x.states.length) : InvF x (stepF x f k) := by
  have hl := stepF_le h hk
  refine ⟨by rw [← hl.1]; exact h.1, fun j hj => okS_mono hl ?_⟩
  rw [stepF, getD_set' _ _ _ _ (by rw [h.1]; exact hk)] at hj
  by_cases e : j = k
  · rw [if_pos e] at hj; rw [e]; exact hj
  · rw [if_neg e] at hj; exact h.2 j hj
theorem comeS_is {x : Rc} {f : List Bool} (h : InvF x f) (k : Nat) : comeS x f k = stepF x f k := by
  rw [comeS, stepF]
  congr 1
  by_cases e : f.getD k false = true
  · rw [e, h.2 k e]; rfl
  · rw [Bool.not_eq_true] at e; rw [e, Bool.false_or]
theorem sweep_inv {x : Rc} {f : List Bool} (h : InvF x f) : ∀ k, k ≤ x.states.length → InvF x (sweepF x f k) ∧ LeF f (sweepF x f k) ∧ comeW x f k = sweepF x f k
  | 0, _ => ⟨h, LeF.refl f, rfl⟩
  | k + 1, hk => by
    obtain ⟨h1, h2, h3⟩ := sweep_inv h k (by omega)
    refine ⟨stepF_inv h1 (by omega), h2.trans (stepF_le h1 (by omega)), ?_⟩
    rw [comeW, h3, comeS_is h1]
    rfl
theorem rounds_inv (x : Rc) : ∀ k, InvF x (roundsF x k) ∧ comeR x k = roundsF x k
  | 0 => ⟨⟨by rw [roundsF, List.length_replicate], fun k hk => by
      rw [roundsF, List.getD_eq_getElem?_getD] at hk
      rcases Nat.lt_or_ge k x.states.length with h | h
      · rw [List.getElem?_replicate, if_pos h] at hk; simp at hk
      · rw [List.getElem?_replicate, if_neg (by omega)] at hk; simp at hk⟩, rfl⟩
  | k + 1 => by
    obtain ⟨h1, h2⟩ := rounds_inv x k
    obtain ⟨h3, _, h5⟩ := sweep_inv h1 x.states.length (Nat.le_refl _)
    refine ⟨h3, ?_⟩
    rw [comeR, h2, h5]
    rfl
theorem cnt_le : ∀ (f g : List Bool), LeF f g → f.count true ≤ g.count true ∧ (f.count true = g.count true → f = g)
  | [], [], _ => ⟨Nat.le_refl _, fun _ => rfl⟩
  | [], b :: g, h => by have := h.1; simp at this
  | a :: f, [], h => by have := h.1; simp at this
  | a :: f, b :: g, h => by
    have h0 := h.2 0
    simp only [List.getD_cons_zero] at h0
    obtain ⟨h1, h2⟩ := cnt_le f g ⟨by have := h.1; simpa using this, fun k hk => by have := h.2 (k + 1); simp only [List.getD_cons_succ] at this; exact this hk⟩
    cases a <;> cases b
    · simp only [List.count_cons]
      refine ⟨by simpa using h1, fun e => by rw [h2 (by simpa using e)]⟩
    · simp only [List.count_cons]
      refine ⟨by simp; omega, fun e => by simp at e; omega⟩
    · simp at h0
    · simp only [List.count_cons]
      refine ⟨by simpa using h1, fun e => by rw [h2 (by simpa using e)]⟩
theorem rounds_more (x : Rc) : ∀ k, k ≤ (roundsF x k).count true ∨ roundsF x (k + 1) = roundsF x k
  | 0 => .inl (Nat.zero_le _)
  | k + 1 => by
    have hs : roundsF x (k + 1) = sweepF x (roundsF x k) x.states.length := rfl
    rcases rounds_more x k with h | h
    · have hl := (sweep_inv (rounds_inv x k).1 x.states.length (Nat.le_refl _)).2.1
      rw [← hs] at hl
      obtain ⟨h1, h2⟩ := cnt_le _ _ hl
      by_cases e : (roundsF x k).count true = (roundsF x (k + 1)).count true
      · right
        have := h2 e
        show sweepF x (roundsF x (k + 1)) x.states.length = _
        rw [← this, ← hs]
        exact this.symm
      · left; omega
    · right
      show sweepF x (roundsF x (k + 1)) x.states.length = _
      rw [h, ← hs]
      exact h
theorem rounds_enough (x : Rc) : roundsF x (x.states.length + 1) = roundsF x x.states.length := by
  rcases rounds_more x x.states.length with h | h
  · have hl := (sweep_inv (rounds_inv x x.states.length).1 x.states.length (Nat.le_refl _)).2.1
    obtain ⟨h1, h2⟩ := cnt_le _ _ hl
    have h3 : (sweepF x (roundsF x x.states.length) x.states.length).count true ≤ x.states.length := by
      refine Nat.le_trans List.count_le_length ?_
      rw [(sweep_inv (rounds_inv x x.states.length).1 x.states.length (Nat.le_refl _)).1.1]
      exact Nat.le_refl _
    exact (h2 (by omega)).symm
  · exact h
theorem come_found (x : Rc) : comeL x = foundB x := by
  rw [comeL, (rounds_inv x _).2, rounds_enough, foundB]
theorem found_len (x : Rc) : (foundB x).length = x.states.length := (rounds_inv x _).1.1
end Go.Proofs.Ytolehoibpnenlab
