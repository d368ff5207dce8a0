/-
  Drop done once more.
-/
import Derived.Test.YtolehoibpnenlabPoP
import Derived.Test.YtolehoibpnenlabPsU
namespace Go.Proofs.Ytolehoibpnenlab

/-- Each state that is told has an edge from the beginning, or from one that is told and ranks lower. -/
def Sup (x : Rc) (l : List St) (f : List Bool) (r : Nat → Nat) : Prop := f.length = l.length ∧ ∀ i, f.getD i false = true → barB x (l.getD i (0, [])).1 = false ∧ ∃ e ∈ (l.getD i (0, [])).2, e.1 = -1 ∨ ∃ j : Nat, e.1 = j ∧ f.getD j false = true ∧ r j < r i
theorem getD_erase {α : Type} (l : List α) (k i : Nat) (d : α) : (l.eraseIdx k).getD i d = l.getD (if i < k then i else i + 1) d := by
  rw [List.getD_eq_getElem?_getD, List.getD_eq_getElem?_getD, List.getElem?_eraseIdx]
  split <;> rfl
theorem takeB_getD (k : Nat) (l : List St) (i : Nat) : (takeB k l).getD i (0, []) = ((l.getD (if i < k then i else i + 1) (0, [])).1, woE k (l.getD (if i < k then i else i + 1) (0, [])).2) := by
  rw [← getD_erase, takeB, List.getD_eq_getElem?_getD, List.getElem?_map, List.getD_eq_getElem?_getD]
  cases (l.eraseIdx k)[i]? <;> rfl
theorem woE_mem {k : Nat} {es : List (Int × Int)} {e : Int × Int} (h : e ∈ es) (hk : e.1 ≠ k) : ((if (k : Int) < e.1 then e.1 - 1 else e.1), e.2) ∈ woE k es := by
  rw [woE, List.mem_map]
  exact ⟨e, List.mem_filter.2 ⟨h, by simpa using hk⟩, rfl⟩
theorem sup_take {x : Rc} {l : List St} {f : List Bool} {r : Nat → Nat} (h : Sup x l f r) {k : Nat} (hk : k < l.length) (hf : f.getD k false = false) : Sup x (takeB k l) (f.eraseIdx k) (fun j => r (if j < k then j else j + 1)) := by
  refine ⟨by rw [takeB_len k l hk, List.length_eraseIdx_of_lt (by rw [h.1]; exact hk), h.1], fun i hi => ?_⟩
  rw [getD_erase] at hi
  obtain ⟨h1, e, he, h2⟩ := h.2 _ hi
  rw [takeB_getD]
  refine ⟨h1, ?_⟩
  rcases h2 with h2 | ⟨j, h2, h3, h4⟩
  · refine ⟨_, woE_mem he (by omega), .inl ?_⟩
    show (if (k : Int) < e.1 then e.1 - 1 else e.1) = -1
    rw [if_neg (by omega)]
    exact h2
  · have hjk : j ≠ k := fun e => by rw [e, hf] at h3; cases h3
    refine ⟨_, woE_mem he (by omega), .inr ⟨if j < k then j else j - 1, ?_, ?_, ?_⟩⟩
    · show (if (k : Int) < e.1 then e.1 - 1 else e.1) = _
      split <;> split <;> omega
    · rw [getD_erase]
      have : (if (if j < k then j else j - 1) < k then (if j < k then j else j - 1) else (if j < k then j else j - 1) + 1) = j := by by_cases q : j < k <;> simp only [q, if_true, if_false] <;> first | rfl | (rw [if_neg (by omega)]; omega)
      rw [this]; exact h3
    · show r (if (if j < k then j else j - 1) < k then (if j < k then j else j - 1) else (if j < k then j else j - 1) + 1) < _
      have : (if (if j < k then j else j - 1) < k then (if j < k then j else j - 1) else (if j < k then j else j - 1) + 1) = j := by by_cases q : j < k <;> simp only [q, if_true, if_false] <;> first | rfl | (rw [if_neg (by omega)]; omega)
      rw [this]; exact h4
theorem LeF.antisymm {f g : List Bool} (a : LeF f g) (b : LeF g f) : f = g := by
  have h1 := cnt_le f g a
  have h2 := cnt_le g f b
  exact h1.2 (Nat.le_antisymm h1.1 h2.1)
theorem sweep_le {x : Rc} {f : List Bool} (h : InvF x f) {k : Nat} : ∀ m, k + m ≤ x.states.length → LeF (sweepF x f k) (sweepF x f (k + m))
  | 0, _ => LeF.refl _
  | m + 1, hm => (sweep_le h m (by omega)).trans (stepF_le (sweep_inv h (k + m) (by omega)).1 (k := k + m) (show k + m < x.states.length by omega))
theorem found_closed (x : Rc) {i : Nat} (hi : i < x.states.length) : (foundB x).getD i false = okS x (foundB x) (x.states.getD i (0, [])) := by
  have hI : InvF x (foundB x) := (rounds_inv x x.states.length).1
  have hE : sweepF x (foundB x) x.states.length = foundB x := rounds_enough x
  have key : ∀ k, k ≤ x.states.length → sweepF x (foundB x) k = foundB x := fun k hk => by
    refine LeF.antisymm ?_ (sweep_inv (x := x) hI k hk).2.1
    have h1 := sweep_le (x := x) hI (k := k) (x.states.length - k) (by omega)
    rw [show k + (x.states.length - k) = x.states.length by omega] at h1
    rw [hE] at h1
    exact h1
  have h1 := key (i + 1) hi
  have h2 : sweepF x (foundB x) (i + 1) = (foundB x).set i (okS x (foundB x) (x.states.getD i (0, []))) := by
    show stepF x (sweepF x (foundB x) i) i = _
    rw [key i (by omega)]
    rfl
  rw [h2] at h1
  have h3 := getD_set' (foundB x) i i (okS x (foundB x) (x.states.getD i (0, []))) (by rw [found_len]; exact hi)
  rw [h1, if_pos rfl] at h3
  exact h3
theorem sup_found {x : Rc} {l : List St} {f : List Bool} {r : Nat → Nat} (h : Sup x l f r) (ha : ∀ i, i < l.length → f.getD i false = true) : ∀ (m i : Nat), r i < m → i < l.length → (foundB { x with states := l }).getD i false = true
  | 0, _, hm, _ => by omega
  | m + 1, i, hm, hi => by
    rw [found_closed { x with states := l } hi]
    obtain ⟨h1, e, he, h2⟩ := h.2 i (ha i hi)
    rw [okS, Bool.and_eq_true, List.any_eq_true]
    refine ⟨by rw [show barB { x with states := l } (l.getD i (0, [])).1 = barB x (l.getD i (0, [])).1 from rfl, h1]; rfl, e, he, ?_⟩
    rw [leadB]
    rcases h2 with h2 | ⟨j, h2, h3, h4⟩
    · rw [decide_eq_true h2]; rfl
    · have hj : j < l.length := by
        rcases Nat.lt_or_ge j l.length with q | q
        · exact q
        · rw [List.getD_eq_getElem?_getD, List.getElem?_eq_none (by rw [h.1]; exact q)] at h3; cases h3
      rw [h2, Int.toNat_natCast, sup_found h ha m j (by omega) hj]
      simp
theorem rank_top (r : Nat → Nat) : ∀ n, ∃ M, ∀ j, j < n → r j < M
  | 0 => ⟨0, fun j hj => by omega⟩
  | n + 1 => by
    obtain ⟨M, hM⟩ := rank_top r n
    refine ⟨M + r n + 1, fun j hj => ?_⟩
    by_cases e : j = n
    · subst e; omega
    · have := hM j (by omega); omega
theorem sup_step {x : Rc} (hr : ∀ s ∈ x.states, ∀ e ∈ s.2, -1 ≤ e.1) {f : List Bool} (hI : InvF x f) {r : Nat → Nat} (h : Sup x x.states f r) {i : Nat} (hi : i < x.states.length) : ∃ r', Sup x x.states (stepF x f i) r' := by
  have hset := getD_set' f i
  by_cases hfi : f.getD i false = true
  · refine ⟨r, ?_⟩
    rw [stepF, hI.2 i hfi]
    have : f.set i true = f := by rw [← hfi, List.getD_eq_getElem?_getD, List.getElem?_eq_getElem (by rw [hI.1]; exact hi)]; exact List.set_getElem_self _
    rw [this]; exact h
  · rw [Bool.not_eq_true] at hfi
    cases hb : okS x f (x.states.getD i (0, [])) with
    | false =>
      refine ⟨r, ?_⟩
      rw [stepF, hb]
      have : f.set i false = f := by rw [← hfi, List.getD_eq_getElem?_getD, List.getElem?_eq_getElem (by rw [hI.1]; exact hi)]; exact List.set_getElem_self _
      rw [this]; exact h
    | true =>
      obtain ⟨M, hM⟩ := rank_top r x.states.length
      refine ⟨fun j => if j = i then M else r j, by rw [stepF, List.length_set]; exact h.1, fun j hj => ?_⟩
      rw [stepF, hb] at hj ⊢
      have hl : i < f.length := by rw [hI.1]; exact hi
      have hlt : ∀ z, f.getD z false = true → z < x.states.length := fun z hz => by
        rcases Nat.lt_or_ge z x.states.length with q | q
        · exact q
        · rw [List.getD_eq_getElem?_getD, List.getElem?_eq_none (by rw [hI.1]; exact q)] at hz; cases hz
      by_cases hji : j = i
      · subst hji
        rw [okS, Bool.and_eq_true, List.any_eq_true] at hb
        obtain ⟨h1, e, he, h2⟩ := hb
        refine ⟨by simpa using h1, e, he, ?_⟩
        rw [leadB, Bool.or_eq_true, decide_eq_true_eq] at h2
        rcases h2 with h2 | h2
        · exact .inl h2
        · by_cases he1 : e.1 = -1
          · exact .inl he1
          · right
            have hge := hr (x.states.getD j (0, [])) (by rw [List.getD_eq_getElem?_getD, List.getElem?_eq_getElem hi]; exact List.getElem_mem hi) e he
            have hz := hlt _ h2
            have hne : e.1.toNat ≠ j := fun q => by rw [q, hfi] at h2; cases h2
            refine ⟨e.1.toNat, by omega, ?_, ?_⟩
            · rw [hset _ _ hl, if_neg hne]; exact h2
            · show (if e.1.toNat = j then M else r e.1.toNat) < if j = j then M else r j
              rw [if_neg hne, if_pos rfl]
              exact hM _ hz
      · rw [hset _ _ hl, if_neg hji] at hj
        obtain ⟨h1, e, he, h2⟩ := h.2 j hj
        refine ⟨h1, e, he, ?_⟩
        rcases h2 with h2 | ⟨z, h2, h3, h4⟩
        · exact .inl h2
        · have hzi : z ≠ i := fun q => by rw [q, hfi] at h3; cases h3
          refine .inr ⟨z, h2, ?_, ?_⟩
          · rw [hset _ _ hl, if_neg hzi]; exact h3
          · show (if z = i then M else r z) < if j = i then M else r j
            rw [if_neg hzi, if_neg hji]
            exact h4
theorem sup_sweep {x : Rc} (hr : ∀ s ∈ x.states, ∀ e ∈ s.2, -1 ≤ e.1) {f : List Bool} (hI : InvF x f) (h : ∃ r, Sup x x.states f r) : ∀ k, k ≤ x.states.length → ∃ r, Sup x x.states (sweepF x f k) r
  | 0, _ => h
  | k + 1, hk => by
    obtain ⟨r, h1⟩ := sup_sweep hr hI h k (by omega)
    exact sup_step hr (sweep_inv hI k (by omega)).1 h1 (by omega)
theorem sup_rounds {x : Rc} (hr : ∀ s ∈ x.states, ∀ e ∈ s.2, -1 ≤ e.1) : ∀ k, ∃ r, Sup x x.states (roundsF x k) r
  | 0 => ⟨fun _ => 0, by rw [roundsF, List.length_replicate], fun i hi => by
      rw [roundsF, List.getD_eq_getElem?_getD, List.getElem?_replicate] at hi
      split at hi <;> cases hi⟩
  | k + 1 => sup_sweep hr (rounds_inv x k).1 (sup_rounds hr k) x.states.length (Nat.le_refl _)
theorem sup_drop {x : Rc} {F : List Bool} : ∀ (k : Nat) (l : List St) (f : List Bool), k ≤ l.length → (∀ i, i < k → f.getD i false = F.getD i false) → (∀ i, k ≤ i → i < l.length → f.getD i false = true) → (∃ r, Sup x l f r) → ∃ f' r', Sup x (dropG F k l) f' r' ∧ ∀ i, i < (dropG F k l).length → f'.getD i false = true
  | 0, l, f, _, _, h2, ⟨r, h3⟩ => ⟨f, r, h3, fun i hi => h2 i (Nat.zero_le _) hi⟩
  | k + 1, l, f, hk, h1, h2, ⟨r, h3⟩ => by
    rw [dropG]
    cases hF : F.getD k false with
    | true =>
      rw [if_pos rfl]
      refine sup_drop k l f (by omega) (fun i hi => h1 i (by omega)) (fun i hi hl => ?_) ⟨r, h3⟩
      by_cases e : i = k
      · rw [e, h1 k (by omega)]; exact hF
      · exact h2 i (by omega) hl
    | false =>
      rw [if_neg (by decide)]
      have hfk : f.getD k false = false := by rw [h1 k (by omega)]; exact hF
      have hl := takeB_len k l (by omega)
      refine sup_drop k (takeB k l) (f.eraseIdx k) (by omega) (fun i hi => ?_) (fun i hi hil => ?_) ⟨_, sup_take h3 (by omega) hfk⟩
      · rw [getD_erase, if_pos hi]; exact h1 i (by omega)
      · rw [getD_erase, if_neg (by omega)]; exact h2 (i + 1) (by omega) (by omega)
theorem dropG_all {F : List Bool} : ∀ (k : Nat) (l : List St), (∀ i, i < k → F.getD i false = true) → dropG F k l = l
  | 0, _, _ => rfl
  | k + 1, l, h => by
    rw [dropG, h k (by omega), if_pos rfl]
    exact dropG_all k l fun i hi => h i (by omega)
theorem drop_once {x : Rc} (h : rightR x = true) : dropB (dropB x) = dropB x := by
  have hr : ∀ s ∈ x.states, ∀ e ∈ s.2, -1 ≤ e.1 := fun s hs e he => (right_costs h s hs e he).2.2.1
  obtain ⟨f, r, h1, h2⟩ := sup_drop (x := x) (F := foundB x) x.states.length x.states (foundB x) (Nat.le_refl _) (fun _ _ => rfl) (fun i hi hl => by omega) (sup_rounds hr x.states.length)
  have h3 : ∀ i, i < (dropB x).states.length → (foundB (dropB x)).getD i false = true := fun i hi => sup_found h1 h2 (r i + 1) i (Nat.lt_succ_self _) hi
  show { dropB x with states := dropG (foundB (dropB x)) (dropB x).states.length (dropB x).states } = dropB x
  rw [dropG_all _ _ h3]
end Go.Proofs.Ytolehoibpnenlab
