/-
  Factors, items, sources: what is wrong at a token is wrong there whatever stands behind it.
-/
import Derived.Test.YtnnmhmlebffacaaJnW
namespace Go.Proofs.Ytnnmhmlebffacaa
open Go.RowKit Go.Deep

theorem first_tk (p : List Tk) (c : Tk) : ∃ t, ∀ q, p ++ c :: q = t :: (p ++ c :: q).tail := by
  cases p with
  | nil => exact ⟨c, fun q => rfl⟩
  | cons d p => exact ⟨d, fun q => rfl⟩
/-- What begins with a token that is wrong. -/
theorem locW_here {α : Type} {G : List Tk → Rs α} {t : Tk} (he : ∀ r, G (t :: r) = wrong' (t :: r)) (p : List Tk) (c : Tk) (x y : List Tk) (hp : ∀ q, p ++ c :: q = t :: (p ++ c :: q).tail)
    (hr : (G (p ++ c :: x)).rest = c :: x) : (G (p ++ c :: y)).val = none ∧ (G (p ++ c :: y)).rest = c :: y := by
  cases p with
  | nil =>
    have ht : c = t := by have := hp x; simpa using this
    subst ht
    rw [List.nil_append, he]; exact ⟨rfl, rfl⟩
  | cons d p =>
    have ht : d = t := by have := hp x; simpa using this
    subst ht
    rw [List.cons_append, he] at hr
    have h2 : d :: (p ++ c :: x) = c :: x := hr
    have := congrArg List.length h2
    simp at this
    omega
theorem locW_fac : ∀ (n : Nat), LocW (facN n)
  | 0 => by
    intro p c x y hv hr
    have h2 : p ++ c :: x = c :: x := hr
    have hp : p = [] := by
      have := congrArg List.length h2
      rw [List.length_append] at this
      exact List.eq_nil_of_length_eq_zero (by omega)
    subst hp
    exact ⟨rfl, rfl⟩
  | n + 1 => by
    intro p c x y hv hr
    have ih := locW_fac n
    have ic := loc_fac n
    have si := fac_sufN n
    obtain ⟨t, ht⟩ := first_tk p c
    by_cases h2 : t.kind = 2
    · rw [ht x, facN, if_pos h2] at hv; cases hv
    · by_cases h3 : t.kind = 3
      · rw [ht x, facN, if_neg h2, if_pos h3] at hv; cases hv
      · by_cases h5 : t.kind = 5
        · rw [ht x, facN, if_neg h2, if_neg h3, if_pos h5] at hv; cases hv
        · cases ha : isT 6 [45] t with
          | true => exact locW_head (locW_map (fun e => (hdB 4 t, ofL [e])) ih) (fun r => si r) (fun r => by rw [facN, if_neg h2, if_neg h3, if_neg h5, if_pos ha]) p c x y ht hv hr
          | false =>
            have na : ¬ isT 6 [45] t = true := by rw [ha]; decide
            cases hb : isT 6 [40] t with
            | true => exact locW_head (locW_close [41] (loc_expr ic si) (locW_expr ic ih si) (expr_sufN si)) (fun r => close_sufN (expr_sufN si r)) (fun r => by rw [facN, if_neg h2, if_neg h3, if_neg h5, if_neg na, if_pos hb]) p c x y ht hv hr
            | false =>
              have nb : ¬ isT 6 [40] t = true := by rw [hb]; decide
              cases hc : isT 4 wMin t with
              | true => exact locW_head (locW_map (fun ks => (hdB 8 t, ofL ks)) (locW_kids (loc_expr ic si) (locW_expr ic ih si) (expr_sufN si))) (fun r => kids_sufN (expr_sufN si) r) (fun r => by rw [facN, if_neg h2, if_neg h3, if_neg h5, if_neg na, if_neg nb, if_pos hc]) p c x y ht hv hr
              | false =>
                have nc : ¬ isT 4 wMin t = true := by rw [hc]; decide
                cases hd : isT 4 wMax t with
                | true => exact locW_head (locW_map (fun ks => (hdB 9 t, ofL ks)) (locW_kids (loc_expr ic si) (locW_expr ic ih si) (expr_sufN si))) (fun r => kids_sufN (expr_sufN si) r) (fun r => by rw [facN, if_neg h2, if_neg h3, if_neg h5, if_neg na, if_neg nb, if_neg nc, if_pos hd]) p c x y ht hv hr
                | false =>
                  have nd' : ¬ isT 4 wMax t = true := by rw [hd]; decide
                  exact locW_here (fun r => by rw [facN, if_neg h2, if_neg h3, if_neg h5, if_neg na, if_neg nb, if_neg nc, if_neg nd']) p c x y ht hr
theorem locW_name : LocW nameG := by
  intro p c x y hv hr
  obtain ⟨t, ht⟩ := first_tk p c
  by_cases h : t.kind = 3
  · rw [ht x] at hv
    have hv' : (if t.kind = 3 then pure' t.text (p ++ c :: x).tail else wrong' (t :: (p ++ c :: x).tail)).val = none := hv
    rw [if_pos h] at hv'; cases hv'
  · exact locW_here (fun r => by show (if t.kind = 3 then _ else _) = _; rw [if_neg h]) p c x y ht hr
theorem locW_way : LocW wayG := by
  intro p c x y hv hr
  obtain ⟨t, ht⟩ := first_tk p c
  by_cases h : t.kind = 4 ∧ isWayB t.text = true
  · rw [ht x] at hv
    have hv' : (if t.kind = 4 ∧ isWayB t.text = true then pure' t.text (p ++ c :: x).tail else wrong' (t :: (p ++ c :: x).tail)).val = none := hv
    rw [if_pos h] at hv'; cases hv'
  · exact locW_here (fun r => by show (if t.kind = 4 ∧ isWayB t.text = true then _ else _) = _; rw [if_neg h]) p c x y ht hr
section
variable {ex : List Tk → Rs Ex}
theorem locW_one (hf : LocC ex) (wf : LocW ex) (sf : Sf ex) : LocW (oneG ex) := locW_bind hf wf sf (fun a => locW_pure (ofL [a])) (fun _ _ => sufN_refl _)
theorem locW_both (hf : LocC ex) (wf : LocW ex) (sf : Sf ex) (s : List UInt8) : LocW (bothG ex s) :=
  locW_bind hf wf sf (fun a => locW_bind (loc_sign s).c (locW_sign s) (sign_sufN s) (fun _ => locW_bind hf wf sf (fun b => locW_pure (ofL [a, b])) (fun _ _ => sufN_refl _)) (fun _ _ => bind_sufN (sf _) fun _ => sufN_refl _)) (fun _ _ => bind_sufN (sign_sufN s _) fun _ => bind_sufN (sf _) fun _ => sufN_refl _)
theorem locW_body (hf : LocC ex) (wf : LocW ex) (sf : Sf ex) (k : Int) : LocW (bodyG ex k) := by
  unfold bodyG
  by_cases h1 : k = 1
  · simp only [h1, if_true]
    exact locW_bind loc_name locW_name name_sufN (fun s => locW_bind (loc_sign _).c (locW_sign _) (sign_sufN _) (fun _ => locW_bind (loc_one hf sf) (locW_one hf wf sf) (one_sufN sf) (fun F => locW_pure (s, F)) (fun _ _ => sufN_refl _)) (fun _ _ => bind_sufN (one_sufN sf _) fun _ => sufN_refl _)) (fun _ _ => bind_sufN (sign_sufN _ _) fun _ => bind_sufN (one_sufN sf _) fun _ => sufN_refl _)
  · by_cases h7 : k = 7
    · simp only [if_neg h1, if_pos h7]
      exact locW_bind loc_way locW_way way_sufN (fun s => locW_pure (s, (BT.nil : Fo))) (fun _ _ => sufN_refl _)
    · by_cases h8 : k = 8
      · simp only [if_neg h1, if_neg h7, if_pos h8]
        exact locW_bind (loc_both hf sf _) (locW_both hf wf sf _) (both_sufN sf _) (fun F => locW_pure (([] : List UInt8), F)) (fun _ _ => sufN_refl _)
      · by_cases h5 : k = 5 ∨ k = 6 ∨ k = 9
        · simp only [if_neg h1, if_neg h7, if_neg h8, if_pos h5]
          exact locW_bind (loc_both hf sf _) (locW_both hf wf sf _) (both_sufN sf _) (fun F => locW_pure (([] : List UInt8), F)) (fun _ _ => sufN_refl _)
        · simp only [if_neg h1, if_neg h7, if_neg h8, if_neg h5]
          exact locW_bind (loc_one hf sf) (locW_one hf wf sf) (one_sufN sf) (fun F => locW_pure (([] : List UInt8), F)) (fun _ _ => sufN_refl _)
theorem locW_item (hf : LocC ex) (wf : LocW ex) (sf : Sf ex) : LocW (itemG ex) := by
  intro p c x y hv hr
  obtain ⟨t, ht⟩ := first_tk p c
  have e : ∀ r, itemG ex (t :: r) = if t.kind = 4 ∧ itemKindB t.text ≠ 0 then (closeG [59] (bodyG ex (itemKindB t.text) r)).map (fun b => (⟨itemKindB t.text, b.1, b.2, t.pl⟩ : It)) else wrong' (t :: r) := fun _ => rfl
  by_cases h : t.kind = 4 ∧ itemKindB t.text ≠ 0
  · exact locW_head (locW_map (fun b => (⟨itemKindB t.text, b.1, b.2, t.pl⟩ : It)) (locW_close [59] (loc_body hf sf _) (locW_body hf wf sf _) (body_sufN sf _))) (fun r => close_sufN (body_sufN sf _ r)) (fun r => by rw [e, if_pos h]) p c x y ht hv hr
  · exact locW_here (fun r => by rw [e, if_neg h]) p c x y ht hr
end
end Go.Proofs.Ytnnmhmlebffacaa
