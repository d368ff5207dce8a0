/-
  What is wrong at a token is wrong there whatever stands behind it. Factors, items, sources: what is wrong at a token is wrong there whatever stands behind it. A source up to the token behind what is wrong, and anything behind it: it is wrong at the same place.
-/
import Derived.Test.YtnnmhmlebffacaaJnAll
namespace Go.Proofs.Ytnnmhmlebffacaa
open Go.RowKit Go.Deep

def LocW {α : Type} (G : List Tk → Rs α) : Prop := ∀ p c x y, (G (p ++ c :: x)).val = none → (G (p ++ c :: x)).rest = c :: x → (G (p ++ c :: y)).val = none ∧ (G (p ++ c :: y)).rest = c :: y
theorem locW_bind {α β : Type} {F : List Tk → Rs α} {H : α → List Tk → Rs β} (hF : LocC F) (wF : LocW F) (sF : Sf F) (wH : ∀ a, LocW (H a)) (sH : ∀ a, Sf (H a)) : LocW fun l => (F l).bind H := by
  intro p c x y hv hr
  cases hx : (F (p ++ c :: x)).val with
  | none =>
    have hr' : ((F (p ++ c :: x)).bind H).rest = c :: x := hr
    rw [bind_none _ hx] at hr'
    obtain ⟨q1, q2⟩ := wF p c x y hx hr'
    show ((F (p ++ c :: y)).bind H).val = none ∧ ((F (p ++ c :: y)).bind H).rest = c :: y
    rw [bind_none _ q1]
    exact ⟨rfl, q2⟩
  | some a =>
    have hv' : ((F (p ++ c :: x)).bind H).val = none := hv
    have hr' : ((F (p ++ c :: x)).bind H).rest = c :: x := hr
    rw [bind_pre _ hx] at hv' hr'
    obtain ⟨p1, h1, _⟩ := sF (p ++ c :: x)
    obtain ⟨p2, h2, _⟩ := sH a (F (p ++ c :: x)).rest
    have hr2 : (H a (F (p ++ c :: x)).rest).rest = c :: x := hr'
    have hv2 : (H a (F (p ++ c :: x)).rest).val = none := hv'
    rw [hr2] at h2
    have hp : p = p1 ++ p2 := by
      rw [h2, ← List.append_assoc] at h1
      exact List.append_cancel_right h1
    subst hp
    show ((F (p1 ++ p2 ++ c :: y)).bind H).val = none ∧ ((F (p1 ++ p2 ++ c :: y)).bind H).rest = c :: y
    cases p2 with
    | nil =>
      rw [List.append_nil] at *
      have hr1 : (F (p1 ++ c :: x)).rest = c :: x := h2
      have e1 := hF p1 c x y a hx hr1
      rw [e1]
      rw [hr1] at hv2 hr2
      have e2 := wH a [] c x y hv2 hr2
      simp only [List.nil_append] at e2
      rw [bind_pre (x := ⟨some a, c :: y, (F (p1 ++ c :: x)).many⟩) H rfl]
      exact e2
    | cons d p3 =>
      rw [show p1 ++ d :: p3 ++ c :: x = p1 ++ d :: (p3 ++ c :: x) by simp] at *
      rw [show p1 ++ d :: p3 ++ c :: y = p1 ++ d :: (p3 ++ c :: y) by simp]
      have hr1 : (F (p1 ++ d :: (p3 ++ c :: x))).rest = d :: (p3 ++ c :: x) := by rw [h2]; rfl
      have e1 := hF p1 d (p3 ++ c :: x) (p3 ++ c :: y) a hx hr1
      rw [e1]
      rw [hr1] at hv2 hr2
      have e2 := wH a (d :: p3) c x y hv2 hr2
      simp only [List.cons_append] at e2
      rw [bind_pre (x := ⟨some a, d :: (p3 ++ c :: y), (F (p1 ++ d :: (p3 ++ c :: x))).many⟩) H rfl]
      exact e2
theorem locW_pure {α : Type} (a : α) : LocW fun l => pure' a l := fun p c x y hv _ => by cases hv
theorem locW_map {α β : Type} {F : List Tk → Rs α} (f : α → β) (h : LocW F) : LocW fun l => (F l).map f := by
  intro p c x y hv hr
  have hv' : (F (p ++ c :: x)).val.map f = none := hv
  have hn : (F (p ++ c :: x)).val = none := by
    cases hx : (F (p ++ c :: x)).val with
    | none => rfl
    | some a => rw [hx] at hv'; cases hv'
  obtain ⟨q1, q2⟩ := h p c x y hn hr
  exact ⟨by show (F (p ++ c :: y)).val.map f = none; rw [q1]; rfl, q2⟩
theorem locW_sign (s : List UInt8) : LocW (signG s) := by
  intro p c x y hv hr
  cases p with
  | nil =>
    have hv' : (if isT 6 s c = true then pure' () x else wrong' (c :: x)).val = none := hv
    show (if isT 6 s c = true then pure' () y else wrong' (c :: y)).val = none ∧ (if isT 6 s c = true then pure' () y else wrong' (c :: y)).rest = c :: y
    by_cases h : isT 6 s c = true
    · rw [if_pos h] at hv'; cases hv'
    · rw [if_neg h]; exact ⟨rfl, rfl⟩
  | cons t p =>
    have hv' : (if isT 6 s t = true then pure' () (p ++ c :: x) else wrong' (t :: (p ++ c :: x))).val = none := hv
    have hr' : (if isT 6 s t = true then pure' () (p ++ c :: x) else wrong' (t :: (p ++ c :: x))).rest = c :: x := hr
    by_cases h : isT 6 s t = true
    · rw [if_pos h] at hv'; cases hv'
    · rw [if_neg h] at hr'
      have h2 : t :: (p ++ c :: x) = c :: x := hr'
      have := congrArg List.length h2
      simp at this
      omega
theorem locW_close {α : Type} {F : List Tk → Rs α} (s : List UInt8) (hF : LocC F) (wF : LocW F) (sF : Sf F) : LocW fun l => closeG s (F l) :=
  locW_bind hF wF sF (fun a => locW_bind (loc_sign s).c (locW_sign s) (sign_sufN s) (fun _ => locW_pure a) (fun _ _ => sufN_refl _)) (fun _ _ => bind_sufN (sign_sufN s _) fun _ => sufN_refl _)
/-- A rule whose first token is told. -/
theorem locW_head {α : Type} {G : List Tk → Rs α} {t : Tk} {H : List Tk → Rs α} (hH : LocW H) (sH : Sf H) (he : ∀ r, G (t :: r) = H r) (p : List Tk) (c : Tk) (x y : List Tk) (hp : ∀ q, p ++ c :: q = t :: (p ++ c :: q).tail)
    (hv : (G (p ++ c :: x)).val = none) (hr : (G (p ++ c :: x)).rest = c :: x) : (G (p ++ c :: y)).val = none ∧ (G (p ++ c :: y)).rest = c :: y := by
  cases p with
  | nil =>
    have ht : c = t := by have := hp x; simpa using this
    subst ht
    rw [List.nil_append, he] at hr
    exact (no_grow (hr ▸ sH x) rfl).elim
  | cons d p =>
    have ht : d = t := by have := hp x; simpa using this
    subst ht
    rw [List.cons_append, he] at hv hr ⊢
    exact hH p c x y hv hr
section
variable {fac : List Tk → Rs Ex}
theorem locW_termGo (hf : LocC fac) (wf : LocW fac) (sf : Sf fac) : ∀ (m : Nat) (e : Ex), LocW (termGo fac m e)
  | 0, e => locW_pure e
  | m + 1, e => by
    intro p c x y hv hr
    obtain ⟨t, ht⟩ : ∃ t, ∀ q, p ++ c :: q = t :: (p ++ c :: q).tail := by
      cases p with
      | nil => exact ⟨c, fun q => rfl⟩
      | cons d p => exact ⟨d, fun q => rfl⟩
    by_cases hi : isT 6 [42] t = true
    · exact locW_head (H := fun r => (fac r).bind fun e2 l2 => termGo fac m (hdB 7 t, ofL [e, e2]) l2) (locW_bind hf wf sf (fun e2 => locW_termGo hf wf sf m _) (fun _ => termGo_sufN sf m _)) (fun r => bind_sufN (sf r) fun _ => termGo_sufN sf m _ _) (fun r => by rw [termGo, if_pos hi]) p c x y ht hv hr
    · rw [ht x, termGo, if_neg hi] at hv; cases hv
theorem locW_term (hf : LocC fac) (wf : LocW fac) (sf : Sf fac) : LocW (termG fac) := locW_bind hf wf sf (fun e => locW_termGo hf wf sf mx e) (fun _ => termGo_sufN sf mx _)
theorem locW_exprGo (hf : LocC fac) (wf : LocW fac) (sf : Sf fac) : ∀ (m : Nat) (e : Ex), LocW (exprGo fac m e)
  | 0, e => locW_pure e
  | m + 1, e => by
    intro p c x y hv hr
    obtain ⟨t, ht⟩ : ∃ t, ∀ q, p ++ c :: q = t :: (p ++ c :: q).tail := by
      cases p with
      | nil => exact ⟨c, fun q => rfl⟩
      | cons d p => exact ⟨d, fun q => rfl⟩
    by_cases hi : (isT 6 [43] t || isT 6 [45] t) = true
    · exact locW_head (H := fun r => (fac r).bind fun e2 l2 => exprGo fac m (hdB (if isT 6 [45] t then 6 else 5) t, ofL [e, e2]) l2) (locW_bind hf wf sf (fun e2 => locW_exprGo hf wf sf m _) (fun _ => exprGo_sufN sf m _)) (fun r => bind_sufN (sf r) fun _ => exprGo_sufN sf m _ _) (fun r => by rw [exprGo, if_pos hi]) p c x y ht hv hr
    · rw [ht x, exprGo, if_neg hi] at hv; cases hv
theorem locW_expr (hf : LocC fac) (wf : LocW fac) (sf : Sf fac) : LocW (exprG fac) := locW_bind (loc_term hf sf) (locW_term hf wf sf) (term_sufN sf) (fun e => locW_exprGo (loc_term hf sf) (locW_term hf wf sf) (term_sufN sf) mx e) (fun _ => exprGo_sufN (term_sufN sf) mx _)
theorem locW_pre {α : Type} {G : List Tk → Rs α} (f : List Tk → List Int) (h : LocW G) : LocW fun l => pre (f l) (G l) := fun p c x y hv hr => h p c x y hv hr
theorem locW_kidsGo (hf : LocC fac) (wf : LocW fac) (sf : Sf fac) : ∀ (m : Nat) (e : List Ex), LocW (kidsGo fac m e)
  | 0, e => locW_pure e
  | m + 1, e => by
    intro p c x y hv hr
    obtain ⟨t, ht⟩ : ∃ t, ∀ q, p ++ c :: q = t :: (p ++ c :: q).tail := by
      cases p with
      | nil => exact ⟨c, fun q => rfl⟩
      | cons d p => exact ⟨d, fun q => rfl⟩
    by_cases hi : isT 6 [44] t = true
    · exact locW_head (H := fun r => pre (if decide (e.length = 8) = true then [plOf r] else []) ((fac r).bind fun e2 l2 => kidsGo fac m (e ++ [e2]) l2)) (locW_pre _ (locW_bind hf wf sf (fun e2 => locW_kidsGo hf wf sf m _) (fun _ => kidsGo_sufN sf m _))) (fun r => bind_sufN (x := fac r) (sf r) fun _ => kidsGo_sufN sf m _ _) (fun r => by rw [kidsGo, if_pos hi, note_pre]) p c x y ht hv hr
    · rw [ht x, kidsGo, if_neg hi] at hv; cases hv
theorem locW_kids (hf : LocC fac) (wf : LocW fac) (sf : Sf fac) : LocW (kidsG fac) :=
  locW_bind (loc_sign [40]).c (locW_sign [40]) (sign_sufN [40])
    (fun _ => locW_close [41] (loc_bind hf sf (fun e => loc_kidsGo hf sf mx [e]) (fun _ => kidsGo_sufN sf mx _)) (locW_bind hf wf sf (fun e => locW_kidsGo hf wf sf mx [e]) (fun _ => kidsGo_sufN sf mx _)) (fun _ => bind_sufN (sf _) fun _ => kidsGo_sufN sf _ _ _))
    (fun _ _ => close_sufN (bind_sufN (sf _) fun _ => kidsGo_sufN sf _ _ _))
end
end Go.Proofs.Ytnnmhmlebffacaa
namespace Go.Proofs.Ytnnmhmlebffacaa
open Go.RowKit Go.Deep

theorem first_tk (p : List Tk) (c : Tk) : ∃ t, ∀ q, p ++ c :: q = t :: (p ++ c :: q).tail := by
  cases p with
  | nil => exact ⟨c, fun q => rfl⟩
  | cons d p => exact ⟨d, fun q => rfl⟩
/-- What begins with a token that is wrong. -/
theorem locW_here {α : Type} {G : List Tk → Rs α} {t : Tk} (he : ∀ r, G (t :: r) = wrong' (t :: r)) (p : List Tk) (c : Tk) (x y : List Tk) (hp : ∀ q, p ++ c :: q = t :: (p ++ c :: q).tail)
    (hr : (G (p ++ c :: x)).rest = c :: x) : (G (p ++ c :: y)).val = none ∧ (G (p ++ c :: y)).rest = c :: y := by
  cases p with
  | nil =>
    have ht : c = t := by have := hp x; simpa using this
    subst ht
    rw [List.nil_append, he]; exact ⟨rfl, rfl⟩
  | cons d p =>
    have ht : d = t := by have := hp x; simpa using this
    subst ht
    rw [List.cons_append, he] at hr
    have h2 : d :: (p ++ c :: x) = c :: x := hr
    have := congrArg List.length h2
    simp at this
    omega
theorem locW_fac : ∀ (n : Nat), LocW (facN n)
  | 0 => by
    intro p c x y hv hr
    have h2 : p ++ c :: x = c :: x := hr
    have hp : p = [] := by
      have := congrArg List.length h2
      rw [List.length_append] at this
      exact List.eq_nil_of_length_eq_zero (by omega)
    subst hp
    exact ⟨rfl, rfl⟩
  | n + 1 => by
    intro p c x y hv hr
    have ih := locW_fac n
    have ic := loc_fac n
    have si := fac_sufN n
    obtain ⟨t, ht⟩ := first_tk p c
    by_cases h2 : t.kind = 2
    · rw [ht x, facN, if_pos h2] at hv; cases hv
    · by_cases h3 : t.kind = 3
      · rw [ht x, facN, if_neg h2, if_pos h3] at hv; cases hv
      · by_cases h5 : t.kind = 5
        · rw [ht x, facN, if_neg h2, if_neg h3, if_pos h5] at hv; cases hv
        · cases ha : isT 6 [45] t with
          | true => exact locW_head (locW_map (fun e => (hdB 4 t, ofL [e])) ih) (fun r => si r) (fun r => by rw [facN, if_neg h2, if_neg h3, if_neg h5, if_pos ha]) p c x y ht hv hr
          | false =>
            have na : ¬ isT 6 [45] t = true := by rw [ha]; decide
            cases hb : isT 6 [40] t with
            | true => exact locW_head (locW_close [41] (loc_expr ic si) (locW_expr ic ih si) (expr_sufN si)) (fun r => close_sufN (expr_sufN si r)) (fun r => by rw [facN, if_neg h2, if_neg h3, if_neg h5, if_neg na, if_pos hb]) p c x y ht hv hr
            | false =>
              have nb : ¬ isT 6 [40] t = true := by rw [hb]; decide
              cases hc : isT 4 wMin t with
              | true => exact locW_head (locW_map (fun ks => (hdB 8 t, ofL ks)) (locW_kids (loc_expr ic si) (locW_expr ic ih si) (expr_sufN si))) (fun r => kids_sufN (expr_sufN si) r) (fun r => by rw [facN, if_neg h2, if_neg h3, if_neg h5, if_neg na, if_neg nb, if_pos hc]) p c x y ht hv hr
              | false =>
                have nc : ¬ isT 4 wMin t = true := by rw [hc]; decide
                cases hd : isT 4 wMax t with
                | true => exact locW_head (locW_map (fun ks => (hdB 9 t, ofL ks)) (locW_kids (loc_expr ic si) (locW_expr ic ih si) (expr_sufN si))) (fun r => kids_sufN (expr_sufN si) r) (fun r => by rw [facN, if_neg h2, if_neg h3, if_neg h5, if_neg na, if_neg nb, if_neg nc, if_pos hd]) p c x y ht hv hr
                | false =>
                  have nd' : ¬ isT 4 wMax t = true := by rw [hd]; decide
                  exact locW_here (fun r => by rw [facN, if_neg h2, if_neg h3, if_neg h5, if_neg na, if_neg nb, if_neg nc, if_neg nd']) p c x y ht hr
theorem locW_name : LocW nameG := by
  intro p c x y hv hr
  obtain ⟨t, ht⟩ := first_tk p c
  by_cases h : t.kind = 3
  · rw [ht x] at hv
    have hv' : (if t.kind = 3 then pure' t.text (p ++ c :: x).tail else wrong' (t :: (p ++ c :: x).tail)).val = none := hv
    rw [if_pos h] at hv'; cases hv'
  · exact locW_here (fun r => by show (if t.kind = 3 then _ else _) = _; rw [if_neg h]) p c x y ht hr
theorem locW_way : LocW wayG := by
  intro p c x y hv hr
  obtain ⟨t, ht⟩ := first_tk p c
  by_cases h : t.kind = 4 ∧ isWayB t.text = true
  · rw [ht x] at hv
    have hv' : (if t.kind = 4 ∧ isWayB t.text = true then pure' t.text (p ++ c :: x).tail else wrong' (t :: (p ++ c :: x).tail)).val = none := hv
    rw [if_pos h] at hv'; cases hv'
  · exact locW_here (fun r => by show (if t.kind = 4 ∧ isWayB t.text = true then _ else _) = _; rw [if_neg h]) p c x y ht hr
section
variable {ex : List Tk → Rs Ex}
theorem locW_one (hf : LocC ex) (wf : LocW ex) (sf : Sf ex) : LocW (oneG ex) := locW_bind hf wf sf (fun a => locW_pure (ofL [a])) (fun _ _ => sufN_refl _)
theorem locW_both (hf : LocC ex) (wf : LocW ex) (sf : Sf ex) (s : List UInt8) : LocW (bothG ex s) :=
  locW_bind hf wf sf (fun a => locW_bind (loc_sign s).c (locW_sign s) (sign_sufN s) (fun _ => locW_bind hf wf sf (fun b => locW_pure (ofL [a, b])) (fun _ _ => sufN_refl _)) (fun _ _ => bind_sufN (sf _) fun _ => sufN_refl _)) (fun _ _ => bind_sufN (sign_sufN s _) fun _ => bind_sufN (sf _) fun _ => sufN_refl _)
theorem locW_body (hf : LocC ex) (wf : LocW ex) (sf : Sf ex) (k : Int) : LocW (bodyG ex k) := by
  unfold bodyG
  by_cases h1 : k = 1
  · simp only [h1, if_true]
    exact locW_bind loc_name locW_name name_sufN (fun s => locW_bind (loc_sign _).c (locW_sign _) (sign_sufN _) (fun _ => locW_bind (loc_one hf sf) (locW_one hf wf sf) (one_sufN sf) (fun F => locW_pure (s, F)) (fun _ _ => sufN_refl _)) (fun _ _ => bind_sufN (one_sufN sf _) fun _ => sufN_refl _)) (fun _ _ => bind_sufN (sign_sufN _ _) fun _ => bind_sufN (one_sufN sf _) fun _ => sufN_refl _)
  · by_cases h7 : k = 7
    · simp only [if_neg h1, if_pos h7]
      exact locW_bind loc_way locW_way way_sufN (fun s => locW_pure (s, (BT.nil : Fo))) (fun _ _ => sufN_refl _)
    · by_cases h8 : k = 8
      · simp only [if_neg h1, if_neg h7, if_pos h8]
        exact locW_bind (loc_both hf sf _) (locW_both hf wf sf _) (both_sufN sf _) (fun F => locW_pure (([] : List UInt8), F)) (fun _ _ => sufN_refl _)
      · by_cases h5 : k = 5 ∨ k = 6 ∨ k = 9
        · simp only [if_neg h1, if_neg h7, if_neg h8, if_pos h5]
          exact locW_bind (loc_both hf sf _) (locW_both hf wf sf _) (both_sufN sf _) (fun F => locW_pure (([] : List UInt8), F)) (fun _ _ => sufN_refl _)
        · simp only [if_neg h1, if_neg h7, if_neg h8, if_neg h5]
          exact locW_bind (loc_one hf sf) (locW_one hf wf sf) (one_sufN sf) (fun F => locW_pure (([] : List UInt8), F)) (fun _ _ => sufN_refl _)
theorem locW_item (hf : LocC ex) (wf : LocW ex) (sf : Sf ex) : LocW (itemG ex) := by
  intro p c x y hv hr
  obtain ⟨t, ht⟩ := first_tk p c
  have e : ∀ r, itemG ex (t :: r) = if t.kind = 4 ∧ itemKindB t.text ≠ 0 then (closeG [59] (bodyG ex (itemKindB t.text) r)).map (fun b => (⟨itemKindB t.text, b.1, b.2, t.pl⟩ : It)) else wrong' (t :: r) := fun _ => rfl
  by_cases h : t.kind = 4 ∧ itemKindB t.text ≠ 0
  · exact locW_head (locW_map (fun b => (⟨itemKindB t.text, b.1, b.2, t.pl⟩ : It)) (locW_close [59] (loc_body hf sf _) (locW_body hf wf sf _) (body_sufN sf _))) (fun r => close_sufN (body_sufN sf _ r)) (fun r => by rw [e, if_pos h]) p c x y ht hv hr
  · exact locW_here (fun r => by rw [e, if_neg h]) p c x y ht hr
end
end Go.Proofs.Ytnnmhmlebffacaa
namespace Go.Proofs.Ytnnmhmlebffacaa
open Go.RowKit Go.Deep

section
variable {ex : List Tk → Rs Ex}
theorem loc_item (hf : LocC ex) (sf : Sf ex) : LocC (itemG ex) := by
  intro p c x y a hv hr
  obtain ⟨t, ht⟩ := first_tk p c
  have e : ∀ r, itemG ex (t :: r) = if t.kind = 4 ∧ itemKindB t.text ≠ 0 then (closeG [59] (bodyG ex (itemKindB t.text) r)).map (fun b => (⟨itemKindB t.text, b.1, b.2, t.pl⟩ : It)) else wrong' (t :: r) := fun _ => rfl
  by_cases h : t.kind = 4 ∧ itemKindB t.text ≠ 0
  · exact loc_head (loc_map (fun b => (⟨itemKindB t.text, b.1, b.2, t.pl⟩ : It)) (loc_close [59] (loc_body hf sf _) (body_sufN sf _)).c) (fun r => close_sufN (body_sufN sf _ r)) (fun r => by rw [e, if_pos h]) p c x y a ht hv hr
  · rw [ht x, e, if_neg h] at hv; cases hv
theorem source_sufN (sf : Sf ex) : ∀ (m : Nat) (its : List It), Sf (sourceGo ex m its)
  | 0, its, l => sufN_refl _
  | _ + 1, its, [] => sufN_refl _
  | m + 1, its, t :: r => by
    rw [sourceGo]
    split
    · exact sufN_refl _
    · exact note_sufN (bind_sufN (item_sufN sf _) fun i => source_sufN sf m _ _)
theorem locW_source (hf : LocC ex) (wf : LocW ex) (sf : Sf ex) : ∀ (m : Nat) (its : List It), LocW (sourceGo ex m its)
  | 0, its => locW_pure its
  | m + 1, its => by
    intro p c x y hv hr
    obtain ⟨t, ht⟩ := first_tk p c
    by_cases h : t.kind = 1
    · rw [ht x, sourceGo, if_pos h] at hv; cases hv
    · have e : ∀ q, sourceGo ex (m + 1) its (p ++ c :: q) = pre (if decide (its.length = 100) = true then [plOf (p ++ c :: q)] else []) ((itemG ex (p ++ c :: q)).bind fun i l2 => sourceGo ex m (its ++ [i]) l2) := fun q => by
        rw [ht q, sourceGo, if_neg h, note_pre]
      rw [e] at hv hr ⊢
      exact locW_bind (loc_item hf sf) (locW_item hf wf sf) (item_sufN sf) (fun i => locW_source hf wf sf m (its ++ [i])) (fun i => source_sufN sf m (its ++ [i])) p c x y hv hr
end
theorem exprN_is (n : Nat) : exprN n = exprG (facN n) := funext fun _ => rfl
theorem sourceG_is (l : List Tk) : sourceG l = sourceGo (exprG (facN mx)) mx [] l := by
  unfold sourceG; rw [exprN_is]
theorem locW_all : LocW sourceG := by
  intro p c x y hv hr
  rw [sourceG_is] at hv hr ⊢
  exact locW_source (loc_expr (loc_fac mx) (fac_sufN mx)) (locW_expr (loc_fac mx) (locW_fac mx) (fac_sufN mx)) (expr_sufN (fac_sufN mx)) mx [] p c x y hv hr
theorem source_all : Sf sourceG := by
  intro l
  rw [sourceG_is]
  exact source_sufN (expr_sufN (fac_sufN mx)) mx [] l

theorem skip_take : ∀ (a : List UInt8) (m : Bool) (k : Nat), skipGo m a ≤ k → skipGo m (a.take k) = skipGo m a
  | [], m, k, _ => by simp [skipGo]
  | c :: r, m, 0, h => by
    have : skipGo m (c :: r) = 0 := by omega
    rw [this]; rfl
  | c :: r, m, k + 1, h => by
    have h0 := skip_take r false k
    have h1 := skip_take r true k
    have h2 := skip_take r m k
    simp only [List.take_succ_cons, skipGo] at h ⊢
    split
    · rename_i q; rw [if_pos q] at h; rw [h0 (by omega)]
    · rename_i q
      rw [if_neg q] at h
      split
      · rename_i q2; rw [if_pos q2] at h; rw [h2 (by omega)]
      · rename_i q2
        rw [if_neg q2] at h
        split
        · rename_i q3; rw [if_pos q3] at h; rw [h1 (by omega)]
        · rfl
theorem np_take {v : List UInt8} (h : NP v) (k : Nat) : NP (v.take k) := by
  intro c r hc
  cases v with
  | nil => simp at hc
  | cons d t =>
    cases k with
    | zero => simp at hc
    | succ k =>
      simp at hc
      rw [← hc.1]; exact h d t rfl
/-- The tokens of a source up to one of its tokens are those ahead of it. -/
theorem tok_take {S : List UInt8} {e : Nat} : ∀ (A : List Tk) (p : Nat) (b : Tk) (B : List Tk), p ≤ S.length → (tokB p (S.drop p)).1 = A ++ b :: B → (tokB p (S.drop p)).2.2 = 0 → b.pl = e → p ≤ e ∧ e ≤ S.length ∧ tokB p ((S.take e).drop p) = (A, 0, 0)
  | [], p, b, B, hp, h, hz, hb => by
    by_cases hs : S.drop p = []
    · rw [hs, tokB_nil] at h; cases h
    · by_cases he : errB (S.drop p) = 0
      · rw [tokB_nxt hs he] at h
        have : tkB (S.drop p) p = b := (List.cons.inj h).1
        have hpe : p = e := by rw [← hb, ← this]; rfl
        subst hpe
        refine ⟨Nat.le_refl _, hp, ?_⟩
        rw [List.drop_eq_nil_of_le (by rw [List.length_take]; omega), tokB_nil]
      · rw [tokB_err hs he] at hz; exact absurd hz he
  | a :: A, p, b, B, hp, h, hz, hb => by
    by_cases hs : S.drop p = []
    · rw [hs, tokB_nil] at h; cases h
    · by_cases he : errB (S.drop p) = 0
      · rw [tokB_nxt hs he] at h hz
        obtain ⟨ha, hr⟩ := List.cons.inj h
        obtain ⟨i1, i2, i3⟩ := tok_take A (nxt S p) b B (nxt_le hp hs he) hr hz hb
        have hgt := nxt_gt hs
        have hpos := lenB_pos hs
        have hlen := lenB_le hs he
        rw [List.length_drop] at hlen
        -- the source cut at e
        have hsp : (S.take e).drop p = (S.drop p).take (e - p) := by rw [List.drop_take]
        have hle : lenB (S.drop p) ≤ e - p := by unfold nxt at i1; omega
        have hsplit : (S.drop p).take (e - p) = (S.drop p).take (lenB (S.drop p)) ++ ((S.drop p).drop (lenB (S.drop p))).take (e - p - lenB (S.drop p)) := by
          rw [← List.take_append_drop (lenB (S.drop p)) ((S.drop p).take (e - p)), List.take_take, List.drop_take, Nat.min_eq_left hle]
        have hloc := first_local (v := ((S.drop p).drop (lenB (S.drop p))).take (e - p - lenB (S.drop p))) hs he (by
          intro c r hc hpt
          have hl : lenB (S.drop p) = (runB (S.drop p)).length := by rw [hc, lenB, if_pos hpt]
          rw [hl]
          exact np_take (run_behind (S.drop p)) _)
        rw [← hsplit, ← hsp] at hloc
        obtain ⟨g1, g2, g3, g4, g5, g6⟩ := hloc
        have hs2 : (S.take e).drop p ≠ [] := by
          intro q
          have := congrArg List.length q
          rw [List.length_drop, List.length_take, List.length_nil] at this
          omega
        have htk : tkB ((S.take e).drop p) p = tkB (S.drop p) p := by unfold tkB; rw [g2, g3, g4]
        have hnx : nxt (S.take e) p = nxt S p := by
          have e1 : (S.take e).drop (p + lenB (S.drop p)) = (S.drop (p + lenB (S.drop p))).take (e - (p + lenB (S.drop p))) := by rw [List.drop_take]
          have h1 : skipB ((S.take e).drop (p + lenB (S.drop p))) = skipB (S.drop (p + lenB (S.drop p))) := by
            rw [e1]; exact skip_take _ false _ (by have i1' := i1; unfold nxt skipB at i1'; omega)
          unfold nxt
          rw [g5, h1]
        refine ⟨by omega, i2, ?_⟩
        rw [tokB_nxt hs2 g1, htk, hnx, i3, ha]
      · rw [tokB_err hs he] at hz; exact absurd hz he
theorem scan_toks {S : List UInt8} (h : (scanB S).2.2 = 0) : S.length ≤ 4000 ∧ (tokB (skipB S) (S.drop (skipB S))).2.2 = 0 ∧ (scanB S).1 = (tokB (skipB S) (S.drop (skipB S))).1 ++ [endTk S.length] := by
  unfold scanB at h ⊢
  by_cases hl : 4000 < S.length
  · rw [if_pos hl] at h; cases h
  · rw [if_neg hl] at h ⊢
    unfold finB at h ⊢
    by_cases hz : (tokB (skipB S) (S.drop (skipB S))).2.2 = 0
    · rw [if_pos hz]; exact ⟨by omega, hz, rfl⟩
    · rw [if_neg hz] at h; exact absurd h hz
theorem scan_take {S : List UInt8} {A B : List Tk} {b : Tk} (h : (scanB S).2.2 = 0) (hA : (scanB S).1 = A ++ b :: B) : b.pl ≤ S.length ∧ scanB (S.take b.pl) = (A ++ [endTk b.pl], 0, 0) := by
  obtain ⟨h4, hz, hT⟩ := scan_toks h
  rw [hT] at hA
  by_cases hB : B = []
  · subst hB
    obtain ⟨e1, e2⟩ := List.append_inj' hA rfl
    have hb : b = endTk S.length := (List.cons.inj e2).1.symm
    subst hb
    refine ⟨Nat.le_refl _, ?_⟩
    show scanB (S.take S.length) = _
    rw [List.take_length]
    have hp := (scan_good h).2.1
    have h5 : scanB S = ((scanB S).1, (scanB S).2.1, (scanB S).2.2) := rfl
    rw [h5, hp, h, hT, e1]; rfl
  · obtain ⟨B', z, rfl⟩ : ∃ B' z, B = B' ++ [z] := ⟨B.dropLast, B.getLast hB, (List.dropLast_concat_getLast hB).symm⟩
    rw [show A ++ b :: (B' ++ [z]) = (A ++ b :: B') ++ [z] by simp] at hA
    obtain ⟨e1, e2⟩ := List.append_inj' hA rfl
    obtain ⟨i1, i2, i3⟩ := tok_take A (skipB S) b B' (skipB_le S) e1 hz rfl
    refine ⟨i2, ?_⟩
    have hk : skipB (S.take b.pl) = skipB S := skip_take S false _ i1
    unfold scanB
    rw [if_neg (by rw [List.length_take]; omega), hk, i3, List.length_take, Nat.min_eq_left i2]
    rfl
/-- What is wrong, and where: the wrong token and those ahead of it. -/
theorem parse_first {S : List UInt8} (h : (scanB S).2.2 = 0) (h7 : (parseW S).2.1 = 70) : ∃ p c x, (scanB S).1 = p ++ c :: x ∧ (parseW S).2 = (70, (c.pl : Int)) ∧ (x = [] → c = endTk S.length) ∧ (∀ b B, x = b :: B → b.pl ≤ S.length ∧
    ∀ T, (scanB (S.take b.pl ++ 10 :: T)).2.2 = 0 → (parseW (S.take b.pl ++ 10 :: T)).2 = (70, (c.pl : Int))) := by
  have eW : parseW S = endW (sourceG (scanB S).1) := by unfold parseW; rw [if_neg (by simpa using h)]
  obtain ⟨_, _, T1, hT1, hg1, hpw⟩ := scan_good h
  have hv : (sourceG (scanB S).1).val = none := by
    rw [eW] at h7
    unfold endW at h7
    cases hx : (sourceG (scanB S).1).val with
    | none => rfl
    | some its =>
      rw [hx] at h7
      simp only at h7
      by_cases q : (flt (sourceG (scanB S).1).many (0, 0)).1 = 0
      · rw [if_neg (by simpa using q)] at h7
        by_cases q2 : (deepR its).1 = 0
        · rw [if_neg (by simpa using q2)] at h7; cases h7
        · rw [if_pos (by simpa using q2)] at h7
          unfold deepR at h7
          split at h7 <;> cases h7
      · rw [if_pos (by simpa using q)] at h7
        cases hm : (sourceG (scanB S).1).many with
        | nil => rw [hm] at h7; cases h7
        | cons a r => rw [hm] at h7; cases h7
  obtain ⟨p, hp, hk⟩ := source_all (scanB S).1
  cases hr : (sourceG (scanB S).1).rest with
  | nil =>
    rw [hr, List.append_nil] at hp
    exact absurd rfl (hk (endTk S.length) (by rw [← hp, hT1]; simp))
  | cons c x =>
    rw [hr] at hp
    refine ⟨p, c, x, hp, ?_, ?_, ?_⟩
    · rw [eW]; unfold endW; rw [hv, hr]; rfl
    · rintro rfl
      rw [hp] at hT1
      exact (List.cons.inj (List.append_inj' hT1 rfl).2).1
    · rintro b B rfl
      obtain ⟨t1, t2⟩ := scan_take (A := p ++ [c]) (b := b) (B := B) h (by rw [hp]; simp)
      refine ⟨t1, fun T hT => ?_⟩
      have hl : (S.take b.pl).length + T.length + 1 ≤ 4000 := by
        have := (scan_good hT).1
        rw [List.length_append, List.length_cons] at this
        omega
      obtain ⟨_, j2, j3⟩ := scan_join hl
      have z1 : (scanB (S.take b.pl)).2.2 = 0 := by rw [t2]
      have z2 : (scanB T).2.2 = 0 := by
        by_cases q : (scanB T).2.2 = 0
        · exact q
        · rw [j2 z1 q] at hT; exact absurd hT q
      obtain ⟨A, hA, hJ⟩ := j3 z1 z2
      have hAe : A = p ++ [c] := by
        rw [t2] at hA
        have := congrArg Prod.fst hA
        simp only at this
        exact (List.append_inj' this rfl).1.symm
      subst hAe
      have eJ : parseW (S.take b.pl ++ 10 :: T) = endW (sourceG (p ++ c :: (scanB T).1.map (shiftT ((S.take b.pl).length + 1)))) := by
        unfold parseW
        rw [hJ, if_neg (by simp)]
        simp
      rw [hp] at hv hr
      obtain ⟨w1, w2⟩ := locW_all p c (b :: B) ((scanB T).1.map (shiftT ((S.take b.pl).length + 1))) hv hr
      rw [eJ]
      unfold endW
      rw [w1, w2]
      rfl
end Go.Proofs.Ytnnmhmlebffacaa
