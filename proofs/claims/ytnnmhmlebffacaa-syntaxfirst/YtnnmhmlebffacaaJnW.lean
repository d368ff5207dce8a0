/-
  What is wrong at a token is wrong there whatever stands behind it.
-/
import Derived.Test.YtnnmhmlebffacaaJnP4
namespace Go.Proofs.Ytnnmhmlebffacaa
open Go.RowKit Go.Deep

def LocW {α : Type} (G : List Tk → Rs α) : Prop := ∀ p c x y, (G (p ++ c :: x)).val = none → (G (p ++ c :: x)).rest = c :: x → (G (p ++ c :: y)).val = none ∧ (G (p ++ c :: y)).rest = c :: y
theorem locW_bind {α β : Type} {F : List Tk → Rs α} {H : α → List Tk → Rs β} (hF : LocC F) (wF : LocW F) (sF : Sf F) (wH : ∀ a, LocW (H a)) (sH : ∀ a, Sf (H a)) : LocW fun l => (F l).bind H := by
  intro p c x y hv hr
  cases hx : (F (p ++ c :: x)).val with
  | none =>
    have hr' : ((F (p ++ c :: x)).bind H).rest = c :: x := hr
    rw [bind_none _ hx] at hr'
    obtain ⟨q1, q2⟩ := wF p c x y hx hr'
    show ((F (p ++ c :: y)).bind H).val = none ∧ ((F (p ++ c :: y)).bind H).rest = c :: y
    rw [bind_none _ q1]
    exact ⟨rfl, q2⟩
  | some a =>
    have hv' : ((F (p ++ c :: x)).bind H).val = none := hv
    have hr' : ((F (p ++ c :: x)).bind H).rest = c :: x := hr
    rw [bind_pre _ hx] at hv' hr'
    obtain ⟨p1, h1, _⟩ := sF (p ++ c :: x)
    obtain ⟨p2, h2, _⟩ := sH a (F (p ++ c :: x)).rest
    have hr2 : (H a (F (p ++ c :: x)).rest).rest = c :: x := hr'
    have hv2 : (H a (F (p ++ c :: x)).rest).val = none := hv'
    rw [hr2] at h2
    have hp : p = p1 ++ p2 := by
      rw [h2, ← List.append_assoc] at h1
      exact List.append_cancel_right h1
    subst hp
    show ((F (p1 ++ p2 ++ c :: y)).bind H).val = none ∧ ((F (p1 ++ p2 ++ c :: y)).bind H).rest = c :: y
    cases p2 with
    | nil =>
      rw [List.append_nil] at *
      have hr1 : (F (p1 ++ c :: x)).rest = c :: x := h2
      have e1 := hF p1 c x y a hx hr1
      rw [e1]
      rw [hr1] at hv2 hr2
      have e2 := wH a [] c x y hv2 hr2
      simp only [List.nil_append] at e2
      rw [bind_pre (x := ⟨some a, c :: y, (F (p1 ++ c :: x)).many⟩) H rfl]
      exact e2
    | cons d p3 =>
      rw [show p1 ++ d :: p3 ++ c :: x = p1 ++ d :: (p3 ++ c :: x) by simp] at *
      rw [show p1 ++ d :: p3 ++ c :: y = p1 ++ d :: (p3 ++ c :: y) by simp]
      have hr1 : (F (p1 ++ d :: (p3 ++ c :: x))).rest = d :: (p3 ++ c :: x) := by rw [h2]; rfl
      have e1 := hF p1 d (p3 ++ c :: x) (p3 ++ c :: y) a hx hr1
      rw [e1]
      rw [hr1] at hv2 hr2
      have e2 := wH a (d :: p3) c x y hv2 hr2
      simp only [List.cons_append] at e2
      rw [bind_pre (x := ⟨some a, d :: (p3 ++ c :: y), (F (p1 ++ d :: (p3 ++ c :: x))).many⟩) H rfl]
      exact e2
theorem locW_pure {α : Type} (a : α) : LocW fun l => pure' a l := fun p c x y hv _ => by cases hv
theorem locW_map {α β : Type} {F : List Tk → Rs α} (f : α → β) (h : LocW F) : LocW fun l => (F l).map f := by
  intro p c x y hv hr
  have hv' : (F (p ++ c :: x)).val.map f = none := hv
  have hn : (F (p ++ c :: x)).val = none := by
    cases hx : (F (p ++ c :: x)).val with
    | none => rfl
    | some a => rw [hx] at hv'; cases hv'
  obtain ⟨q1, q2⟩ := h p c x y hn hr
  exact ⟨by show (F (p ++ c :: y)).val.map f = none; rw [q1]; rfl, q2⟩
theorem locW_sign (s : List UInt8) : LocW (signG s) := by
  intro p c x y hv hr
  cases p with
  | nil =>
    have hv' : (if isT 6 s c = true then pure' () x else wrong' (c :: x)).val = none := hv
    show (if isT 6 s c = true then pure' () y else wrong' (c :: y)).val = none ∧ (if isT 6 s c = true then pure' () y else wrong' (c :: y)).rest = c :: y
    by_cases h : isT 6 s c = true
    · rw [if_pos h] at hv'; cases hv'
    · rw [if_neg h]; exact ⟨rfl, rfl⟩
  | cons t p =>
    have hv' : (if isT 6 s t = true then pure' () (p ++ c :: x) else wrong' (t :: (p ++ c :: x))).val = none := hv
    have hr' : (if isT 6 s t = true then pure' () (p ++ c :: x) else wrong' (t :: (p ++ c :: x))).rest = c :: x := hr
    by_cases h : isT 6 s t = true
    · rw [if_pos h] at hv'; cases hv'
    · rw [if_neg h] at hr'
      have h2 : t :: (p ++ c :: x) = c :: x := hr'
      have := congrArg List.length h2
      simp at this
      omega
theorem locW_close {α : Type} {F : List Tk → Rs α} (s : List UInt8) (hF : LocC F) (wF : LocW F) (sF : Sf F) : LocW fun l => closeG s (F l) :=
  locW_bind hF wF sF (fun a => locW_bind (loc_sign s).c (locW_sign s) (sign_sufN s) (fun _ => locW_pure a) (fun _ _ => sufN_refl _)) (fun _ _ => bind_sufN (sign_sufN s _) fun _ => sufN_refl _)
/-- A rule whose first token is told. -/
theorem locW_head {α : Type} {G : List Tk → Rs α} {t : Tk} {H : List Tk → Rs α} (hH : LocW H) (sH : Sf H) (he : ∀ r, G (t :: r) = H r) (p : List Tk) (c : Tk) (x y : List Tk) (hp : ∀ q, p ++ c :: q = t :: (p ++ c :: q).tail)
    (hv : (G (p ++ c :: x)).val = none) (hr : (G (p ++ c :: x)).rest = c :: x) : (G (p ++ c :: y)).val = none ∧ (G (p ++ c :: y)).rest = c :: y := by
  cases p with
  | nil =>
    have ht : c = t := by have := hp x; simpa using this
    subst ht
    rw [List.nil_append, he] at hr
    exact (no_grow (hr ▸ sH x) rfl).elim
  | cons d p =>
    have ht : d = t := by have := hp x; simpa using this
    subst ht
    rw [List.cons_append, he] at hv hr ⊢
    exact hH p c x y hv hr
section
variable {fac : List Tk → Rs Ex}
theorem locW_termGo (hf : LocC fac) (wf : LocW fac) (sf : Sf fac) : ∀ (m : Nat) (e : Ex), LocW (termGo fac m e)
  | 0, e => locW_pure e
  | m + 1, e => by
    intro p c x y hv hr
    obtain ⟨t, ht⟩ : ∃ t, ∀ q, p ++ c :: q = t :: (p ++ c :: q).tail := by
      cases p with
      | nil => exact ⟨c, fun q => rfl⟩
      | cons d p => exact ⟨d, fun q => rfl⟩
    by_cases hi : isT 6 [42] t = true
    · exact locW_head (H := fun r => (fac r).bind fun e2 l2 => termGo fac m (hdB 7 t, ofL [e, e2]) l2) (locW_bind hf wf sf (fun e2 => locW_termGo hf wf sf m _) (fun _ => termGo_sufN sf m _)) (fun r => bind_sufN (sf r) fun _ => termGo_sufN sf m _ _) (fun r => by rw [termGo, if_pos hi]) p c x y ht hv hr
    · rw [ht x, termGo, if_neg hi] at hv; cases hv
theorem locW_term (hf : LocC fac) (wf : LocW fac) (sf : Sf fac) : LocW (termG fac) := locW_bind hf wf sf (fun e => locW_termGo hf wf sf mx e) (fun _ => termGo_sufN sf mx _)
theorem locW_exprGo (hf : LocC fac) (wf : LocW fac) (sf : Sf fac) : ∀ (m : Nat) (e : Ex), LocW (exprGo fac m e)
  | 0, e => locW_pure e
  | m + 1, e => by
    intro p c x y hv hr
    obtain ⟨t, ht⟩ : ∃ t, ∀ q, p ++ c :: q = t :: (p ++ c :: q).tail := by
      cases p with
      | nil => exact ⟨c, fun q => rfl⟩
      | cons d p => exact ⟨d, fun q => rfl⟩
    by_cases hi : (isT 6 [43] t || isT 6 [45] t) = true
    · exact locW_head (H := fun r => (fac r).bind fun e2 l2 => exprGo fac m (hdB (if isT 6 [45] t then 6 else 5) t, ofL [e, e2]) l2) (locW_bind hf wf sf (fun e2 => locW_exprGo hf wf sf m _) (fun _ => exprGo_sufN sf m _)) (fun r => bind_sufN (sf r) fun _ => exprGo_sufN sf m _ _) (fun r => by rw [exprGo, if_pos hi]) p c x y ht hv hr
    · rw [ht x, exprGo, if_neg hi] at hv; cases hv
theorem locW_expr (hf : LocC fac) (wf : LocW fac) (sf : Sf fac) : LocW (exprG fac) := locW_bind (loc_term hf sf) (locW_term hf wf sf) (term_sufN sf) (fun e => locW_exprGo (loc_term hf sf) (locW_term hf wf sf) (term_sufN sf) mx e) (fun _ => exprGo_sufN (term_sufN sf) mx _)
theorem locW_pre {α : Type} {G : List Tk → Rs α} (f : List Tk → List Int) (h : LocW G) : LocW fun l => pre (f l) (G l) := fun p c x y hv hr => h p c x y hv hr
theorem locW_kidsGo (hf : LocC fac) (wf : LocW fac) (sf : Sf fac) : ∀ (m : Nat) (e : List Ex), LocW (kidsGo fac m e)
  | 0, e => locW_pure e
  | m + 1, e => by
    intro p c x y hv hr
    obtain ⟨t, ht⟩ : ∃ t, ∀ q, p ++ c :: q = t :: (p ++ c :: q).tail := by
      cases p with
      | nil => exact ⟨c, fun q => rfl⟩
      | cons d p => exact ⟨d, fun q => rfl⟩
    by_cases hi : isT 6 [44] t = true
    · exact locW_head (H := fun r => pre (if decide (e.length = 8) = true then [plOf r] else []) ((fac r).bind fun e2 l2 => kidsGo fac m (e ++ [e2]) l2)) (locW_pre _ (locW_bind hf wf sf (fun e2 => locW_kidsGo hf wf sf m _) (fun _ => kidsGo_sufN sf m _))) (fun r => bind_sufN (x := fac r) (sf r) fun _ => kidsGo_sufN sf m _ _) (fun r => by rw [kidsGo, if_pos hi, note_pre]) p c x y ht hv hr
    · rw [ht x, kidsGo, if_neg hi] at hv; cases hv
theorem locW_kids (hf : LocC fac) (wf : LocW fac) (sf : Sf fac) : LocW (kidsG fac) :=
  locW_bind (loc_sign [40]).c (locW_sign [40]) (sign_sufN [40])
    (fun _ => locW_close [41] (loc_bind hf sf (fun e => loc_kidsGo hf sf mx [e]) (fun _ => kidsGo_sufN sf mx _)) (locW_bind hf wf sf (fun e => locW_kidsGo hf wf sf mx [e]) (fun _ => kidsGo_sufN sf mx _)) (fun _ => bind_sufN (sf _) fun _ => kidsGo_sufN sf _ _ _))
    (fun _ _ => close_sufN (bind_sufN (sf _) fun _ => kidsGo_sufN sf _ _ _))
end
end Go.Proofs.Ytnnmhmlebffacaa
