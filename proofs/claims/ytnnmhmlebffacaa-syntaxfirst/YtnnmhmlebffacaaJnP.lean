/-
  What a rule reads hangs on the tokens that it takes, and the one behind them.
-/
import Derived.Test.YtnnmhmlebffacaaBlP
namespace Go.Proofs.Ytnnmhmlebffacaa
open Go.RowKit Go.Deep

/-- An end of a list, behind tokens none of which is the end. -/
def SufN (a b : List Tk) : Prop := ∃ p, b = p ++ a ∧ ∀ t ∈ p, t.kind ≠ 1
theorem sufN_refl (a : List Tk) : SufN a a := ⟨[], rfl, by simp⟩
theorem sufN_cons {t : Tk} (r : List Tk) (h : t.kind ≠ 1) : SufN r (t :: r) := ⟨[t], rfl, by simpa using h⟩
theorem SufN.trans {a b c : List Tk} (h : SufN a b) (k : SufN b c) : SufN a c := by
  obtain ⟨p, rfl, hp⟩ := h
  obtain ⟨q, rfl, hq⟩ := k
  refine ⟨q ++ p, by simp, fun t ht => ?_⟩
  rcases List.mem_append.1 ht with h | h
  · exact hq t h
  · exact hp t h
theorem bind_sufN {α β : Type} {x : Rs α} {f : α → List Tk → Rs β} {l : List Tk} (h : SufN x.rest l) (hf : ∀ a, SufN (f a x.rest).rest x.rest) : SufN (x.bind f).rest l := by
  cases hx : x.val with
  | none => rw [bind_none _ hx]; exact h
  | some a => rw [bind_some _ hx]; exact (hf a).trans h
theorem note_sufN {α : Type} {c : Bool} {l l' : List Tk} {x : Rs α} (h : SufN x.rest l') : SufN (note c l x).rest l' := by
  unfold note; split <;> exact h
theorem sign_sufN (s : List UInt8) (l : List Tk) : SufN (signG s l).rest l := by
  cases l with
  | nil => exact sufN_refl _
  | cons t r =>
    show SufN (if isT 6 s t = true then pure' () r else wrong' (t :: r)).rest _
    split
    · rename_i h; exact sufN_cons _ (isT_kind h (by decide))
    · exact sufN_refl _
theorem close_sufN {α : Type} {s : List UInt8} {x : Rs α} {l : List Tk} (h : SufN x.rest l) : SufN (closeG s x).rest l :=
  bind_sufN h fun _ => bind_sufN (sign_sufN s _) fun _ => sufN_refl _
section
variable {fac : List Tk → Rs Ex}
theorem termGo_sufN (hf : ∀ l, SufN (fac l).rest l) : ∀ (m : Nat) (e : Ex) (l : List Tk), SufN (termGo fac m e l).rest l
  | 0, e, l => sufN_refl _
  | _ + 1, e, [] => sufN_refl _
  | m + 1, e, t :: r => by
    rw [termGo]
    split
    · rename_i h; exact (bind_sufN (hf r) fun a => termGo_sufN hf m _ _).trans (sufN_cons _ (isT_kind h (by decide)))
    · exact sufN_refl _
theorem term_sufN (hf : ∀ l, SufN (fac l).rest l) (l : List Tk) : SufN (termG fac l).rest l := bind_sufN (hf l) fun _ => termGo_sufN hf _ _ _
theorem exprGo_sufN (hf : ∀ l, SufN (fac l).rest l) : ∀ (m : Nat) (e : Ex) (l : List Tk), SufN (exprGo fac m e l).rest l
  | 0, e, l => sufN_refl _
  | _ + 1, e, [] => sufN_refl _
  | m + 1, e, t :: r => by
    rw [exprGo]
    split
    · rename_i h
      have hk : t.kind ≠ 1 := by
        rcases Bool.or_eq_true _ _ ▸ h with h | h
        · exact isT_kind h (by decide)
        · exact isT_kind h (by decide)
      exact (bind_sufN (hf r) fun a => exprGo_sufN hf m _ _).trans (sufN_cons _ hk)
    · exact sufN_refl _
theorem expr_sufN (hf : ∀ l, SufN (fac l).rest l) (l : List Tk) : SufN (exprG fac l).rest l := bind_sufN (term_sufN hf l) fun _ => exprGo_sufN (term_sufN hf) _ _ _
theorem kidsGo_sufN (hf : ∀ l, SufN (fac l).rest l) : ∀ (m : Nat) (ks : List Ex) (l : List Tk), SufN (kidsGo fac m ks l).rest l
  | 0, e, l => sufN_refl _
  | _ + 1, e, [] => sufN_refl _
  | m + 1, e, t :: r => by
    rw [kidsGo]
    split
    · rename_i h; exact (note_sufN (bind_sufN (hf r) fun a => kidsGo_sufN hf m _ _)).trans (sufN_cons _ (isT_kind h (by decide)))
    · exact sufN_refl _
theorem kids_sufN (hf : ∀ l, SufN (fac l).rest l) (l : List Tk) : SufN (kidsG fac l).rest l :=
  bind_sufN (sign_sufN _ l) fun _ => close_sufN (bind_sufN (hf _) fun _ => kidsGo_sufN hf _ _ _)
end
theorem fac_sufN : ∀ (n : Nat) (l : List Tk), SufN (facN n l).rest l
  | 0, l => sufN_refl _
  | _ + 1, [] => sufN_refl _
  | n + 1, t :: r => by
    have h := fac_sufN n
    rw [facN]
    split
    · rename_i hk; exact sufN_cons _ (by rw [hk]; decide)
    · split
      · rename_i hk; exact sufN_cons _ (by rw [hk]; decide)
      · split
        · rename_i hk; exact sufN_cons _ (by rw [hk]; decide)
        · split
          · rename_i hk; exact (h r).trans (sufN_cons _ (isT_kind hk (by decide)))
          · split
            · rename_i hk; exact (close_sufN (expr_sufN h r)).trans (sufN_cons _ (isT_kind hk (by decide)))
            · split
              · rename_i hk; exact (kids_sufN (expr_sufN h) r).trans (sufN_cons _ (isT_kind hk (by decide)))
              · split
                · rename_i hk; exact (kids_sufN (expr_sufN h) r).trans (sufN_cons _ (isT_kind hk (by decide)))
                · exact sufN_refl _
/-- What is read hangs on what is taken, and the token behind it. -/
def LocC {α : Type} (G : List Tk → Rs α) : Prop := ∀ p c x y a, (G (p ++ c :: x)).val = some a → (G (p ++ c :: x)).rest = c :: x → G (p ++ c :: y) = ⟨some a, c :: y, (G (p ++ c :: x)).many⟩
/-- What is read hangs on what is taken. -/
def Loc0 {α : Type} (G : List Tk → Rs α) : Prop := ∀ p x y a, (G (p ++ x)).val = some a → (G (p ++ x)).rest = x → G (p ++ y) = ⟨some a, y, (G (p ++ x)).many⟩
theorem Loc0.c {α : Type} {G : List Tk → Rs α} (h : Loc0 G) : LocC G := fun p c x y a h1 h2 => h p (c :: x) (c :: y) a h1 h2
def Sf {α : Type} (G : List Tk → Rs α) : Prop := ∀ l, SufN (G l).rest l
theorem loc_bind {α β : Type} {F : List Tk → Rs α} {H : α → List Tk → Rs β} (hF : LocC F) (sF : Sf F) (hH : ∀ a, LocC (H a)) (sH : ∀ a, Sf (H a)) : LocC fun l => (F l).bind (H) := by
  intro p c x y b hv hr
  cases hx : (F (p ++ c :: x)).val with
  | none =>
    have hv' : ((F (p ++ c :: x)).bind H).val = some b := hv
    rw [bind_none _ hx] at hv'; cases hv'
  | some a =>
    have hv' : ((F (p ++ c :: x)).bind H).val = some b := hv
    have hr' : ((F (p ++ c :: x)).bind H).rest = c :: x := hr
    rw [bind_pre _ hx] at hv' hr'
    obtain ⟨p1, h1, _⟩ := sF (p ++ c :: x)
    obtain ⟨p2, h2, _⟩ := sH a (F (p ++ c :: x)).rest
    have hr2 : (H a (F (p ++ c :: x)).rest).rest = c :: x := hr'
    have hv2 : (H a (F (p ++ c :: x)).rest).val = some b := hv'
    rw [hr2] at h2
    have hp : p = p1 ++ p2 := by
      rw [h2, ← List.append_assoc] at h1
      exact List.append_cancel_right h1
    subst hp
    show (F (p1 ++ p2 ++ c :: y)).bind H = ⟨some b, c :: y, ((F (p1 ++ p2 ++ c :: x)).bind H).many⟩
    rw [bind_pre _ hx]
    cases p2 with
    | nil =>
      rw [List.append_nil] at *
      have hr1 : (F (p1 ++ c :: x)).rest = c :: x := h2
      have e1 := hF p1 c x y a hx hr1
      rw [e1]
      rw [hr1] at hv2 hr2 ⊢
      have e2 := hH a [] c x y b hv2 hr2
      simp only [List.nil_append] at e2
      show (Rs.bind ⟨some a, c :: y, (F (p1 ++ c :: x)).many⟩ H) = _
      rw [bind_pre (x := ⟨some a, c :: y, (F (p1 ++ c :: x)).many⟩) H rfl]
      simp only
      rw [e2]; rfl
    | cons d p3 =>
      rw [show p1 ++ d :: p3 ++ c :: x = p1 ++ d :: (p3 ++ c :: x) by simp] at *
      rw [show p1 ++ d :: p3 ++ c :: y = p1 ++ d :: (p3 ++ c :: y) by simp]
      have hr1 : (F (p1 ++ d :: (p3 ++ c :: x))).rest = d :: (p3 ++ c :: x) := by rw [h2]; rfl
      have e1 := hF p1 d (p3 ++ c :: x) (p3 ++ c :: y) a hx hr1
      rw [e1]
      rw [hr1] at hv2 hr2 ⊢
      have e2 := hH a (d :: p3) c x y b hv2 hr2
      simp only [List.cons_append] at e2
      rw [bind_pre (x := ⟨some a, d :: (p3 ++ c :: y), (F (p1 ++ d :: (p3 ++ c :: x))).many⟩) H rfl]
      simp only
      rw [e2]; rfl
theorem loc_pure {α : Type} (a : α) : Loc0 fun l => pure' a l := by
  intro p x y b hv hr
  have hp : p = [] := by
    have hr' : p ++ x = x := hr
    have := congrArg List.length hr'
    rw [List.length_append] at this
    exact List.eq_nil_of_length_eq_zero (by omega)
  subst hp
  have hv' : some a = some b := hv
  rw [← hv']; rfl
theorem loc_map {α β : Type} {F : List Tk → Rs α} (f : α → β) (h : LocC F) : LocC fun l => (F l).map f := by
  intro p c x y b hv hr
  cases hx : (F (p ++ c :: x)).val with
  | none =>
    have hv' : (F (p ++ c :: x)).val.map f = some b := hv
    rw [hx] at hv'; cases hv'
  | some a =>
    have hv' : (F (p ++ c :: x)).val.map f = some b := hv
    rw [hx] at hv'
    have e := h p c x y a hx hr
    show (F (p ++ c :: y)).map f = _
    rw [e, ← hv']; rfl
theorem loc_sign (s : List UInt8) : Loc0 (signG s) := by
  intro p x y u hv hr
  cases p with
  | nil =>
    cases x with
    | nil => cases hv
    | cons t r =>
      have hr' : (if isT 6 s t = true then pure' () r else wrong' (t :: r)).rest = t :: r := hr
      have hv' : (if isT 6 s t = true then pure' () r else wrong' (t :: r)).val = some u := hv
      split at hr'
      · have hr2 : r = t :: r := hr'
        have := congrArg List.length hr2
        simp at this
      · rename_i h; rw [if_neg h] at hv'; cases hv'
  | cons t p =>
    have hr' : (if isT 6 s t = true then pure' () (p ++ x) else wrong' (t :: (p ++ x))).rest = x := hr
    have hv' : (if isT 6 s t = true then pure' () (p ++ x) else wrong' (t :: (p ++ x))).val = some u := hv
    split at hr'
    · rename_i h
      have hr2 : p ++ x = x := hr'
      have hp : p = [] := by
        have := congrArg List.length hr2
        rw [List.length_append] at this
        exact List.eq_nil_of_length_eq_zero (by omega)
      subst hp
      show (if isT 6 s t = true then pure' () y else _) = (⟨some u, y, (if isT 6 s t = true then pure' () x else _).many⟩ : Rs Unit)
      rw [if_pos h, if_pos h]; rfl
    · rename_i h; rw [if_neg h] at hv'; cases hv'
/-- With a sign that must stand behind it, it hangs on what is taken alone. -/
theorem loc_close {α : Type} {F : List Tk → Rs α} (s : List UInt8) (hF : LocC F) (sF : Sf F) : Loc0 fun l => closeG s (F l) := by
  intro p x y b hv hr
  have hv' : (closeG s (F (p ++ x))).val = some b := hv
  have hr' : (closeG s (F (p ++ x))).rest = x := hr
  cases hx : (F (p ++ x)).val with
  | none => unfold closeG at hv'; rw [bind_none _ hx] at hv'; cases hv'
  | some a =>
    unfold closeG at hv' hr'
    rw [bind_pre _ hx] at hv' hr'
    obtain ⟨p1, h1, _⟩ := sF (p ++ x)
    cases hl : (F (p ++ x)).rest with
    | nil => rw [hl] at hv'; cases hv'
    | cons t r =>
      rw [hl] at hv' hr' h1
      cases hi : isT 6 s t with
      | false =>
        have : ((signG s (t :: r)).bind fun _ l2 => pure' a l2).val = some b := hv'
        rw [show signG s (t :: r) = wrong' (t :: r) from by show (if isT 6 s t = true then _ else _) = _; rw [if_neg (by rw [hi]; decide)]] at this
        cases this
      | true =>
        have es : ∀ z, signG s (t :: z) = pure' () z := fun z => by show (if isT 6 s t = true then _ else _) = _; rw [if_pos hi]
        have hr2 : ((signG s (t :: r)).bind fun _ l2 => pure' a l2).rest = x := hr'
        have hv2 : ((signG s (t :: r)).bind fun _ l2 => pure' a l2).val = some b := hv'
        rw [es] at hr2 hv2
        have hrx : r = x := hr2
        have hab : a = b := Option.some.inj hv2
        subst hrx hab
        have hp : p = p1 ++ [t] := by
          rw [show p1 ++ t :: r = (p1 ++ [t]) ++ r by simp] at h1
          exact List.append_cancel_right h1
        subst hp
        rw [show p1 ++ [t] ++ r = p1 ++ t :: r by simp] at *
        have e1 := hF p1 t r y a hx hl
        show closeG s (F (p1 ++ [t] ++ y)) = ⟨some a, y, (closeG s (F (p1 ++ t :: r))).many⟩
        rw [show p1 ++ [t] ++ y = p1 ++ t :: y by simp, e1]
        unfold closeG
        rw [bind_pre (x := (⟨some a, t :: y, (F (p1 ++ t :: r)).many⟩ : Rs α)) _ rfl, bind_pre _ hx, hl]
        simp only
        rw [es, es]; rfl
end Go.Proofs.Ytnnmhmlebffacaa
