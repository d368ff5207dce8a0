/-
  Expressions and items hang on the tokens that they take.
-/
import Derived.Test.YtnnmhmlebffacaaJnP
namespace Go.Proofs.Ytnnmhmlebffacaa
open Go.RowKit Go.Deep

theorem no_grow {x r : List Tk} {c : Tk} (h : SufN (c :: x) r) (hr : r = x) : False := by
  obtain ⟨p, hp, _⟩ := h
  have := congrArg List.length hp
  rw [hr] at this
  simp at this
  omega
section
variable {fac : List Tk → Rs Ex}
theorem loc_termGo (hf : LocC fac) (sf : Sf fac) : ∀ (m : Nat) (e : Ex), LocC (termGo fac m e)
  | 0, e => (loc_pure e).c
  | m + 1, e => by
    intro p c x y a hv hr
    cases p with
    | nil =>
      have hv' : (termGo fac (m + 1) e (c :: x)).val = some a := hv
      have hr' : (termGo fac (m + 1) e (c :: x)).rest = c :: x := hr
      show termGo fac (m + 1) e (c :: y) = ⟨some a, c :: y, (termGo fac (m + 1) e (c :: x)).many⟩
      rw [termGo] at hv' hr' ⊢
      rw [termGo]
      cases hi : isT 6 [42] c with
      | true =>
        rw [hi, if_pos rfl] at hr'
        exact (no_grow (hr' ▸ bind_sufN (sf x) fun _ => termGo_sufN sf m _ _) rfl).elim
      | false =>
        rw [hi, if_neg (by decide)] at hv'
        rw [if_neg (by decide), if_neg (by decide)]
        have : e = a := Option.some.inj hv'
        rw [this]; rfl
    | cons t p =>
      have hv' : (termGo fac (m + 1) e (t :: (p ++ c :: x))).val = some a := hv
      have hr' : (termGo fac (m + 1) e (t :: (p ++ c :: x))).rest = c :: x := hr
      show termGo fac (m + 1) e (t :: (p ++ c :: y)) = ⟨some a, c :: y, (termGo fac (m + 1) e (t :: (p ++ c :: x))).many⟩
      rw [termGo] at hv' hr' ⊢
      rw [termGo]
      cases hi : isT 6 [42] t with
      | true =>
        rw [hi, if_pos rfl] at hv' hr'
        rw [if_pos rfl, if_pos rfl]
        exact loc_bind hf sf (fun e2 => loc_termGo hf sf m (hdB 7 t, ofL [e, e2])) (fun _ => termGo_sufN sf m _) p c x y a hv' hr'
      | false =>
        rw [hi, if_neg (by decide)] at hr'
        have h2 : t :: (p ++ c :: x) = c :: x := hr'
        have := congrArg List.length h2
        simp at this
        omega
theorem loc_term (hf : LocC fac) (sf : Sf fac) : LocC (termG fac) := loc_bind hf sf (fun e => loc_termGo hf sf mx e) (fun _ => termGo_sufN sf mx _)
theorem loc_exprGo (hf : LocC fac) (sf : Sf fac) : ∀ (m : Nat) (e : Ex), LocC (exprGo fac m e)
  | 0, e => (loc_pure e).c
  | m + 1, e => by
    intro p c x y a hv hr
    cases p with
    | nil =>
      have hv' : (exprGo fac (m + 1) e (c :: x)).val = some a := hv
      have hr' : (exprGo fac (m + 1) e (c :: x)).rest = c :: x := hr
      show exprGo fac (m + 1) e (c :: y) = ⟨some a, c :: y, (exprGo fac (m + 1) e (c :: x)).many⟩
      rw [exprGo] at hv' hr' ⊢
      rw [exprGo]
      cases hi : (isT 6 [43] c || isT 6 [45] c) with
      | true =>
        rw [hi, if_pos rfl] at hr'
        exact (no_grow (hr' ▸ bind_sufN (sf x) fun _ => exprGo_sufN sf m _ _) rfl).elim
      | false =>
        rw [hi, if_neg (by decide)] at hv'
        rw [if_neg (by decide), if_neg (by decide)]
        have : e = a := Option.some.inj hv'
        rw [this]; rfl
    | cons t p =>
      have hv' : (exprGo fac (m + 1) e (t :: (p ++ c :: x))).val = some a := hv
      have hr' : (exprGo fac (m + 1) e (t :: (p ++ c :: x))).rest = c :: x := hr
      show exprGo fac (m + 1) e (t :: (p ++ c :: y)) = ⟨some a, c :: y, (exprGo fac (m + 1) e (t :: (p ++ c :: x))).many⟩
      rw [exprGo] at hv' hr' ⊢
      rw [exprGo]
      cases hi : (isT 6 [43] t || isT 6 [45] t) with
      | true =>
        rw [hi, if_pos rfl] at hv' hr'
        rw [if_pos rfl, if_pos rfl]
        exact loc_bind hf sf (fun e2 => loc_exprGo hf sf m (hdB (if isT 6 [45] t then 6 else 5) t, ofL [e, e2])) (fun _ => exprGo_sufN sf m _) p c x y a hv' hr'
      | false =>
        rw [hi, if_neg (by decide)] at hr'
        have h2 : t :: (p ++ c :: x) = c :: x := hr'
        have := congrArg List.length h2
        simp at this
        omega
theorem loc_expr (hf : LocC fac) (sf : Sf fac) : LocC (exprG fac) := loc_bind (loc_term hf sf) (term_sufN sf) (fun e => loc_exprGo (loc_term hf sf) (term_sufN sf) mx e) (fun _ => exprGo_sufN (term_sufN sf) mx _)
theorem pl_same (p x y : List Tk) (c : Tk) : plOf (p ++ c :: x) = plOf (p ++ c :: y) := by
  cases p <;> rfl
theorem loc_kidsGo (hf : LocC fac) (sf : Sf fac) : ∀ (m : Nat) (e : List Ex), LocC (kidsGo fac m e)
  | 0, e => (loc_pure e).c
  | m + 1, e => by
    intro p c x y a hv hr
    cases p with
    | nil =>
      have hv' : (kidsGo fac (m + 1) e (c :: x)).val = some a := hv
      have hr' : (kidsGo fac (m + 1) e (c :: x)).rest = c :: x := hr
      show kidsGo fac (m + 1) e (c :: y) = ⟨some a, c :: y, (kidsGo fac (m + 1) e (c :: x)).many⟩
      rw [kidsGo] at hv' hr' ⊢
      rw [kidsGo]
      cases hi : isT 6 [44] c with
      | true =>
        rw [hi, if_pos rfl] at hr'
        exact (no_grow (hr' ▸ note_sufN (bind_sufN (sf x) fun _ => kidsGo_sufN sf m _ _)) rfl).elim
      | false =>
        rw [hi, if_neg (by decide)] at hv'
        rw [if_neg (by decide), if_neg (by decide)]
        have : e = a := Option.some.inj hv'
        rw [this]; rfl
    | cons t p =>
      have hv' : (kidsGo fac (m + 1) e (t :: (p ++ c :: x))).val = some a := hv
      have hr' : (kidsGo fac (m + 1) e (t :: (p ++ c :: x))).rest = c :: x := hr
      show kidsGo fac (m + 1) e (t :: (p ++ c :: y)) = ⟨some a, c :: y, (kidsGo fac (m + 1) e (t :: (p ++ c :: x))).many⟩
      rw [kidsGo] at hv' hr' ⊢
      rw [kidsGo]
      cases hi : isT 6 [44] t with
      | true =>
        rw [hi, if_pos rfl, note_pre] at hv' hr'
        rw [if_pos rfl, if_pos rfl, note_pre, note_pre]
        have h := loc_bind hf sf (fun e2 => loc_kidsGo hf sf m (e ++ [e2])) (fun _ => kidsGo_sufN sf m _) p c x y a hv' hr'
        simp only at h
        rw [h, pl_same p x y c]; rfl
      | false =>
        rw [hi, if_neg (by decide)] at hr'
        have h2 : t :: (p ++ c :: x) = c :: x := hr'
        have := congrArg List.length h2
        simp at this
        omega
theorem loc_kids (hf : LocC fac) (sf : Sf fac) : LocC (kidsG fac) :=
  loc_bind (loc_sign [40]).c (sign_sufN [40])
    (fun _ => (loc_close [41] (loc_bind hf sf (fun e => loc_kidsGo hf sf mx [e]) (fun _ => kidsGo_sufN sf mx _)) (fun _ => bind_sufN (sf _) fun _ => kidsGo_sufN sf _ _ _)).c)
    (fun _ _ => close_sufN (bind_sufN (sf _) fun _ => kidsGo_sufN sf _ _ _))
end
/-- A rule whose first token is told: what stands behind goes by another rule. -/
theorem loc_head {α : Type} {G : List Tk → Rs α} {t : Tk} {H : List Tk → Rs α} (hH : LocC H) (sH : Sf H) (he : ∀ r, G (t :: r) = H r) (p : List Tk) (c : Tk) (x y : List Tk) (a : α) (hp : ∀ q, p ++ c :: q = t :: (p ++ c :: q).tail)
    (hv : (G (p ++ c :: x)).val = some a) (hr : (G (p ++ c :: x)).rest = c :: x) : G (p ++ c :: y) = ⟨some a, c :: y, (G (p ++ c :: x)).many⟩ := by
  cases p with
  | nil =>
    have ht : c = t := by have := hp x; simpa using this
    subst ht
    rw [List.nil_append, he] at hr
    exact (no_grow (hr ▸ sH x) rfl).elim
  | cons d p =>
    have ht : d = t := by have := hp x; simpa using this
    subst ht
    rw [List.cons_append, he] at hv hr ⊢
    rw [List.cons_append, he]
    exact hH p c x y a hv hr
theorem loc_fac : ∀ (n : Nat), LocC (facN n)
  | 0 => fun p c x y a hv _ => by cases hv
  | n + 1 => by
    intro p c x y a hv hr
    have ih := loc_fac n
    have si := fac_sufN n
    obtain ⟨t, ht⟩ : ∃ t, ∀ q, p ++ c :: q = t :: (p ++ c :: q).tail := by
      cases p with
      | nil => exact ⟨c, fun q => rfl⟩
      | cons d p => exact ⟨d, fun q => rfl⟩
    by_cases h2 : t.kind = 2
    · exact loc_head (loc_pure (⟨1, t.num, [], t.pl⟩, .nil)).c (fun _ => sufN_refl _) (fun r => by rw [facN, if_pos h2]) p c x y a ht hv hr
    · by_cases h3 : t.kind = 3
      · exact loc_head (loc_pure (⟨2, 0, t.text, t.pl⟩, .nil)).c (fun _ => sufN_refl _) (fun r => by rw [facN, if_neg h2, if_pos h3]) p c x y a ht hv hr
      · by_cases h5 : t.kind = 5
        · exact loc_head (loc_pure (⟨3, 0, t.text, t.pl⟩, .nil)).c (fun _ => sufN_refl _) (fun r => by rw [facN, if_neg h2, if_neg h3, if_pos h5]) p c x y a ht hv hr
        · cases ha : isT 6 [45] t with
          | true => exact loc_head (loc_map (fun e => (hdB 4 t, ofL [e])) ih) (fun r => si r) (fun r => by rw [facN, if_neg h2, if_neg h3, if_neg h5, if_pos ha]) p c x y a ht hv hr
          | false =>
            have na : ¬ isT 6 [45] t = true := by rw [ha]; decide
            cases hb : isT 6 [40] t with
            | true => exact loc_head (loc_close [41] (loc_expr ih si) (expr_sufN si)).c (fun r => close_sufN (expr_sufN si r)) (fun r => by rw [facN, if_neg h2, if_neg h3, if_neg h5, if_neg na, if_pos hb]) p c x y a ht hv hr
            | false =>
              have nb : ¬ isT 6 [40] t = true := by rw [hb]; decide
              cases hc : isT 4 wMin t with
              | true => exact loc_head (loc_map (fun ks => (hdB 8 t, ofL ks)) (loc_kids (loc_expr ih si) (expr_sufN si))) (fun r => kids_sufN (expr_sufN si) r) (fun r => by rw [facN, if_neg h2, if_neg h3, if_neg h5, if_neg na, if_neg nb, if_pos hc]) p c x y a ht hv hr
              | false =>
                have nc : ¬ isT 4 wMin t = true := by rw [hc]; decide
                cases hd : isT 4 wMax t with
                | true => exact loc_head (loc_map (fun ks => (hdB 9 t, ofL ks)) (loc_kids (loc_expr ih si) (expr_sufN si))) (fun r => kids_sufN (expr_sufN si) r) (fun r => by rw [facN, if_neg h2, if_neg h3, if_neg h5, if_neg na, if_neg nb, if_neg nc, if_pos hd]) p c x y a ht hv hr
                | false =>
                  have nd' : ¬ isT 4 wMax t = true := by rw [hd]; decide
                  rw [ht x, facN, if_neg h2, if_neg h3, if_neg h5, if_neg na, if_neg nb, if_neg nc, if_neg nd'] at hv
                  cases hv
theorem name_sufN (l : List Tk) : SufN (nameG l).rest l := by
  cases l with
  | nil => exact sufN_refl _
  | cons t r =>
    show SufN (if t.kind = 3 then pure' t.text r else wrong' (t :: r)).rest _
    split
    · rename_i h; exact sufN_cons _ (by rw [h]; decide)
    · exact sufN_refl _
theorem way_sufN (l : List Tk) : SufN (wayG l).rest l := by
  cases l with
  | nil => exact sufN_refl _
  | cons t r =>
    show SufN (if t.kind = 4 ∧ isWayB t.text = true then pure' t.text r else wrong' (t :: r)).rest _
    split
    · rename_i h; exact sufN_cons _ (by rw [h.1]; decide)
    · exact sufN_refl _
theorem loc_name : LocC nameG := by
  intro p c x y a hv hr
  obtain ⟨t, ht⟩ : ∃ t, ∀ q, p ++ c :: q = t :: (p ++ c :: q).tail := by
    cases p with
    | nil => exact ⟨c, fun q => rfl⟩
    | cons d p => exact ⟨d, fun q => rfl⟩
  by_cases h : t.kind = 3
  · exact loc_head (loc_pure t.text).c (fun _ => sufN_refl _) (fun r => by show (if t.kind = 3 then _ else _) = _; rw [if_pos h]) p c x y a ht hv hr
  · rw [ht x] at hv
    have hv' : (if t.kind = 3 then pure' t.text (p ++ c :: x).tail else wrong' (t :: (p ++ c :: x).tail)).val = some a := hv
    rw [if_neg h] at hv'; cases hv'
theorem loc_way : LocC wayG := by
  intro p c x y a hv hr
  obtain ⟨t, ht⟩ : ∃ t, ∀ q, p ++ c :: q = t :: (p ++ c :: q).tail := by
    cases p with
    | nil => exact ⟨c, fun q => rfl⟩
    | cons d p => exact ⟨d, fun q => rfl⟩
  by_cases h : t.kind = 4 ∧ isWayB t.text = true
  · exact loc_head (loc_pure t.text).c (fun _ => sufN_refl _) (fun r => by show (if t.kind = 4 ∧ isWayB t.text = true then _ else _) = _; rw [if_pos h]) p c x y a ht hv hr
  · rw [ht x] at hv
    have hv' : (if t.kind = 4 ∧ isWayB t.text = true then pure' t.text (p ++ c :: x).tail else wrong' (t :: (p ++ c :: x).tail)).val = some a := hv
    rw [if_neg h] at hv'; cases hv'
section
variable {ex : List Tk → Rs Ex}
theorem one_sufN (sf : Sf ex) (l : List Tk) : SufN (oneG ex l).rest l := bind_sufN (sf l) fun _ => sufN_refl _
theorem both_sufN (sf : Sf ex) (s : List UInt8) (l : List Tk) : SufN (bothG ex s l).rest l := bind_sufN (sf l) fun _ => bind_sufN (sign_sufN s _) fun _ => bind_sufN (sf _) fun _ => sufN_refl _
theorem loc_one (hf : LocC ex) (sf : Sf ex) : LocC (oneG ex) := loc_bind hf sf (fun a => (loc_pure (ofL [a])).c) (fun _ _ => sufN_refl _)
theorem loc_both (hf : LocC ex) (sf : Sf ex) (s : List UInt8) : LocC (bothG ex s) :=
  loc_bind hf sf (fun a => loc_bind (loc_sign s).c (sign_sufN s) (fun _ => loc_bind hf sf (fun b => (loc_pure (ofL [a, b])).c) (fun _ _ => sufN_refl _)) (fun _ _ => bind_sufN (sf _) fun _ => sufN_refl _)) (fun _ _ => bind_sufN (sign_sufN s _) fun _ => bind_sufN (sf _) fun _ => sufN_refl _)
theorem body_sufN (sf : Sf ex) (k : Int) (l : List Tk) : SufN (bodyG ex k l).rest l := by
  unfold bodyG
  repeat' split
  · exact bind_sufN (name_sufN l) fun _ => bind_sufN (sign_sufN _ _) fun _ => bind_sufN (one_sufN sf _) fun _ => sufN_refl _
  · exact bind_sufN (way_sufN l) fun _ => sufN_refl _
  · exact bind_sufN (both_sufN sf _ l) fun _ => sufN_refl _
  · exact bind_sufN (both_sufN sf _ l) fun _ => sufN_refl _
  · exact bind_sufN (one_sufN sf l) fun _ => sufN_refl _
theorem loc_body (hf : LocC ex) (sf : Sf ex) (k : Int) : LocC (bodyG ex k) := by
  unfold bodyG
  by_cases h1 : k = 1
  · simp only [h1, if_true]
    exact loc_bind loc_name name_sufN (fun s => loc_bind (loc_sign _).c (sign_sufN _) (fun _ => loc_bind (loc_one hf sf) (one_sufN sf) (fun F => (loc_pure (s, F)).c) (fun _ _ => sufN_refl _)) (fun _ _ => bind_sufN (one_sufN sf _) fun _ => sufN_refl _)) (fun _ _ => bind_sufN (sign_sufN _ _) fun _ => bind_sufN (one_sufN sf _) fun _ => sufN_refl _)
  · by_cases h7 : k = 7
    · simp only [if_neg h1, if_pos h7]
      exact loc_bind loc_way way_sufN (fun s => (loc_pure (s, (BT.nil : Fo))).c) (fun _ _ => sufN_refl _)
    · by_cases h8 : k = 8
      · simp only [if_neg h1, if_neg h7, if_pos h8]
        exact loc_bind (loc_both hf sf _) (both_sufN sf _) (fun F => (loc_pure (([] : List UInt8), F)).c) (fun _ _ => sufN_refl _)
      · by_cases h5 : k = 5 ∨ k = 6 ∨ k = 9
        · simp only [if_neg h1, if_neg h7, if_neg h8, if_pos h5]
          exact loc_bind (loc_both hf sf _) (both_sufN sf _) (fun F => (loc_pure (([] : List UInt8), F)).c) (fun _ _ => sufN_refl _)
        · simp only [if_neg h1, if_neg h7, if_neg h8, if_neg h5]
          exact loc_bind (loc_one hf sf) (one_sufN sf) (fun F => (loc_pure (([] : List UInt8), F)).c) (fun _ _ => sufN_refl _)
theorem item_sufN (sf : Sf ex) (l : List Tk) : SufN (itemG ex l).rest l := by
  cases l with
  | nil => exact sufN_refl _
  | cons t r =>
    show SufN (if t.kind = 4 ∧ itemKindB t.text ≠ 0 then (closeG [59] (bodyG ex (itemKindB t.text) r)).map (fun b => (⟨itemKindB t.text, b.1, b.2, t.pl⟩ : It)) else wrong' (t :: r)).rest _
    split
    · rename_i h; exact SufN.trans (close_sufN (body_sufN sf _ r)) (sufN_cons _ (by rw [h.1]; decide))
    · exact sufN_refl _
/-- An item hangs on the tokens that it takes. -/
theorem item_loc (hf : LocC ex) (sf : Sf ex) {t : Tk} {p x : List Tk} {i : It} (hv : (itemG ex (t :: (p ++ x))).val = some i) (hr : (itemG ex (t :: (p ++ x))).rest = x) (y : List Tk) : itemG ex (t :: (p ++ y)) = ⟨some i, y, (itemG ex (t :: (p ++ x))).many⟩ := by
  have e : ∀ r, itemG ex (t :: r) = if t.kind = 4 ∧ itemKindB t.text ≠ 0 then (closeG [59] (bodyG ex (itemKindB t.text) r)).map (fun b => (⟨itemKindB t.text, b.1, b.2, t.pl⟩ : It)) else wrong' (t :: r) := fun _ => rfl
  rw [e] at hv hr ⊢
  rw [e]
  by_cases hc : t.kind = 4 ∧ itemKindB t.text ≠ 0
  · rw [if_pos hc] at hv hr
    rw [if_pos hc, if_pos hc]
    cases hx : (closeG [59] (bodyG ex (itemKindB t.text) (p ++ x))).val with
    | none =>
      have hv' : (closeG [59] (bodyG ex (itemKindB t.text) (p ++ x))).val.map _ = some i := hv
      rw [hx] at hv'; cases hv'
    | some b =>
      have hv' : (closeG [59] (bodyG ex (itemKindB t.text) (p ++ x))).val.map _ = some i := hv
      rw [hx] at hv'
      have h := loc_close [59] (loc_body hf sf (itemKindB t.text)) (body_sufN sf _) p x y b hx hr
      simp only at h
      rw [h]
      have hv2 := Option.some.inj hv'
      rw [← hv2]; rfl
  · rw [if_neg hc] at hv; cases hv
end
end Go.Proofs.Ytnnmhmlebffacaa
