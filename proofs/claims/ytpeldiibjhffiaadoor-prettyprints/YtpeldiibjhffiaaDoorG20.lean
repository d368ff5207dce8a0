/-
  Expressions and items hang on the tokens that they take. Two sources, one behind the other: the items of both. Two sources that are taken, with a line's end between: the items are those of both.
-/
import Derived.Test.YtpeldiibjhffiaaDoorG19
namespace Go.Proofs.YtpeldiibjhffiaaDoor
open Go.RowKit Go.Deep

theorem no_grow {x r : List Tk} {c : Tk} (h : SufN (c :: x) r) (hr : r = x) : False := by
  obtain ⟨p, hp, _⟩ := h
  have := congrArg List.length hp
  rw [hr] at this
  simp at this
  omega
section
variable {fac : List Tk → Rs Ex}
theorem loc_termGo (hf : LocC fac) (sf : Sf fac) : ∀ (m : Nat) (e : Ex), LocC (termGo fac m e)
  | 0, e => (loc_pure e).c
  | m + 1, e => by
    intro p c x y a hv hr
    cases p with
    | nil =>
      have hv' : (termGo fac (m + 1) e (c :: x)).val = some a := hv
      have hr' : (termGo fac (m + 1) e (c :: x)).rest = c :: x := hr
      show termGo fac (m + 1) e (c :: y) = ⟨some a, c :: y, (termGo fac (m + 1) e (c :: x)).many⟩
      rw [termGo] at hv' hr' ⊢
      rw [termGo]
      cases hi : isT 6 [42] c with
      | true =>
        rw [hi, if_pos rfl] at hr'
        exact (no_grow (hr' ▸ bind_sufN (sf x) fun _ => termGo_sufN sf m _ _) rfl).elim
      | false =>
        rw [hi, if_neg (by decide)] at hv'
        rw [if_neg (by decide), if_neg (by decide)]
        have : e = a := Option.some.inj hv'
        rw [this]; rfl
    | cons t p =>
      have hv' : (termGo fac (m + 1) e (t :: (p ++ c :: x))).val = some a := hv
      have hr' : (termGo fac (m + 1) e (t :: (p ++ c :: x))).rest = c :: x := hr
      show termGo fac (m + 1) e (t :: (p ++ c :: y)) = ⟨some a, c :: y, (termGo fac (m + 1) e (t :: (p ++ c :: x))).many⟩
      rw [termGo] at hv' hr' ⊢
      rw [termGo]
      cases hi : isT 6 [42] t with
      | true =>
        rw [hi, if_pos rfl] at hv' hr'
        rw [if_pos rfl, if_pos rfl]
        exact loc_bind hf sf (fun e2 => loc_termGo hf sf m (hdB 7 t, ofL [e, e2])) (fun _ => termGo_sufN sf m _) p c x y a hv' hr'
      | false =>
        rw [hi, if_neg (by decide)] at hr'
        have h2 : t :: (p ++ c :: x) = c :: x := hr'
        have := congrArg List.length h2
        simp at this
        omega
theorem loc_term (hf : LocC fac) (sf : Sf fac) : LocC (termG fac) := loc_bind hf sf (fun e => loc_termGo hf sf mx e) (fun _ => termGo_sufN sf mx _)
theorem loc_exprGo (hf : LocC fac) (sf : Sf fac) : ∀ (m : Nat) (e : Ex), LocC (exprGo fac m e)
  | 0, e => (loc_pure e).c
  | m + 1, e => by
    intro p c x y a hv hr
    cases p with
    | nil =>
      have hv' : (exprGo fac (m + 1) e (c :: x)).val = some a := hv
      have hr' : (exprGo fac (m + 1) e (c :: x)).rest = c :: x := hr
      show exprGo fac (m + 1) e (c :: y) = ⟨some a, c :: y, (exprGo fac (m + 1) e (c :: x)).many⟩
      rw [exprGo] at hv' hr' ⊢
      rw [exprGo]
      cases hi : (isT 6 [43] c || isT 6 [45] c) with
      | true =>
        rw [hi, if_pos rfl] at hr'
        exact (no_grow (hr' ▸ bind_sufN (sf x) fun _ => exprGo_sufN sf m _ _) rfl).elim
      | false =>
        rw [hi, if_neg (by decide)] at hv'
        rw [if_neg (by decide), if_neg (by decide)]
        have : e = a := Option.some.inj hv'
        rw [this]; rfl
    | cons t p =>
      have hv' : (exprGo fac (m + 1) e (t :: (p ++ c :: x))).val = some a := hv
      have hr' : (exprGo fac (m + 1) e (t :: (p ++ c :: x))).rest = c :: x := hr
      show exprGo fac (m + 1) e (t :: (p ++ c :: y)) = ⟨some a, c :: y, (exprGo fac (m + 1) e (t :: (p ++ c :: x))).many⟩
      rw [exprGo] at hv' hr' ⊢
      rw [exprGo]
      cases hi : (isT 6 [43] t || isT 6 [45] t) with
      | true =>
        rw [hi, if_pos rfl] at hv' hr'
        rw [if_pos rfl, if_pos rfl]
        exact loc_bind hf sf (fun e2 => loc_exprGo hf sf m (hdB (if isT 6 [45] t then 6 else 5) t, ofL [e, e2])) (fun _ => exprGo_sufN sf m _) p c x y a hv' hr'
      | false =>
        rw [hi, if_neg (by decide)] at hr'
        have h2 : t :: (p ++ c :: x) = c :: x := hr'
        have := congrArg List.length h2
        simp at this
        omega
theorem loc_expr (hf : LocC fac) (sf : Sf fac) : LocC (exprG fac) := loc_bind (loc_term hf sf) (term_sufN sf) (fun e => loc_exprGo (loc_term hf sf) (term_sufN sf) mx e) (fun _ => exprGo_sufN (term_sufN sf) mx _)
theorem pl_same (p x y : List Tk) (c : Tk) : plOf (p ++ c :: x) = plOf (p ++ c :: y) := by
  cases p <;> rfl
theorem loc_kidsGo (hf : LocC fac) (sf : Sf fac) : ∀ (m : Nat) (e : List Ex), LocC (kidsGo fac m e)
  | 0, e => (loc_pure e).c
  | m + 1, e => by
    intro p c x y a hv hr
    cases p with
    | nil =>
      have hv' : (kidsGo fac (m + 1) e (c :: x)).val = some a := hv
      have hr' : (kidsGo fac (m + 1) e (c :: x)).rest = c :: x := hr
      show kidsGo fac (m + 1) e (c :: y) = ⟨some a, c :: y, (kidsGo fac (m + 1) e (c :: x)).many⟩
      rw [kidsGo] at hv' hr' ⊢
      rw [kidsGo]
      cases hi : isT 6 [44] c with
      | true =>
        rw [hi, if_pos rfl] at hr'
        exact (no_grow (hr' ▸ note_sufN (bind_sufN (sf x) fun _ => kidsGo_sufN sf m _ _)) rfl).elim
      | false =>
        rw [hi, if_neg (by decide)] at hv'
        rw [if_neg (by decide), if_neg (by decide)]
        have : e = a := Option.some.inj hv'
        rw [this]; rfl
    | cons t p =>
      have hv' : (kidsGo fac (m + 1) e (t :: (p ++ c :: x))).val = some a := hv
      have hr' : (kidsGo fac (m + 1) e (t :: (p ++ c :: x))).rest = c :: x := hr
      show kidsGo fac (m + 1) e (t :: (p ++ c :: y)) = ⟨some a, c :: y, (kidsGo fac (m + 1) e (t :: (p ++ c :: x))).many⟩
      rw [kidsGo] at hv' hr' ⊢
      rw [kidsGo]
      cases hi : isT 6 [44] t with
      | true =>
        rw [hi, if_pos rfl, note_pre] at hv' hr'
        rw [if_pos rfl, if_pos rfl, note_pre, note_pre]
        have h := loc_bind hf sf (fun e2 => loc_kidsGo hf sf m (e ++ [e2])) (fun _ => kidsGo_sufN sf m _) p c x y a hv' hr'
        simp only at h
        rw [h, pl_same p x y c]; rfl
      | false =>
        rw [hi, if_neg (by decide)] at hr'
        have h2 : t :: (p ++ c :: x) = c :: x := hr'
        have := congrArg List.length h2
        simp at this
        omega
theorem loc_kids (hf : LocC fac) (sf : Sf fac) : LocC (kidsG fac) :=
  loc_bind (loc_sign [40]).c (sign_sufN [40])
    (fun _ => (loc_close [41] (loc_bind hf sf (fun e => loc_kidsGo hf sf mx [e]) (fun _ => kidsGo_sufN sf mx _)) (fun _ => bind_sufN (sf _) fun _ => kidsGo_sufN sf _ _ _)).c)
    (fun _ _ => close_sufN (bind_sufN (sf _) fun _ => kidsGo_sufN sf _ _ _))
end
/-- A rule whose first token is told: what stands behind goes by another rule. -/
theorem loc_head {α : Type} {G : List Tk → Rs α} {t : Tk} {H : List Tk → Rs α} (hH : LocC H) (sH : Sf H) (he : ∀ r, G (t :: r) = H r) (p : List Tk) (c : Tk) (x y : List Tk) (a : α) (hp : ∀ q, p ++ c :: q = t :: (p ++ c :: q).tail)
    (hv : (G (p ++ c :: x)).val = some a) (hr : (G (p ++ c :: x)).rest = c :: x) : G (p ++ c :: y) = ⟨some a, c :: y, (G (p ++ c :: x)).many⟩ := by
  cases p with
  | nil =>
    have ht : c = t := by have := hp x; simpa using this
    subst ht
    rw [List.nil_append, he] at hr
    exact (no_grow (hr ▸ sH x) rfl).elim
  | cons d p =>
    have ht : d = t := by have := hp x; simpa using this
    subst ht
    rw [List.cons_append, he] at hv hr ⊢
    rw [List.cons_append, he]
    exact hH p c x y a hv hr
theorem loc_fac : ∀ (n : Nat), LocC (facN n)
  | 0 => fun p c x y a hv _ => by cases hv
  | n + 1 => by
    intro p c x y a hv hr
    have ih := loc_fac n
    have si := fac_sufN n
    obtain ⟨t, ht⟩ : ∃ t, ∀ q, p ++ c :: q = t :: (p ++ c :: q).tail := by
      cases p with
      | nil => exact ⟨c, fun q => rfl⟩
      | cons d p => exact ⟨d, fun q => rfl⟩
    by_cases h2 : t.kind = 2
    · exact loc_head (loc_pure (⟨1, t.num, [], t.pl⟩, .nil)).c (fun _ => sufN_refl _) (fun r => by rw [facN, if_pos h2]) p c x y a ht hv hr
    · by_cases h3 : t.kind = 3
      · exact loc_head (loc_pure (⟨2, 0, t.text, t.pl⟩, .nil)).c (fun _ => sufN_refl _) (fun r => by rw [facN, if_neg h2, if_pos h3]) p c x y a ht hv hr
      · by_cases h5 : t.kind = 5
        · exact loc_head (loc_pure (⟨3, 0, t.text, t.pl⟩, .nil)).c (fun _ => sufN_refl _) (fun r => by rw [facN, if_neg h2, if_neg h3, if_pos h5]) p c x y a ht hv hr
        · cases ha : isT 6 [45] t with
          | true => exact loc_head (loc_map (fun e => (hdB 4 t, ofL [e])) ih) (fun r => si r) (fun r => by rw [facN, if_neg h2, if_neg h3, if_neg h5, if_pos ha]) p c x y a ht hv hr
          | false =>
            have na : ¬ isT 6 [45] t = true := by rw [ha]; decide
            cases hb : isT 6 [40] t with
            | true => exact loc_head (loc_close [41] (loc_expr ih si) (expr_sufN si)).c (fun r => close_sufN (expr_sufN si r)) (fun r => by rw [facN, if_neg h2, if_neg h3, if_neg h5, if_neg na, if_pos hb]) p c x y a ht hv hr
            | false =>
              have nb : ¬ isT 6 [40] t = true := by rw [hb]; decide
              cases hc : isT 4 wMin t with
              | true => exact loc_head (loc_map (fun ks => (hdB 8 t, ofL ks)) (loc_kids (loc_expr ih si) (expr_sufN si))) (fun r => kids_sufN (expr_sufN si) r) (fun r => by rw [facN, if_neg h2, if_neg h3, if_neg h5, if_neg na, if_neg nb, if_pos hc]) p c x y a ht hv hr
              | false =>
                have nc : ¬ isT 4 wMin t = true := by rw [hc]; decide
                cases hd : isT 4 wMax t with
                | true => exact loc_head (loc_map (fun ks => (hdB 9 t, ofL ks)) (loc_kids (loc_expr ih si) (expr_sufN si))) (fun r => kids_sufN (expr_sufN si) r) (fun r => by rw [facN, if_neg h2, if_neg h3, if_neg h5, if_neg na, if_neg nb, if_neg nc, if_pos hd]) p c x y a ht hv hr
                | false =>
                  have nd' : ¬ isT 4 wMax t = true := by rw [hd]; decide
                  rw [ht x, facN, if_neg h2, if_neg h3, if_neg h5, if_neg na, if_neg nb, if_neg nc, if_neg nd'] at hv
                  cases hv
theorem name_sufN (l : List Tk) : SufN (nameG l).rest l := by
  cases l with
  | nil => exact sufN_refl _
  | cons t r =>
    show SufN (if t.kind = 3 then pure' t.text r else wrong' (t :: r)).rest _
    split
    · rename_i h; exact sufN_cons _ (by rw [h]; decide)
    · exact sufN_refl _
theorem way_sufN (l : List Tk) : SufN (wayG l).rest l := by
  cases l with
  | nil => exact sufN_refl _
  | cons t r =>
    show SufN (if t.kind = 4 ∧ isWayB t.text = true then pure' t.text r else wrong' (t :: r)).rest _
    split
    · rename_i h; exact sufN_cons _ (by rw [h.1]; decide)
    · exact sufN_refl _
theorem loc_name : LocC nameG := by
  intro p c x y a hv hr
  obtain ⟨t, ht⟩ : ∃ t, ∀ q, p ++ c :: q = t :: (p ++ c :: q).tail := by
    cases p with
    | nil => exact ⟨c, fun q => rfl⟩
    | cons d p => exact ⟨d, fun q => rfl⟩
  by_cases h : t.kind = 3
  · exact loc_head (loc_pure t.text).c (fun _ => sufN_refl _) (fun r => by show (if t.kind = 3 then _ else _) = _; rw [if_pos h]) p c x y a ht hv hr
  · rw [ht x] at hv
    have hv' : (if t.kind = 3 then pure' t.text (p ++ c :: x).tail else wrong' (t :: (p ++ c :: x).tail)).val = some a := hv
    rw [if_neg h] at hv'; cases hv'
theorem loc_way : LocC wayG := by
  intro p c x y a hv hr
  obtain ⟨t, ht⟩ : ∃ t, ∀ q, p ++ c :: q = t :: (p ++ c :: q).tail := by
    cases p with
    | nil => exact ⟨c, fun q => rfl⟩
    | cons d p => exact ⟨d, fun q => rfl⟩
  by_cases h : t.kind = 4 ∧ isWayB t.text = true
  · exact loc_head (loc_pure t.text).c (fun _ => sufN_refl _) (fun r => by show (if t.kind = 4 ∧ isWayB t.text = true then _ else _) = _; rw [if_pos h]) p c x y a ht hv hr
  · rw [ht x] at hv
    have hv' : (if t.kind = 4 ∧ isWayB t.text = true then pure' t.text (p ++ c :: x).tail else wrong' (t :: (p ++ c :: x).tail)).val = some a := hv
    rw [if_neg h] at hv'; cases hv'
section
variable {ex : List Tk → Rs Ex}
theorem one_sufN (sf : Sf ex) (l : List Tk) : SufN (oneG ex l).rest l := bind_sufN (sf l) fun _ => sufN_refl _
theorem both_sufN (sf : Sf ex) (s : List UInt8) (l : List Tk) : SufN (bothG ex s l).rest l := bind_sufN (sf l) fun _ => bind_sufN (sign_sufN s _) fun _ => bind_sufN (sf _) fun _ => sufN_refl _
theorem loc_one (hf : LocC ex) (sf : Sf ex) : LocC (oneG ex) := loc_bind hf sf (fun a => (loc_pure (ofL [a])).c) (fun _ _ => sufN_refl _)
theorem loc_both (hf : LocC ex) (sf : Sf ex) (s : List UInt8) : LocC (bothG ex s) :=
  loc_bind hf sf (fun a => loc_bind (loc_sign s).c (sign_sufN s) (fun _ => loc_bind hf sf (fun b => (loc_pure (ofL [a, b])).c) (fun _ _ => sufN_refl _)) (fun _ _ => bind_sufN (sf _) fun _ => sufN_refl _)) (fun _ _ => bind_sufN (sign_sufN s _) fun _ => bind_sufN (sf _) fun _ => sufN_refl _)
theorem body_sufN (sf : Sf ex) (k : Int) (l : List Tk) : SufN (bodyG ex k l).rest l := by
  unfold bodyG
  repeat' split
  · exact bind_sufN (name_sufN l) fun _ => bind_sufN (sign_sufN _ _) fun _ => bind_sufN (one_sufN sf _) fun _ => sufN_refl _
  · exact bind_sufN (way_sufN l) fun _ => sufN_refl _
  · exact bind_sufN (both_sufN sf _ l) fun _ => sufN_refl _
  · exact bind_sufN (both_sufN sf _ l) fun _ => sufN_refl _
  · exact bind_sufN (one_sufN sf l) fun _ => sufN_refl _
theorem loc_body (hf : LocC ex) (sf : Sf ex) (k : Int) : LocC (bodyG ex k) := by
  unfold bodyG
  by_cases h1 : k = 1
  · simp only [h1, if_true]
    exact loc_bind loc_name name_sufN (fun s => loc_bind (loc_sign _).c (sign_sufN _) (fun _ => loc_bind (loc_one hf sf) (one_sufN sf) (fun F => (loc_pure (s, F)).c) (fun _ _ => sufN_refl _)) (fun _ _ => bind_sufN (one_sufN sf _) fun _ => sufN_refl _)) (fun _ _ => bind_sufN (sign_sufN _ _) fun _ => bind_sufN (one_sufN sf _) fun _ => sufN_refl _)
  · by_cases h7 : k = 7
    · simp only [if_neg h1, if_pos h7]
      exact loc_bind loc_way way_sufN (fun s => (loc_pure (s, (BT.nil : Fo))).c) (fun _ _ => sufN_refl _)
    · by_cases h8 : k = 8
      · simp only [if_neg h1, if_neg h7, if_pos h8]
        exact loc_bind (loc_both hf sf _) (both_sufN sf _) (fun F => (loc_pure (([] : List UInt8), F)).c) (fun _ _ => sufN_refl _)
      · by_cases h5 : k = 5 ∨ k = 6 ∨ k = 9
        · simp only [if_neg h1, if_neg h7, if_neg h8, if_pos h5]
          exact loc_bind (loc_both hf sf _) (both_sufN sf _) (fun F => (loc_pure (([] : List UInt8), F)).c) (fun _ _ => sufN_refl _)
        · simp only [if_neg h1, if_neg h7, if_neg h8, if_neg h5]
          exact loc_bind (loc_one hf sf) (one_sufN sf) (fun F => (loc_pure (([] : List UInt8), F)).c) (fun _ _ => sufN_refl _)
theorem item_sufN (sf : Sf ex) (l : List Tk) : SufN (itemG ex l).rest l := by
  cases l with
  | nil => exact sufN_refl _
  | cons t r =>
    show SufN (if t.kind = 4 ∧ itemKindB t.text ≠ 0 then (closeG [59] (bodyG ex (itemKindB t.text) r)).map (fun b => (⟨itemKindB t.text, b.1, b.2, t.pl⟩ : It)) else wrong' (t :: r)).rest _
    split
    · rename_i h; exact SufN.trans (close_sufN (body_sufN sf _ r)) (sufN_cons _ (by rw [h.1]; decide))
    · exact sufN_refl _
/-- An item hangs on the tokens that it takes. -/
theorem item_loc (hf : LocC ex) (sf : Sf ex) {t : Tk} {p x : List Tk} {i : It} (hv : (itemG ex (t :: (p ++ x))).val = some i) (hr : (itemG ex (t :: (p ++ x))).rest = x) (y : List Tk) : itemG ex (t :: (p ++ y)) = ⟨some i, y, (itemG ex (t :: (p ++ x))).many⟩ := by
  have e : ∀ r, itemG ex (t :: r) = if t.kind = 4 ∧ itemKindB t.text ≠ 0 then (closeG [59] (bodyG ex (itemKindB t.text) r)).map (fun b => (⟨itemKindB t.text, b.1, b.2, t.pl⟩ : It)) else wrong' (t :: r) := fun _ => rfl
  rw [e] at hv hr ⊢
  rw [e]
  by_cases hc : t.kind = 4 ∧ itemKindB t.text ≠ 0
  · rw [if_pos hc] at hv hr
    rw [if_pos hc, if_pos hc]
    cases hx : (closeG [59] (bodyG ex (itemKindB t.text) (p ++ x))).val with
    | none =>
      have hv' : (closeG [59] (bodyG ex (itemKindB t.text) (p ++ x))).val.map _ = some i := hv
      rw [hx] at hv'; cases hv'
    | some b =>
      have hv' : (closeG [59] (bodyG ex (itemKindB t.text) (p ++ x))).val.map _ = some i := hv
      rw [hx] at hv'
      have h := loc_close [59] (loc_body hf sf (itemKindB t.text)) (body_sufN sf _) p x y b hx hr
      simp only at h
      rw [h]
      have hv2 := Option.some.inj hv'
      rw [← hv2]; rfl
  · rw [if_neg hc] at hv; cases hv
end
end Go.Proofs.YtpeldiibjhffiaaDoor
namespace Go.Proofs.YtpeldiibjhffiaaDoor
open Go.RowKit Go.Deep

theorem sourceGo_end {ex : List Tk → Rs Ex} {m : Nat} {its : List It} {e1 : Tk} {r : List Tk} (h1 : e1.kind = 1) : sourceGo ex (m + 1) its (e1 :: r) = pure' its (e1 :: r) := by
  rw [sourceGo, if_pos h1]
/-- The items of the first are read as they were; then those of the second. -/
theorem source_join {ex : List Tk → Rs Ex} (hf : LocC ex) (sf : Sf ex) (hs : ∀ l, (ex l).rest <:+ l) {e1 : Tk} (he : e1.kind = 1) (B : List Tk) :
    ∀ (N : Nat) (A : List Tk) (m m' : Nat) (its its1 : List It), A.length ≤ N → (∀ t ∈ A, t.kind ≠ 1) → A.length + 1 ≤ m → A.length + B.length ≤ m' → (sourceGo ex m its (A ++ [e1])).val = some its1 →
      ∃ k, B.length ≤ k ∧ sourceGo ex m' its (A ++ B) = pre (sourceGo ex m its (A ++ [e1])).many (sourceGo ex k its1 B)
  | N, [], m, m', its, its1, _, _, hm, hm', hv => by
    cases m with
    | zero => simp at hm
    | succ m =>
      have e := sourceGo_end (ex := ex) (m := m) (its := its) (r := []) he
      simp only [List.nil_append] at hv ⊢
      rw [e] at hv ⊢
      have : its = its1 := Option.some.inj hv
      subst this
      exact ⟨m', by simpa using hm', rfl⟩
  | 0, t :: A, _, _, _, _, hN, _, _, _, _ => by simp at hN
  | N + 1, t :: A, m, m', its, its1, hN, hA, hm, hm', hv => by
    have ht : t.kind ≠ 1 := hA t (by simp)
    cases m with
    | zero => simp at hm
    | succ m =>
      cases m' with
      | zero => simp at hm'
      | succ m' =>
        simp only [List.cons_append] at hv ⊢
        rw [sourceGo, if_neg ht, note_pre] at hv ⊢
        rw [sourceGo, if_neg ht, note_pre]
        cases hx : (itemG ex (t :: (A ++ [e1]))).val with
        | none =>
          have hv' : ((itemG ex (t :: (A ++ [e1]))).bind fun i l2 => sourceGo ex m (its ++ [i]) l2).val = some its1 := hv
          rw [bind_none _ hx] at hv'; cases hv'
        | some i =>
          have hv' : ((itemG ex (t :: (A ++ [e1]))).bind fun i l2 => sourceGo ex m (its ++ [i]) l2).val = some its1 := hv
          rw [bind_pre _ hx] at hv'
          have hv2 : (sourceGo ex m (its ++ [i]) (itemG ex (t :: (A ++ [e1]))).rest).val = some its1 := hv'
          -- what the item takes
          obtain ⟨q, hq⟩ := item_suf hs hx
          obtain ⟨p0, hp0, hk0⟩ := item_sufN sf (t :: (A ++ [e1]))
          have hne : (itemG ex (t :: (A ++ [e1]))).rest ≠ [] := fun e0 => by
            rw [e0, List.append_nil] at hp0
            have : e1 ∈ p0 := by rw [← hp0]; simp
            exact hk0 e1 this he
          obtain ⟨A2, hA2⟩ : ∃ A2, (itemG ex (t :: (A ++ [e1]))).rest = A2 ++ [e1] := by
            have h3 := List.dropLast_concat_getLast hne
            refine ⟨(itemG ex (t :: (A ++ [e1]))).rest.dropLast, ?_⟩
            have h4 : (itemG ex (t :: (A ++ [e1]))).rest.getLast hne = e1 := by
              have h5 : (q ++ (itemG ex (t :: (A ++ [e1]))).rest).getLast (by simp [hne]) = (A ++ [e1]).getLast (by simp) := by congr 1
              rw [List.getLast_append_of_ne_nil _ hne] at h5
              rw [h5]; simp
            rw [h4] at h3; exact h3.symm
          rw [hA2] at hq hv2
          have hAq : A = q ++ A2 := by
            rw [← List.append_assoc] at hq
            exact (List.append_cancel_right hq).symm
          subst hAq
          rw [show q ++ A2 ++ [e1] = q ++ (A2 ++ [e1]) by simp] at *
          have hloc := item_loc hf sf (t := t) (p := q) (x := A2 ++ [e1]) hx hA2 (A2 ++ B)
          obtain ⟨k, hk, hj⟩ := source_join hf sf hs he B N A2 m m' (its ++ [i]) its1 (by simp at hN; omega) (fun u hu => hA u (by simp [hu])) (by simp at hm; omega) (by simp at hm'; omega) hv2
          refine ⟨k, hk, ?_⟩
          rw [show q ++ A2 ++ B = q ++ (A2 ++ B) by simp, hloc, bind_pre _ hx, hA2]
          rw [bind_pre (x := (⟨some i, A2 ++ B, (itemG ex (t :: (q ++ (A2 ++ [e1])))).many⟩ : Rs It)) _ rfl]
          simp only
          rw [hj]
          simp [pre, plOf]
theorem source_grow {ex : List Tk → Rs Ex} : ∀ (m : Nat) (its its2 : List It) (l : List Tk), (sourceGo ex m its l).val = some its2 → its.length ≤ its2.length
  | 0, its, its2, l, h => by have : its = its2 := Option.some.inj h; rw [this]; exact Nat.le_refl _
  | _ + 1, its, its2, [], h => by have : its = its2 := Option.some.inj h; rw [this]; exact Nat.le_refl _
  | m + 1, its, its2, t :: r, h => by
    rw [sourceGo] at h
    split at h
    · have : its = its2 := Option.some.inj h
      rw [this]; exact Nat.le_refl _
    · rw [note_pre] at h
      have h' : ((itemG ex (t :: r)).bind fun i l2 => sourceGo ex m (its ++ [i]) l2).val = some its2 := h
      cases hx : (itemG ex (t :: r)).val with
      | none => rw [bind_none _ hx] at h'; cases h'
      | some i =>
        rw [bind_pre _ hx] at h'
        have := source_grow m (its ++ [i]) its2 _ h'
        simp at this
        omega
/-- Items that were read before change nothing but that they stand ahead, where there are not too many. -/
theorem source_acc {ex : List Tk → Rs Ex} (hs : ∀ l, (ex l).rest <:+ l) (a : List It) : ∀ (m m' : Nat) (its its2 : List It) (l : List Tk), l.length ≤ m → l.length ≤ m' → (sourceGo ex m its l).val = some its2 → a.length + its2.length ≤ 100 → (∀ t, l.getLast? = some t → t.kind = 1) → 0 < l.length →
    sourceGo ex m' (a ++ its) l = ⟨some (a ++ its2), (sourceGo ex m its l).rest, (sourceGo ex m its l).many⟩
  | _, _, _, _, [], _, _, _, _, _, h => by simp at h
  | 0, _, _, _, _ :: _, h, _, _, _, _, _ => by simp at h
  | _, 0, _, _, _ :: _, _, h, _, _, _, _ => by simp at h
  | m + 1, m' + 1, its, its2, t :: r, hm, hm', hv, h100, hl, h0 => by
    rw [sourceGo] at hv ⊢
    rw [sourceGo]
    by_cases ht : t.kind = 1
    · rw [if_pos ht] at hv
      rw [if_pos ht, if_pos ht]
      have : its = its2 := Option.some.inj hv
      rw [this]; rfl
    · rw [if_neg ht, note_pre] at hv
      rw [if_neg ht, if_neg ht, note_pre, note_pre]
      have hv' : ((itemG ex (t :: r)).bind fun i l2 => sourceGo ex m (its ++ [i]) l2).val = some its2 := hv
      cases hx : (itemG ex (t :: r)).val with
      | none => rw [bind_none _ hx] at hv'; cases hv'
      | some i =>
        rw [bind_pre _ hx] at hv' ⊢
        rw [bind_pre _ hx]
        have hv2 : (sourceGo ex m (its ++ [i]) (itemG ex (t :: r)).rest).val = some its2 := hv'
        have hg := source_grow m (its ++ [i]) its2 _ hv2
        simp only [List.length_append, List.length_singleton] at hg
        obtain ⟨q, hq⟩ := item_suf hs hx
        have hlen := congrArg List.length hq
        rw [List.length_append] at hlen
        simp at hm hm'
        have e1 : decide ((a ++ its).length = 100) = false := by simp; omega
        have e2 : decide (its.length = 100) = false := by simp; omega
        rw [e1, e2]
        cases hr : (itemG ex (t :: r)).rest with
        | nil =>
          rw [hr] at hv2
          have e3 : ∀ n j, sourceGo ex n j [] = pure' j [] := fun n j => by cases n <;> rfl
          rw [e3] at hv2
          rw [e3, e3, List.append_assoc]
          have : its ++ [i] = its2 := Option.some.inj hv2
          rw [this]; rfl
        | cons t2 r2 =>
          rw [hr] at hv2 hq hlen
          have ih := source_acc hs a m m' (its ++ [i]) its2 (t2 :: r2) (by omega) (by omega) hv2 h100 (fun u hu => hl u (by
            rw [List.getLast?_cons, ← hq, List.getLast?_append, hu]; rfl)) (by simp)
          rw [List.append_assoc, ih]
          rfl
end Go.Proofs.YtpeldiibjhffiaaDoor
namespace Go.Proofs.YtpeldiibjhffiaaDoor
open Go.RowKit Go.Deep

theorem end_ok {x : Rs (List It)} (h : (endW x).2.1 = 0) : ∃ its, x.val = some its ∧ x.many = [] ∧ (deepR its).1 = 0 ∧ endW x = (its, 0, 0) := by
  unfold endW at h ⊢
  cases hx : x.val with
  | none => rw [hx] at h; cases h
  | some its =>
    rw [hx] at h
    simp only at h ⊢
    by_cases h1 : (flt x.many (0, 0)).1 = 0
    · rw [if_neg (by simpa using h1)] at h ⊢
      by_cases h2 : (deepR its).1 = 0
      · rw [if_neg (by simpa using h2)]
        refine ⟨its, rfl, ?_, h2, rfl⟩
        cases hm : x.many with
        | nil => rfl
        | cons a r => rw [hm] at h1; cases h1
      · rw [if_pos (by simpa using h2)] at h; exact absurd h h2
    · rw [if_pos (by simpa using h1)] at h; exact absurd h h1
theorem end_of {x : Rs (List It)} {its : List It} (h1 : x.val = some its) (h2 : x.many = []) (h3 : (deepR its).1 = 0) : endW x = (its, 0, 0) := by
  unfold endW
  rw [h1]
  simp only
  rw [h2, flt_nil, if_neg (by simp), if_neg (by simpa using h3)]
theorem deep_app : ∀ (a b : List It), (deepR a).1 = 0 → (deepR b).1 = 0 → (deepR (a ++ b)).1 = 0
  | [], b, _, h => h
  | i :: a, b, h1, h2 => by
    rw [List.cons_append, deepR_cons]
    rw [deepR_cons] at h1
    by_cases hd : deepW i = true
    · rw [if_pos hd] at h1; cases h1
    · rw [if_neg hd] at h1 ⊢
      exact deep_app a b h1 h2
theorem same_app : ∀ (a : List It) {b c : List It}, sameI b c = true → sameI (a ++ b) (a ++ c) = true
  | [], b, c, h => h
  | i :: a, b, c, h => by
    have := same_app a h
    simp [sameI, sameF_refl, this]
theorem good_kind {S : List UInt8} {t : Tk} (h : Good S t) : t.kind ≠ 1 := by
  rw [h.is]
  rcases tk_cases (p := t.pl) h.some h.right with h | h | h | h | h
  · rw [h.1]; decide
  · rw [h.1]; decide
  · rw [h.1]; decide
  · rw [h.1]; decide
  · rw [h.1]; decide
theorem strip_shift (d : Nat) (l : List Tk) : (l.map (shiftT d)).map strip = l.map strip := by
  rw [List.map_map]; rfl
theorem parse_scan {S : List UInt8} (h : (parseW S).2.1 = 0) : (scanB S).2.2 = 0 ∧ parseW S = endW (sourceG (scanB S).1) := by
  unfold parseW at h ⊢
  by_cases hz : (scanB S).2.2 = 0
  · rw [if_neg (by simpa using hz)]; exact ⟨hz, rfl⟩
  · rw [if_pos (by simpa using hz)] at h; exact absurd h hz
theorem parse_join {S T : List UInt8} (h : S.length + T.length + 1 ≤ 4000) (h1 : (parseW S).2.1 = 0) (h2 : (parseW T).2.1 = 0) (h3 : (parseW S).1.length + (parseW T).1.length ≤ 100) :
    (parseW (S ++ 10 :: T)).2.1 = 0 ∧ sameI (parseW (S ++ 10 :: T)).1 ((parseW S).1 ++ (parseW T).1) = true := by
  obtain ⟨z1, e1⟩ := parse_scan h1
  obtain ⟨z2, e2⟩ := parse_scan h2
  obtain ⟨A, hA, hJ⟩ := (scan_join h).2.2 z1 z2
  obtain ⟨_, _, T1, hT1, hg1, _⟩ := scan_good z1
  obtain ⟨_, _, T2, hT2, _, _⟩ := scan_good z2
  have f1 := scan_few S
  have fJ := scan_few (S ++ 10 :: T)
  have hAk : ∀ t ∈ A, t.kind ≠ 1 := fun t ht => by
    have : A = T1 := by
      rw [hA] at hT1
      exact List.append_cancel_right hT1
    rw [this] at ht
    exact good_kind (hg1 t ht)
  rw [e1] at h1 h3 ⊢
  rw [e2] at h2 h3 ⊢
  obtain ⟨its1, v1, m1, d1, w1⟩ := end_ok h1
  obtain ⟨its2, v2, m2, d2, w2⟩ := end_ok h2
  rw [w1, w2] at h3 ⊢
  rw [hA] at v1 m1 f1
  rw [hJ] at fJ
  have eJ : parseW (S ++ 10 :: T) = endW (sourceG (A ++ (scanB T).1.map (shiftT (S.length + 1)))) := by
    unfold parseW
    rw [hJ, if_neg (by simp)]
  generalize hB : (scanB T).1.map (shiftT (S.length + 1)) = B at *
  have hBs : B.map strip = (scanB T).1.map strip := by rw [← hB]; exact strip_shift _ _
  have hr : Rl RL' (sourceG B) (sourceG (scanB T).1) := rl_source (rl_expr (rl_fac mx)) mx [] [] _ _ rfl hBs
  obtain ⟨its2', v2', hsame⟩ : ∃ its2', (sourceG B).val = some its2' ∧ sameI its2' its2 = true := by
    rcases hr.val with ⟨_, q⟩ | ⟨a, b, qa, qb, qR⟩
    · rw [v2] at q; cases q
    · rw [v2] at qb; cases qb
      exact ⟨a, qa, qR⟩
  have m2' : (sourceG B).many = [] := by
    have := hr.many
    rw [m2] at this
    exact List.eq_nil_of_length_eq_zero this
  simp only [List.length_append, List.length_singleton] at f1 fJ
  obtain ⟨k, hk, hj⟩ := source_join (loc_expr (loc_fac mx) (fac_sufN mx)) (expr_sufN (fac_sufN mx)) (expr_suf (fac_suf mx)) (e1 := endTk S.length) rfl B A.length A mx mx [] its1 (Nat.le_refl _) hAk (by unfold mx; omega) (by unfold mx; omega) v1
  have hBl : B = T2.map (shiftT (S.length + 1)) ++ [shiftT (S.length + 1) (endTk T.length)] := by
    rw [← hB, hT2, List.map_append]; rfl
  have hacc := source_acc (ex := exprG (facN mx)) (expr_suf (fac_suf mx)) its1 mx k [] its2' B (by unfold mx; omega) hk v2' (by rw [rI_len hsame]; exact h3) (fun t ht => by
    rw [hBl, List.getLast?_append] at ht
    simp at ht
    rw [← ht]; rfl) (by rw [hBl]; simp)
  rw [List.append_nil] at hacc
  have hX : sourceG (A ++ B) = pre (sourceG (A ++ [endTk S.length])).many (sourceGo (exprG (facN mx)) k its1 B) := hj
  rw [m1, pre_nil, hacc] at hX
  have hd2 : (deepR its2').1 = 0 := by rw [deepR_same hsame]; exact d2
  have hE := end_of (x := sourceG (A ++ B)) (its := its1 ++ its2') (by rw [hX]) (by rw [hX]; exact m2') (deep_app _ _ d1 hd2)
  rw [eJ, hE]
  exact ⟨rfl, same_app its1 hsame⟩
end Go.Proofs.YtpeldiibjhffiaaDoor
