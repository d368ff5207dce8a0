/-
  The tree hangs on tokens alone, but for its places. What a rule reads hangs on the tokens that it takes, and the one behind them. Expressions and items hang on the tokens that they take.
-/
import Derived.Test.YtpeldiibjhffiaaDoorG19
import Derived.Test.YtpeldiibjhffiaaDoorG21
namespace Go.Proofs.YtpeldiibjhffiaaDoor
open Go.RowKit Go.Deep

structure Rl {α : Type} (R : α → α → Prop) (x y : Rs α) : Prop where
  val : (x.val = none ∧ y.val = none) ∨ ∃ a b, x.val = some a ∧ y.val = some b ∧ R a b
  rest : x.rest.map strip = y.rest.map strip
  many : x.many.length = y.many.length
theorem rl_bind {α β : Type} {R : α → α → Prop} {Q : β → β → Prop} {x y : Rs α} {f g : α → List Tk → Rs β} (h : Rl R x y) (hf : ∀ a b l l', R a b → l.map strip = l'.map strip → Rl Q (f a l) (g b l')) : Rl Q (x.bind f) (y.bind g) := by
  rcases h.val with ⟨h1, h2⟩ | ⟨a, b, h1, h2, hR⟩
  · rw [bind_none _ h1, bind_none _ h2]; exact ⟨.inl ⟨rfl, rfl⟩, h.rest, h.many⟩
  · have hq := hf a b _ _ hR h.rest
    rw [bind_pre _ h1, bind_pre _ h2]
    exact ⟨hq.val, hq.rest, by show (x.many ++ _).length = (y.many ++ _).length; rw [List.length_append, List.length_append, h.many, hq.many]⟩
theorem rl_pure {α : Type} {R : α → α → Prop} {a b : α} {l l' : List Tk} (h : R a b) (hl : l.map strip = l'.map strip) : Rl R (pure' a l) (pure' b l') := ⟨.inr ⟨a, b, rfl, rfl, h⟩, hl, rfl⟩
theorem rl_wrong {α : Type} {R : α → α → Prop} {l l' : List Tk} (hl : l.map strip = l'.map strip) : Rl R (wrong' l) (wrong' l') := ⟨.inl ⟨rfl, rfl⟩, hl, rfl⟩
theorem rl_map {α β : Type} {R : α → α → Prop} {Q : β → β → Prop} {x y : Rs α} {f g : α → β} (h : Rl R x y) (hf : ∀ a b, R a b → Q (f a) (g b)) : Rl Q (x.map f) (y.map g) := by
  refine ⟨?_, h.rest, h.many⟩
  rcases h.val with ⟨h1, h2⟩ | ⟨a, b, h1, h2, hR⟩
  · left; exact ⟨by show x.val.map f = none; rw [h1]; rfl, by show y.val.map g = none; rw [h2]; rfl⟩
  · right; exact ⟨f a, g b, by show x.val.map f = _; rw [h1]; rfl, by show y.val.map g = _; rw [h2]; rfl, hf a b hR⟩
theorem rl_note {α : Type} {R : α → α → Prop} {x y : Rs α} (c : Bool) {l l' : List Tk} (h : Rl R x y) : Rl R (note c l x) (note c l' y) := by
  cases c
  · exact h
  · exact ⟨h.val, h.rest, by show x.many.length + 1 = y.many.length + 1; rw [h.many]⟩
theorem isT_strip {k : Int} {s : List UInt8} {t t' : Tk} (h : strip t = strip t') : isT k s t = isT k s t' := by
  simp only [strip, Prod.mk.injEq] at h
  unfold isT; rw [h.1, h.2.2]
theorem cons_strip {l l' : List Tk} (h : l.map strip = l'.map strip) : (l = [] ∧ l' = []) ∨ ∃ t r t' r', l = t :: r ∧ l' = t' :: r' ∧ strip t = strip t' ∧ r.map strip = r'.map strip := by
  cases l with
  | nil =>
    cases l' with
    | nil => exact .inl ⟨rfl, rfl⟩
    | cons t r => simp at h
  | cons t r =>
    cases l' with
    | nil => simp at h
    | cons t' r' => simp at h; exact .inr ⟨t, r, t', r', rfl, rfl, h.1, h.2⟩
theorem map_cons {t t' : Tk} {r r' : List Tk} (h1 : strip t = strip t') (h2 : r.map strip = r'.map strip) : (t :: r).map strip = (t' :: r').map strip := by
  simp [h1, h2]
def RE (a b : Ex) : Prop := sameH a.1 b.1 = true ∧ sameF a.2 b.2 = true
def RK (a b : List Ex) : Prop := sameF (ofL a) (ofL b) = true
def RU (_ _ : Unit) : Prop := True
theorem rk_len {a b : List Ex} (h : RK a b) : a.length = b.length := by
  rcases Classical.em (a.length = b.length) with e | e
  · exact e
  · have := sameF_len (ofL a) (ofL b) (by rw [lenF_of, lenF_of]; exact e)
    unfold RK at h
    rw [this] at h; cases h
theorem rk_snoc : ∀ {a b : List Ex} {x y : Ex}, RK a b → RE x y → RK (a ++ [x]) (b ++ [y])
  | [], [], x, y, _, h => by simp [RK, ofL, nd, sameF, h.1, h.2]
  | [], _ :: _, _, _, h, _ => by simp [RK, ofL, nd, sameF] at h
  | _ :: _, [], _, _, h, _ => by simp [RK, ofL, nd, sameF] at h
  | p :: a, q :: b, x, y, h, hxy => by
    simp only [RK, ofL, nd, sameF, Bool.and_eq_true, List.cons_append] at h ⊢
    exact ⟨h.1, h.2.1, rk_snoc (a := a) (b := b) h.2.2 hxy⟩
theorem hdB_same {k : Int} {t t' : Tk} : sameH (hdB k t) (hdB k t') = true := by simp [sameH, hdB]
theorem re_two {a b c d : Ex} {k : Int} {t t' : Tk} (h1 : RE a b) (h2 : RE c d) : RE (hdB k t, ofL [a, c]) (hdB k t', ofL [b, d]) := by
  exact ⟨hdB_same, by simp [ofL, nd, sameF, h1.1, h1.2, h2.1, h2.2]⟩
theorem rl_sign {s : List UInt8} {l l' : List Tk} (h : l.map strip = l'.map strip) : Rl RU (signG s l) (signG s l') := by
  rcases cons_strip h with ⟨rfl, rfl⟩ | ⟨t, r, t', r', rfl, rfl, h1, h2⟩
  · exact rl_wrong rfl
  · show Rl RU (if isT 6 s t = true then _ else _) (if isT 6 s t' = true then _ else _)
    rw [isT_strip h1]
    split
    · exact rl_pure trivial h2
    · exact rl_wrong (map_cons h1 h2)
section
variable {fac : List Tk → Rs Ex}
theorem rl_termGo (hf : ∀ l l', l.map strip = l'.map strip → Rl RE (fac l) (fac l')) : ∀ (m : Nat) (e e' : Ex) (l l' : List Tk), RE e e' → l.map strip = l'.map strip → Rl RE (termGo fac m e l) (termGo fac m e' l')
  | 0, e, e', l, l', he, hl => rl_pure he hl
  | m + 1, e, e', l, l', he, hl => by
    rcases cons_strip hl with ⟨rfl, rfl⟩ | ⟨t, r, t', r', rfl, rfl, h1, h2⟩
    · exact rl_pure he rfl
    · rw [termGo, termGo, isT_strip h1]
      split
      · exact rl_bind (hf r r' h2) fun a b l l' hR hll => rl_termGo hf m _ _ _ _ (re_two he hR) hll
      · exact rl_pure he hl
theorem rl_term (hf : ∀ l l', l.map strip = l'.map strip → Rl RE (fac l) (fac l')) (l l' : List Tk) (hl : l.map strip = l'.map strip) : Rl RE (termG fac l) (termG fac l') :=
  rl_bind (hf l l' hl) fun a b l l' hR hll => rl_termGo hf mx a b l l' hR hll
theorem rl_exprGo (hf : ∀ l l', l.map strip = l'.map strip → Rl RE (fac l) (fac l')) : ∀ (m : Nat) (e e' : Ex) (l l' : List Tk), RE e e' → l.map strip = l'.map strip → Rl RE (exprGo fac m e l) (exprGo fac m e' l')
  | 0, e, e', l, l', he, hl => rl_pure he hl
  | m + 1, e, e', l, l', he, hl => by
    rcases cons_strip hl with ⟨rfl, rfl⟩ | ⟨t, r, t', r', rfl, rfl, h1, h2⟩
    · exact rl_pure he rfl
    · rw [exprGo, exprGo, isT_strip h1, isT_strip h1]
      split
      · exact rl_bind (hf r r' h2) fun a b l l' hR hll => rl_exprGo hf m _ _ _ _ (re_two he hR) hll
      · exact rl_pure he hl
theorem rl_expr (hf : ∀ l l', l.map strip = l'.map strip → Rl RE (fac l) (fac l')) (l l' : List Tk) (hl : l.map strip = l'.map strip) : Rl RE (exprG fac l) (exprG fac l') :=
  rl_bind (rl_term hf l l' hl) fun a b l l' hR hll => rl_exprGo (rl_term hf) mx a b l l' hR hll
theorem rl_kidsGo (hf : ∀ l l', l.map strip = l'.map strip → Rl RE (fac l) (fac l')) : ∀ (m : Nat) (e e' : List Ex) (l l' : List Tk), RK e e' → l.map strip = l'.map strip → Rl RK (kidsGo fac m e l) (kidsGo fac m e' l')
  | 0, e, e', l, l', he, hl => rl_pure he hl
  | m + 1, e, e', l, l', he, hl => by
    rcases cons_strip hl with ⟨rfl, rfl⟩ | ⟨t, r, t', r', rfl, rfl, h1, h2⟩
    · exact rl_pure he rfl
    · rw [kidsGo, kidsGo, isT_strip h1, rk_len he]
      split
      · exact rl_note _ (rl_bind (hf r r' h2) fun a b l l' hR hll => rl_kidsGo hf m _ _ _ _ (rk_snoc he hR) hll)
      · exact rl_pure he hl
theorem rl_close {α : Type} {R : α → α → Prop} {s : List UInt8} {x y : Rs α} (h : Rl R x y) : Rl R (closeG s x) (closeG s y) :=
  rl_bind h fun _ _ _ _ hR hll => rl_bind (rl_sign hll) fun _ _ _ _ _ h2 => rl_pure hR h2
theorem rl_kids (hf : ∀ l l', l.map strip = l'.map strip → Rl RE (fac l) (fac l')) (l l' : List Tk) (hl : l.map strip = l'.map strip) : Rl RK (kidsG fac l) (kidsG fac l') :=
  rl_bind (rl_sign hl) fun _ _ _ _ _ hll => rl_close (rl_bind (hf _ _ hll) fun a b _ _ hR h2 => rl_kidsGo hf mx [a] [b] _ _ (by simp [RK, ofL, nd, sameF, hR.1, hR.2]) h2)
end
theorem rl_fac : ∀ (n : Nat) (l l' : List Tk), l.map strip = l'.map strip → Rl RE (facN n l) (facN n l')
  | 0, l, l', h => rl_wrong h
  | n + 1, l, l', h => by
    rcases cons_strip h with ⟨rfl, rfl⟩ | ⟨t, r, t', r', rfl, rfl, h1, h2⟩
    · exact rl_wrong rfl
    · have hs := h1
      simp only [strip, Prod.mk.injEq] at hs
      rw [facN, facN, hs.1, isT_strip (s := [45]) h1, isT_strip (s := [40]) h1, isT_strip (s := wMin) h1, isT_strip (s := wMax) h1]
      have ih := rl_fac n
      repeat' split
      · exact rl_pure (by simp [RE, sameH, sameF, hs.2.1]) h2
      · exact rl_pure (by simp [RE, sameH, sameF, hs.2.2]) h2
      · exact rl_pure (by simp [RE, sameH, sameF, hs.2.2]) h2
      · exact rl_map (ih r r' h2) fun a b hR => ⟨hdB_same, by simp [ofL, nd, sameF, hR.1, hR.2]⟩
      · exact rl_close (rl_expr ih r r' h2)
      · exact rl_map (rl_kids (rl_expr ih) r r' h2) fun a b hR => ⟨hdB_same, hR⟩
      · exact rl_map (rl_kids (rl_expr ih) r r' h2) fun a b hR => ⟨hdB_same, hR⟩
      · exact rl_wrong h
def RB (a b : List UInt8) : Prop := a = b
def RF (a b : Fo) : Prop := sameF a b = true
def RP (a b : List UInt8 × Fo) : Prop := a.1 = b.1 ∧ sameF a.2 b.2 = true
def RI (a b : It) : Prop := a.kind = b.kind ∧ a.name = b.name ∧ sameF a.args b.args = true
def RL' (a b : List It) : Prop := sameI a b = true
theorem rl_name {l l' : List Tk} (h : l.map strip = l'.map strip) : Rl RB (nameG l) (nameG l') := by
  rcases cons_strip h with ⟨rfl, rfl⟩ | ⟨t, r, t', r', rfl, rfl, h1, h2⟩
  · exact rl_wrong rfl
  · have hs := h1
    simp only [strip, Prod.mk.injEq] at hs
    show Rl RB (if t.kind = 3 then _ else _) (if t'.kind = 3 then _ else _)
    rw [hs.1]
    split
    · exact rl_pure hs.2.2 h2
    · exact rl_wrong h
theorem rl_way {l l' : List Tk} (h : l.map strip = l'.map strip) : Rl RB (wayG l) (wayG l') := by
  rcases cons_strip h with ⟨rfl, rfl⟩ | ⟨t, r, t', r', rfl, rfl, h1, h2⟩
  · exact rl_wrong rfl
  · have hs := h1
    simp only [strip, Prod.mk.injEq] at hs
    show Rl RB (if t.kind = 4 ∧ isWayB t.text = true then pure' t.text r else _) (if t'.kind = 4 ∧ isWayB t'.text = true then pure' t'.text r' else _)
    rw [hs.1, hs.2.2]
    split
    · exact rl_pure rfl h2
    · exact rl_wrong h
section
variable {ex : List Tk → Rs Ex}
theorem rl_one (hf : ∀ l l', l.map strip = l'.map strip → Rl RE (ex l) (ex l')) {l l' : List Tk} (h : l.map strip = l'.map strip) : Rl RF (oneG ex l) (oneG ex l') :=
  rl_bind (hf l l' h) fun a b _ _ hR h2 => rl_pure (by simp [RF, ofL, nd, sameF, hR.1, hR.2]) h2
theorem rl_both (hf : ∀ l l', l.map strip = l'.map strip → Rl RE (ex l) (ex l')) {s : List UInt8} {l l' : List Tk} (h : l.map strip = l'.map strip) : Rl RF (bothG ex s l) (bothG ex s l') :=
  rl_bind (hf l l' h) fun a b _ _ hR h2 => rl_bind (rl_sign h2) fun _ _ _ _ _ h3 => rl_bind (hf _ _ h3) fun c d _ _ hR2 h4 => rl_pure (by simp [RF, ofL, nd, sameF, hR.1, hR.2, hR2.1, hR2.2]) h4
theorem rl_body (hf : ∀ l l', l.map strip = l'.map strip → Rl RE (ex l) (ex l')) (k : Int) {l l' : List Tk} (h : l.map strip = l'.map strip) : Rl RP (bodyG ex k l) (bodyG ex k l') := by
  unfold bodyG
  repeat' split
  · exact rl_bind (rl_name h) fun a b _ _ hab h2 => rl_bind (rl_sign h2) fun _ _ _ _ _ h3 => rl_bind (rl_one hf h3) fun c d _ _ hcd h4 => rl_pure ⟨hab, hcd⟩ h4
  · exact rl_bind (rl_way h) fun a b _ _ hab h2 => rl_pure ⟨hab, rfl⟩ h2
  · exact rl_bind (rl_both hf h) fun a b _ _ hab h2 => rl_pure ⟨rfl, hab⟩ h2
  · exact rl_bind (rl_both hf h) fun a b _ _ hab h2 => rl_pure ⟨rfl, hab⟩ h2
  · exact rl_bind (rl_one hf h) fun a b _ _ hab h2 => rl_pure ⟨rfl, hab⟩ h2
theorem rl_item (hf : ∀ l l', l.map strip = l'.map strip → Rl RE (ex l) (ex l')) {l l' : List Tk} (h : l.map strip = l'.map strip) : Rl RI (itemG ex l) (itemG ex l') := by
  rcases cons_strip h with ⟨rfl, rfl⟩ | ⟨t, r, t', r', rfl, rfl, h1, h2⟩
  · exact rl_wrong rfl
  · have hs := h1
    simp only [strip, Prod.mk.injEq] at hs
    show Rl RI (if t.kind = 4 ∧ itemKindB t.text ≠ 0 then (closeG [59] (bodyG ex (itemKindB t.text) r)).map (fun b => (⟨itemKindB t.text, b.1, b.2, t.pl⟩ : It)) else wrong' (t :: r)) (if t'.kind = 4 ∧ itemKindB t'.text ≠ 0 then (closeG [59] (bodyG ex (itemKindB t'.text) r')).map (fun b => (⟨itemKindB t'.text, b.1, b.2, t'.pl⟩ : It)) else wrong' (t' :: r'))
    rw [hs.1, hs.2.2]
    split
    · exact rl_map (rl_close (rl_body hf _ h2)) fun a b hab => ⟨rfl, hab.1, hab.2⟩
    · exact rl_wrong h
theorem rI_snoc : ∀ {a b : List It} {x y : It}, RL' a b → RI x y → RL' (a ++ [x]) (b ++ [y])
  | [], [], x, y, _, h => by simp [RL', sameI, h.1, h.2.1, h.2.2]
  | [], _ :: _, _, _, h, _ => by simp [RL', sameI] at h
  | _ :: _, [], _, _, h, _ => by simp [RL', sameI] at h
  | p :: a, q :: b, x, y, h, hxy => by
    simp only [RL', sameI, Bool.and_eq_true, List.cons_append] at h ⊢
    exact ⟨h.1, rI_snoc (a := a) (b := b) h.2 hxy⟩
theorem rI_len {a b : List It} (h : RL' a b) : a.length = b.length := by
  rcases Classical.em (a.length = b.length) with e | e
  · exact e
  · have := sameI_len a b e
    unfold RL' at h
    rw [this] at h; cases h
theorem rl_source (hf : ∀ l l', l.map strip = l'.map strip → Rl RE (ex l) (ex l')) : ∀ (m : Nat) (e e' : List It) (l l' : List Tk), RL' e e' → l.map strip = l'.map strip → Rl RL' (sourceGo ex m e l) (sourceGo ex m e' l')
  | 0, e, e', l, l', he, hl => rl_pure he hl
  | m + 1, e, e', l, l', he, hl => by
    rcases cons_strip hl with ⟨rfl, rfl⟩ | ⟨t, r, t', r', rfl, rfl, h1, h2⟩
    · exact rl_pure he rfl
    · have hs := h1
      simp only [strip, Prod.mk.injEq] at hs
      rw [sourceGo, sourceGo, hs.1, rI_len he]
      split
      · exact rl_pure he hl
      · exact rl_note _ (rl_bind (rl_item hf hl) fun a b l l' hR hll => rl_source hf m _ _ _ _ (rI_snoc he hR) hll)
end
theorem depW_same : ∀ {F G : Fo}, sameF F G = true → depW F = depW G
  | .nil, .nil, _ => rfl
  | .nil, .node _ _ _ _ _, h => by cases h
  | .node _ _ _ _ _, .nil, h => by cases h
  | .node _ _ _ k r, .node _ _ _ k' r', h => by
    simp only [sameF, Bool.and_eq_true] at h
    simp only [depW]
    rw [depW_same h.2.1, depW_same h.2.2]
theorem deepR_same : ∀ {a b : List It}, sameI a b = true → (deepR a).1 = (deepR b).1
  | [], [], _ => rfl
  | [], _ :: _, h => by cases h
  | _ :: _, [], h => by cases h
  | i :: r, j :: s, h => by
    simp only [sameI, Bool.and_eq_true] at h
    have h1 : deepW i = deepW j := by unfold deepW; rw [depW_same h.1.2.2]
    rw [deepR_cons, deepR_cons, h1]
    split
    · rfl
    · exact deepR_same h.2
theorem flt_same {m m' : List Int} (h : m.length = m'.length) : (flt m (0, 0)).1 = (flt m' (0, 0)).1 := by
  cases m with
  | nil =>
    cases m' with
    | nil => rfl
    | cons a r => simp at h
  | cons a r =>
    cases m' with
    | nil => simp at h
    | cons b s => rfl
/-- Tokens that are the same but for places say the same but for places. -/
theorem end_same {T M : List Tk} (h : M.map strip = T.map strip) : sameI (endW (sourceG T)).1 (endW (sourceG M)).1 = true ∧ (endW (sourceG T)).2.1 = (endW (sourceG M)).2.1 := by
  have hr := rl_source (rl_expr (rl_fac mx)) mx [] [] T M rfl h.symm
  have hx : Rl RL' (sourceG T) (sourceG M) := hr
  generalize sourceG T = x at *
  generalize sourceG M = y at *
  unfold endW
  rcases hx.val with ⟨h1, h2⟩ | ⟨a, b, h1, h2, hR⟩
  · rw [h1, h2]; exact ⟨rfl, rfl⟩
  · rw [h1, h2]
    simp only
    rw [flt_same hx.many, deepR_same hR]
    split
    · exact ⟨rfl, flt_same hx.many⟩
    · split
      · exact ⟨rfl, deepR_same hR⟩
      · exact ⟨hR, rfl⟩
end Go.Proofs.YtpeldiibjhffiaaDoor
namespace Go.Proofs.YtpeldiibjhffiaaDoor
open Go.RowKit Go.Deep

/-- An end of a list, behind tokens none of which is the end. -/
def SufN (a b : List Tk) : Prop := ∃ p, b = p ++ a ∧ ∀ t ∈ p, t.kind ≠ 1
theorem sufN_refl (a : List Tk) : SufN a a := ⟨[], rfl, by simp⟩
theorem sufN_cons {t : Tk} (r : List Tk) (h : t.kind ≠ 1) : SufN r (t :: r) := ⟨[t], rfl, by simpa using h⟩
theorem SufN.trans {a b c : List Tk} (h : SufN a b) (k : SufN b c) : SufN a c := by
  obtain ⟨p, rfl, hp⟩ := h
  obtain ⟨q, rfl, hq⟩ := k
  refine ⟨q ++ p, by simp, fun t ht => ?_⟩
  rcases List.mem_append.1 ht with h | h
  · exact hq t h
  · exact hp t h
theorem bind_sufN {α β : Type} {x : Rs α} {f : α → List Tk → Rs β} {l : List Tk} (h : SufN x.rest l) (hf : ∀ a, SufN (f a x.rest).rest x.rest) : SufN (x.bind f).rest l := by
  cases hx : x.val with
  | none => rw [bind_none _ hx]; exact h
  | some a => rw [bind_some _ hx]; exact (hf a).trans h
theorem note_sufN {α : Type} {c : Bool} {l l' : List Tk} {x : Rs α} (h : SufN x.rest l') : SufN (note c l x).rest l' := by
  unfold note; split <;> exact h
theorem sign_sufN (s : List UInt8) (l : List Tk) : SufN (signG s l).rest l := by
  cases l with
  | nil => exact sufN_refl _
  | cons t r =>
    show SufN (if isT 6 s t = true then pure' () r else wrong' (t :: r)).rest _
    split
    · rename_i h; exact sufN_cons _ (isT_kind h (by decide))
    · exact sufN_refl _
theorem close_sufN {α : Type} {s : List UInt8} {x : Rs α} {l : List Tk} (h : SufN x.rest l) : SufN (closeG s x).rest l :=
  bind_sufN h fun _ => bind_sufN (sign_sufN s _) fun _ => sufN_refl _
section
variable {fac : List Tk → Rs Ex}
theorem termGo_sufN (hf : ∀ l, SufN (fac l).rest l) : ∀ (m : Nat) (e : Ex) (l : List Tk), SufN (termGo fac m e l).rest l
  | 0, e, l => sufN_refl _
  | _ + 1, e, [] => sufN_refl _
  | m + 1, e, t :: r => by
    rw [termGo]
    split
    · rename_i h; exact (bind_sufN (hf r) fun a => termGo_sufN hf m _ _).trans (sufN_cons _ (isT_kind h (by decide)))
    · exact sufN_refl _
theorem term_sufN (hf : ∀ l, SufN (fac l).rest l) (l : List Tk) : SufN (termG fac l).rest l := bind_sufN (hf l) fun _ => termGo_sufN hf _ _ _
theorem exprGo_sufN (hf : ∀ l, SufN (fac l).rest l) : ∀ (m : Nat) (e : Ex) (l : List Tk), SufN (exprGo fac m e l).rest l
  | 0, e, l => sufN_refl _
  | _ + 1, e, [] => sufN_refl _
  | m + 1, e, t :: r => by
    rw [exprGo]
    split
    · rename_i h
      have hk : t.kind ≠ 1 := by
        rcases Bool.or_eq_true _ _ ▸ h with h | h
        · exact isT_kind h (by decide)
        · exact isT_kind h (by decide)
      exact (bind_sufN (hf r) fun a => exprGo_sufN hf m _ _).trans (sufN_cons _ hk)
    · exact sufN_refl _
theorem expr_sufN (hf : ∀ l, SufN (fac l).rest l) (l : List Tk) : SufN (exprG fac l).rest l := bind_sufN (term_sufN hf l) fun _ => exprGo_sufN (term_sufN hf) _ _ _
theorem kidsGo_sufN (hf : ∀ l, SufN (fac l).rest l) : ∀ (m : Nat) (ks : List Ex) (l : List Tk), SufN (kidsGo fac m ks l).rest l
  | 0, e, l => sufN_refl _
  | _ + 1, e, [] => sufN_refl _
  | m + 1, e, t :: r => by
    rw [kidsGo]
    split
    · rename_i h; exact (note_sufN (bind_sufN (hf r) fun a => kidsGo_sufN hf m _ _)).trans (sufN_cons _ (isT_kind h (by decide)))
    · exact sufN_refl _
theorem kids_sufN (hf : ∀ l, SufN (fac l).rest l) (l : List Tk) : SufN (kidsG fac l).rest l :=
  bind_sufN (sign_sufN _ l) fun _ => close_sufN (bind_sufN (hf _) fun _ => kidsGo_sufN hf _ _ _)
end
theorem fac_sufN : ∀ (n : Nat) (l : List Tk), SufN (facN n l).rest l
  | 0, l => sufN_refl _
  | _ + 1, [] => sufN_refl _
  | n + 1, t :: r => by
    have h := fac_sufN n
    rw [facN]
    split
    · rename_i hk; exact sufN_cons _ (by rw [hk]; decide)
    · split
      · rename_i hk; exact sufN_cons _ (by rw [hk]; decide)
      · split
        · rename_i hk; exact sufN_cons _ (by rw [hk]; decide)
        · split
          · rename_i hk; exact (h r).trans (sufN_cons _ (isT_kind hk (by decide)))
          · split
            · rename_i hk; exact (close_sufN (expr_sufN h r)).trans (sufN_cons _ (isT_kind hk (by decide)))
            · split
              · rename_i hk; exact (kids_sufN (expr_sufN h) r).trans (sufN_cons _ (isT_kind hk (by decide)))
              · split
                · rename_i hk; exact (kids_sufN (expr_sufN h) r).trans (sufN_cons _ (isT_kind hk (by decide)))
                · exact sufN_refl _
/-- What is read hangs on what is taken, and the token behind it. -/
def LocC {α : Type} (G : List Tk → Rs α) : Prop := ∀ p c x y a, (G (p ++ c :: x)).val = some a → (G (p ++ c :: x)).rest = c :: x → G (p ++ c :: y) = ⟨some a, c :: y, (G (p ++ c :: x)).many⟩
/-- What is read hangs on what is taken. -/
def Loc0 {α : Type} (G : List Tk → Rs α) : Prop := ∀ p x y a, (G (p ++ x)).val = some a → (G (p ++ x)).rest = x → G (p ++ y) = ⟨some a, y, (G (p ++ x)).many⟩
theorem Loc0.c {α : Type} {G : List Tk → Rs α} (h : Loc0 G) : LocC G := fun p c x y a h1 h2 => h p (c :: x) (c :: y) a h1 h2
def Sf {α : Type} (G : List Tk → Rs α) : Prop := ∀ l, SufN (G l).rest l
theorem loc_bind {α β : Type} {F : List Tk → Rs α} {H : α → List Tk → Rs β} (hF : LocC F) (sF : Sf F) (hH : ∀ a, LocC (H a)) (sH : ∀ a, Sf (H a)) : LocC fun l => (F l).bind (H) := by
  intro p c x y b hv hr
  cases hx : (F (p ++ c :: x)).val with
  | none =>
    have hv' : ((F (p ++ c :: x)).bind H).val = some b := hv
    rw [bind_none _ hx] at hv'; cases hv'
  | some a =>
    have hv' : ((F (p ++ c :: x)).bind H).val = some b := hv
    have hr' : ((F (p ++ c :: x)).bind H).rest = c :: x := hr
    rw [bind_pre _ hx] at hv' hr'
    obtain ⟨p1, h1, _⟩ := sF (p ++ c :: x)
    obtain ⟨p2, h2, _⟩ := sH a (F (p ++ c :: x)).rest
    have hr2 : (H a (F (p ++ c :: x)).rest).rest = c :: x := hr'
    have hv2 : (H a (F (p ++ c :: x)).rest).val = some b := hv'
    rw [hr2] at h2
    have hp : p = p1 ++ p2 := by
      rw [h2, ← List.append_assoc] at h1
      exact List.append_cancel_right h1
    subst hp
    show (F (p1 ++ p2 ++ c :: y)).bind H = ⟨some b, c :: y, ((F (p1 ++ p2 ++ c :: x)).bind H).many⟩
    rw [bind_pre _ hx]
    cases p2 with
    | nil =>
      rw [List.append_nil] at *
      have hr1 : (F (p1 ++ c :: x)).rest = c :: x := h2
      have e1 := hF p1 c x y a hx hr1
      rw [e1]
      rw [hr1] at hv2 hr2 ⊢
      have e2 := hH a [] c x y b hv2 hr2
      simp only [List.nil_append] at e2
      show (Rs.bind ⟨some a, c :: y, (F (p1 ++ c :: x)).many⟩ H) = _
      rw [bind_pre (x := ⟨some a, c :: y, (F (p1 ++ c :: x)).many⟩) H rfl]
      simp only
      rw [e2]; rfl
    | cons d p3 =>
      rw [show p1 ++ d :: p3 ++ c :: x = p1 ++ d :: (p3 ++ c :: x) by simp] at *
      rw [show p1 ++ d :: p3 ++ c :: y = p1 ++ d :: (p3 ++ c :: y) by simp]
      have hr1 : (F (p1 ++ d :: (p3 ++ c :: x))).rest = d :: (p3 ++ c :: x) := by rw [h2]; rfl
      have e1 := hF p1 d (p3 ++ c :: x) (p3 ++ c :: y) a hx hr1
      rw [e1]
      rw [hr1] at hv2 hr2 ⊢
      have e2 := hH a (d :: p3) c x y b hv2 hr2
      simp only [List.cons_append] at e2
      rw [bind_pre (x := ⟨some a, d :: (p3 ++ c :: y), (F (p1 ++ d :: (p3 ++ c :: x))).many⟩) H rfl]
      simp only
      rw [e2]; rfl
theorem loc_pure {α : Type} (a : α) : Loc0 fun l => pure' a l := by
  intro p x y b hv hr
  have hp : p = [] := by
    have hr' : p ++ x = x := hr
    have := congrArg List.length hr'
    rw [List.length_append] at this
    exact List.eq_nil_of_length_eq_zero (by omega)
  subst hp
  have hv' : some a = some b := hv
  rw [← hv']; rfl
theorem loc_map {α β : Type} {F : List Tk → Rs α} (f : α → β) (h : LocC F) : LocC fun l => (F l).map f := by
  intro p c x y b hv hr
  cases hx : (F (p ++ c :: x)).val with
  | none =>
    have hv' : (F (p ++ c :: x)).val.map f = some b := hv
    rw [hx] at hv'; cases hv'
  | some a =>
    have hv' : (F (p ++ c :: x)).val.map f = some b := hv
    rw [hx] at hv'
    have e := h p c x y a hx hr
    show (F (p ++ c :: y)).map f = _
    rw [e, ← hv']; rfl
theorem loc_sign (s : List UInt8) : Loc0 (signG s) := by
  intro p x y u hv hr
  cases p with
  | nil =>
    cases x with
    | nil => cases hv
    | cons t r =>
      have hr' : (if isT 6 s t = true then pure' () r else wrong' (t :: r)).rest = t :: r := hr
      have hv' : (if isT 6 s t = true then pure' () r else wrong' (t :: r)).val = some u := hv
      split at hr'
      · have hr2 : r = t :: r := hr'
        have := congrArg List.length hr2
        simp at this
      · rename_i h; rw [if_neg h] at hv'; cases hv'
  | cons t p =>
    have hr' : (if isT 6 s t = true then pure' () (p ++ x) else wrong' (t :: (p ++ x))).rest = x := hr
    have hv' : (if isT 6 s t = true then pure' () (p ++ x) else wrong' (t :: (p ++ x))).val = some u := hv
    split at hr'
    · rename_i h
      have hr2 : p ++ x = x := hr'
      have hp : p = [] := by
        have := congrArg List.length hr2
        rw [List.length_append] at this
        exact List.eq_nil_of_length_eq_zero (by omega)
      subst hp
      show (if isT 6 s t = true then pure' () y else _) = (⟨some u, y, (if isT 6 s t = true then pure' () x else _).many⟩ : Rs Unit)
      rw [if_pos h, if_pos h]; rfl
    · rename_i h; rw [if_neg h] at hv'; cases hv'
/-- With a sign that must stand behind it, it hangs on what is taken alone. -/
theorem loc_close {α : Type} {F : List Tk → Rs α} (s : List UInt8) (hF : LocC F) (sF : Sf F) : Loc0 fun l => closeG s (F l) := by
  intro p x y b hv hr
  have hv' : (closeG s (F (p ++ x))).val = some b := hv
  have hr' : (closeG s (F (p ++ x))).rest = x := hr
  cases hx : (F (p ++ x)).val with
  | none => unfold closeG at hv'; rw [bind_none _ hx] at hv'; cases hv'
  | some a =>
    unfold closeG at hv' hr'
    rw [bind_pre _ hx] at hv' hr'
    obtain ⟨p1, h1, _⟩ := sF (p ++ x)
    cases hl : (F (p ++ x)).rest with
    | nil => rw [hl] at hv'; cases hv'
    | cons t r =>
      rw [hl] at hv' hr' h1
      cases hi : isT 6 s t with
      | false =>
        have : ((signG s (t :: r)).bind fun _ l2 => pure' a l2).val = some b := hv'
        rw [show signG s (t :: r) = wrong' (t :: r) from by show (if isT 6 s t = true then _ else _) = _; rw [if_neg (by rw [hi]; decide)]] at this
        cases this
      | true =>
        have es : ∀ z, signG s (t :: z) = pure' () z := fun z => by show (if isT 6 s t = true then _ else _) = _; rw [if_pos hi]
        have hr2 : ((signG s (t :: r)).bind fun _ l2 => pure' a l2).rest = x := hr'
        have hv2 : ((signG s (t :: r)).bind fun _ l2 => pure' a l2).val = some b := hv'
        rw [es] at hr2 hv2
        have hrx : r = x := hr2
        have hab : a = b := Option.some.inj hv2
        subst hrx hab
        have hp : p = p1 ++ [t] := by
          rw [show p1 ++ t :: r = (p1 ++ [t]) ++ r by simp] at h1
          exact List.append_cancel_right h1
        subst hp
        rw [show p1 ++ [t] ++ r = p1 ++ t :: r by simp] at *
        have e1 := hF p1 t r y a hx hl
        show closeG s (F (p1 ++ [t] ++ y)) = ⟨some a, y, (closeG s (F (p1 ++ t :: r))).many⟩
        rw [show p1 ++ [t] ++ y = p1 ++ t :: y by simp, e1]
        unfold closeG
        rw [bind_pre (x := (⟨some a, t :: y, (F (p1 ++ t :: r)).many⟩ : Rs α)) _ rfl, bind_pre _ hx, hl]
        simp only
        rw [es, es]; rfl
end Go.Proofs.YtpeldiibjhffiaaDoor
namespace Go.Proofs.YtpeldiibjhffiaaDoor
open Go.RowKit Go.Deep

theorem no_grow {x r : List Tk} {c : Tk} (h : SufN (c :: x) r) (hr : r = x) : False := by
  obtain ⟨p, hp, _⟩ := h
  have := congrArg List.length hp
  rw [hr] at this
  simp at this
  omega
section
variable {fac : List Tk → Rs Ex}
theorem loc_termGo (hf : LocC fac) (sf : Sf fac) : ∀ (m : Nat) (e : Ex), LocC (termGo fac m e)
  | 0, e => (loc_pure e).c
  | m + 1, e => by
    intro p c x y a hv hr
    cases p with
    | nil =>
      have hv' : (termGo fac (m + 1) e (c :: x)).val = some a := hv
      have hr' : (termGo fac (m + 1) e (c :: x)).rest = c :: x := hr
      show termGo fac (m + 1) e (c :: y) = ⟨some a, c :: y, (termGo fac (m + 1) e (c :: x)).many⟩
      rw [termGo] at hv' hr' ⊢
      rw [termGo]
      cases hi : isT 6 [42] c with
      | true =>
        rw [hi, if_pos rfl] at hr'
        exact (no_grow (hr' ▸ bind_sufN (sf x) fun _ => termGo_sufN sf m _ _) rfl).elim
      | false =>
        rw [hi, if_neg (by decide)] at hv'
        rw [if_neg (by decide), if_neg (by decide)]
        have : e = a := Option.some.inj hv'
        rw [this]; rfl
    | cons t p =>
      have hv' : (termGo fac (m + 1) e (t :: (p ++ c :: x))).val = some a := hv
      have hr' : (termGo fac (m + 1) e (t :: (p ++ c :: x))).rest = c :: x := hr
      show termGo fac (m + 1) e (t :: (p ++ c :: y)) = ⟨some a, c :: y, (termGo fac (m + 1) e (t :: (p ++ c :: x))).many⟩
      rw [termGo] at hv' hr' ⊢
      rw [termGo]
      cases hi : isT 6 [42] t with
      | true =>
        rw [hi, if_pos rfl] at hv' hr'
        rw [if_pos rfl, if_pos rfl]
        exact loc_bind hf sf (fun e2 => loc_termGo hf sf m (hdB 7 t, ofL [e, e2])) (fun _ => termGo_sufN sf m _) p c x y a hv' hr'
      | false =>
        rw [hi, if_neg (by decide)] at hr'
        have h2 : t :: (p ++ c :: x) = c :: x := hr'
        have := congrArg List.length h2
        simp at this
        omega
theorem loc_term (hf : LocC fac) (sf : Sf fac) : LocC (termG fac) := loc_bind hf sf (fun e => loc_termGo hf sf mx e) (fun _ => termGo_sufN sf mx _)
theorem loc_exprGo (hf : LocC fac) (sf : Sf fac) : ∀ (m : Nat) (e : Ex), LocC (exprGo fac m e)
  | 0, e => (loc_pure e).c
  | m + 1, e => by
    intro p c x y a hv hr
    cases p with
    | nil =>
      have hv' : (exprGo fac (m + 1) e (c :: x)).val = some a := hv
      have hr' : (exprGo fac (m + 1) e (c :: x)).rest = c :: x := hr
      show exprGo fac (m + 1) e (c :: y) = ⟨some a, c :: y, (exprGo fac (m + 1) e (c :: x)).many⟩
      rw [exprGo] at hv' hr' ⊢
      rw [exprGo]
      cases hi : (isT 6 [43] c || isT 6 [45] c) with
      | true =>
        rw [hi, if_pos rfl] at hr'
        exact (no_grow (hr' ▸ bind_sufN (sf x) fun _ => exprGo_sufN sf m _ _) rfl).elim
      | false =>
        rw [hi, if_neg (by decide)] at hv'
        rw [if_neg (by decide), if_neg (by decide)]
        have : e = a := Option.some.inj hv'
        rw [this]; rfl
    | cons t p =>
      have hv' : (exprGo fac (m + 1) e (t :: (p ++ c :: x))).val = some a := hv
      have hr' : (exprGo fac (m + 1) e (t :: (p ++ c :: x))).rest = c :: x := hr
      show exprGo fac (m + 1) e (t :: (p ++ c :: y)) = ⟨some a, c :: y, (exprGo fac (m + 1) e (t :: (p ++ c :: x))).many⟩
      rw [exprGo] at hv' hr' ⊢
      rw [exprGo]
      cases hi : (isT 6 [43] t || isT 6 [45] t) with
      | true =>
        rw [hi, if_pos rfl] at hv' hr'
        rw [if_pos rfl, if_pos rfl]
        exact loc_bind hf sf (fun e2 => loc_exprGo hf sf m (hdB (if isT 6 [45] t then 6 else 5) t, ofL [e, e2])) (fun _ => exprGo_sufN sf m _) p c x y a hv' hr'
      | false =>
        rw [hi, if_neg (by decide)] at hr'
        have h2 : t :: (p ++ c :: x) = c :: x := hr'
        have := congrArg List.length h2
        simp at this
        omega
theorem loc_expr (hf : LocC fac) (sf : Sf fac) : LocC (exprG fac) := loc_bind (loc_term hf sf) (term_sufN sf) (fun e => loc_exprGo (loc_term hf sf) (term_sufN sf) mx e) (fun _ => exprGo_sufN (term_sufN sf) mx _)
theorem pl_same (p x y : List Tk) (c : Tk) : plOf (p ++ c :: x) = plOf (p ++ c :: y) := by
  cases p <;> rfl
theorem loc_kidsGo (hf : LocC fac) (sf : Sf fac) : ∀ (m : Nat) (e : List Ex), LocC (kidsGo fac m e)
  | 0, e => (loc_pure e).c
  | m + 1, e => by
    intro p c x y a hv hr
    cases p with
    | nil =>
      have hv' : (kidsGo fac (m + 1) e (c :: x)).val = some a := hv
      have hr' : (kidsGo fac (m + 1) e (c :: x)).rest = c :: x := hr
      show kidsGo fac (m + 1) e (c :: y) = ⟨some a, c :: y, (kidsGo fac (m + 1) e (c :: x)).many⟩
      rw [kidsGo] at hv' hr' ⊢
      rw [kidsGo]
      cases hi : isT 6 [44] c with
      | true =>
        rw [hi, if_pos rfl] at hr'
        exact (no_grow (hr' ▸ note_sufN (bind_sufN (sf x) fun _ => kidsGo_sufN sf m _ _)) rfl).elim
      | false =>
        rw [hi, if_neg (by decide)] at hv'
        rw [if_neg (by decide), if_neg (by decide)]
        have : e = a := Option.some.inj hv'
        rw [this]; rfl
    | cons t p =>
      have hv' : (kidsGo fac (m + 1) e (t :: (p ++ c :: x))).val = some a := hv
      have hr' : (kidsGo fac (m + 1) e (t :: (p ++ c :: x))).rest = c :: x := hr
      show kidsGo fac (m + 1) e (t :: (p ++ c :: y)) = ⟨some a, c :: y, (kidsGo fac (m + 1) e (t :: (p ++ c :: x))).many⟩
      rw [kidsGo] at hv' hr' ⊢
      rw [kidsGo]
      cases hi : isT 6 [44] t with
      | true =>
        rw [hi, if_pos rfl, note_pre] at hv' hr'
        rw [if_pos rfl, if_pos rfl, note_pre, note_pre]
        have h := loc_bind hf sf (fun e2 => loc_kidsGo hf sf m (e ++ [e2])) (fun _ => kidsGo_sufN sf m _) p c x y a hv' hr'
        simp only at h
        rw [h, pl_same p x y c]; rfl
      | false =>
        rw [hi, if_neg (by decide)] at hr'
        have h2 : t :: (p ++ c :: x) = c :: x := hr'
        have := congrArg List.length h2
        simp at this
        omega
theorem loc_kids (hf : LocC fac) (sf : Sf fac) : LocC (kidsG fac) :=
  loc_bind (loc_sign [40]).c (sign_sufN [40])
    (fun _ => (loc_close [41] (loc_bind hf sf (fun e => loc_kidsGo hf sf mx [e]) (fun _ => kidsGo_sufN sf mx _)) (fun _ => bind_sufN (sf _) fun _ => kidsGo_sufN sf _ _ _)).c)
    (fun _ _ => close_sufN (bind_sufN (sf _) fun _ => kidsGo_sufN sf _ _ _))
end
/-- A rule whose first token is told: what stands behind goes by another rule. -/
theorem loc_head {α : Type} {G : List Tk → Rs α} {t : Tk} {H : List Tk → Rs α} (hH : LocC H) (sH : Sf H) (he : ∀ r, G (t :: r) = H r) (p : List Tk) (c : Tk) (x y : List Tk) (a : α) (hp : ∀ q, p ++ c :: q = t :: (p ++ c :: q).tail)
    (hv : (G (p ++ c :: x)).val = some a) (hr : (G (p ++ c :: x)).rest = c :: x) : G (p ++ c :: y) = ⟨some a, c :: y, (G (p ++ c :: x)).many⟩ := by
  cases p with
  | nil =>
    have ht : c = t := by have := hp x; simpa using this
    subst ht
    rw [List.nil_append, he] at hr
    exact (no_grow (hr ▸ sH x) rfl).elim
  | cons d p =>
    have ht : d = t := by have := hp x; simpa using this
    subst ht
    rw [List.cons_append, he] at hv hr ⊢
    rw [List.cons_append, he]
    exact hH p c x y a hv hr
theorem loc_fac : ∀ (n : Nat), LocC (facN n)
  | 0 => fun p c x y a hv _ => by cases hv
  | n + 1 => by
    intro p c x y a hv hr
    have ih := loc_fac n
    have si := fac_sufN n
    obtain ⟨t, ht⟩ : ∃ t, ∀ q, p ++ c :: q = t :: (p ++ c :: q).tail := by
      cases p with
      | nil => exact ⟨c, fun q => rfl⟩
      | cons d p => exact ⟨d, fun q => rfl⟩
    by_cases h2 : t.kind = 2
    · exact loc_head (loc_pure (⟨1, t.num, [], t.pl⟩, .nil)).c (fun _ => sufN_refl _) (fun r => by rw [facN, if_pos h2]) p c x y a ht hv hr
    · by_cases h3 : t.kind = 3
      · exact loc_head (loc_pure (⟨2, 0, t.text, t.pl⟩, .nil)).c (fun _ => sufN_refl _) (fun r => by rw [facN, if_neg h2, if_pos h3]) p c x y a ht hv hr
      · by_cases h5 : t.kind = 5
        · exact loc_head (loc_pure (⟨3, 0, t.text, t.pl⟩, .nil)).c (fun _ => sufN_refl _) (fun r => by rw [facN, if_neg h2, if_neg h3, if_pos h5]) p c x y a ht hv hr
        · cases ha : isT 6 [45] t with
          | true => exact loc_head (loc_map (fun e => (hdB 4 t, ofL [e])) ih) (fun r => si r) (fun r => by rw [facN, if_neg h2, if_neg h3, if_neg h5, if_pos ha]) p c x y a ht hv hr
          | false =>
            have na : ¬ isT 6 [45] t = true := by rw [ha]; decide
            cases hb : isT 6 [40] t with
            | true => exact loc_head (loc_close [41] (loc_expr ih si) (expr_sufN si)).c (fun r => close_sufN (expr_sufN si r)) (fun r => by rw [facN, if_neg h2, if_neg h3, if_neg h5, if_neg na, if_pos hb]) p c x y a ht hv hr
            | false =>
              have nb : ¬ isT 6 [40] t = true := by rw [hb]; decide
              cases hc : isT 4 wMin t with
              | true => exact loc_head (loc_map (fun ks => (hdB 8 t, ofL ks)) (loc_kids (loc_expr ih si) (expr_sufN si))) (fun r => kids_sufN (expr_sufN si) r) (fun r => by rw [facN, if_neg h2, if_neg h3, if_neg h5, if_neg na, if_neg nb, if_pos hc]) p c x y a ht hv hr
              | false =>
                have nc : ¬ isT 4 wMin t = true := by rw [hc]; decide
                cases hd : isT 4 wMax t with
                | true => exact loc_head (loc_map (fun ks => (hdB 9 t, ofL ks)) (loc_kids (loc_expr ih si) (expr_sufN si))) (fun r => kids_sufN (expr_sufN si) r) (fun r => by rw [facN, if_neg h2, if_neg h3, if_neg h5, if_neg na, if_neg nb, if_neg nc, if_pos hd]) p c x y a ht hv hr
                | false =>
                  have nd' : ¬ isT 4 wMax t = true := by rw [hd]; decide
                  rw [ht x, facN, if_neg h2, if_neg h3, if_neg h5, if_neg na, if_neg nb, if_neg nc, if_neg nd'] at hv
                  cases hv
theorem name_sufN (l : List Tk) : SufN (nameG l).rest l := by
  cases l with
  | nil => exact sufN_refl _
  | cons t r =>
    show SufN (if t.kind = 3 then pure' t.text r else wrong' (t :: r)).rest _
    split
    · rename_i h; exact sufN_cons _ (by rw [h]; decide)
    · exact sufN_refl _
theorem way_sufN (l : List Tk) : SufN (wayG l).rest l := by
  cases l with
  | nil => exact sufN_refl _
  | cons t r =>
    show SufN (if t.kind = 4 ∧ isWayB t.text = true then pure' t.text r else wrong' (t :: r)).rest _
    split
    · rename_i h; exact sufN_cons _ (by rw [h.1]; decide)
    · exact sufN_refl _
theorem loc_name : LocC nameG := by
  intro p c x y a hv hr
  obtain ⟨t, ht⟩ : ∃ t, ∀ q, p ++ c :: q = t :: (p ++ c :: q).tail := by
    cases p with
    | nil => exact ⟨c, fun q => rfl⟩
    | cons d p => exact ⟨d, fun q => rfl⟩
  by_cases h : t.kind = 3
  · exact loc_head (loc_pure t.text).c (fun _ => sufN_refl _) (fun r => by show (if t.kind = 3 then _ else _) = _; rw [if_pos h]) p c x y a ht hv hr
  · rw [ht x] at hv
    have hv' : (if t.kind = 3 then pure' t.text (p ++ c :: x).tail else wrong' (t :: (p ++ c :: x).tail)).val = some a := hv
    rw [if_neg h] at hv'; cases hv'
theorem loc_way : LocC wayG := by
  intro p c x y a hv hr
  obtain ⟨t, ht⟩ : ∃ t, ∀ q, p ++ c :: q = t :: (p ++ c :: q).tail := by
    cases p with
    | nil => exact ⟨c, fun q => rfl⟩
    | cons d p => exact ⟨d, fun q => rfl⟩
  by_cases h : t.kind = 4 ∧ isWayB t.text = true
  · exact loc_head (loc_pure t.text).c (fun _ => sufN_refl _) (fun r => by show (if t.kind = 4 ∧ isWayB t.text = true then _ else _) = _; rw [if_pos h]) p c x y a ht hv hr
  · rw [ht x] at hv
    have hv' : (if t.kind = 4 ∧ isWayB t.text = true then pure' t.text (p ++ c :: x).tail else wrong' (t :: (p ++ c :: x).tail)).val = some a := hv
    rw [if_neg h] at hv'; cases hv'
section
variable {ex : List Tk → Rs Ex}
theorem one_sufN (sf : Sf ex) (l : List Tk) : SufN (oneG ex l).rest l := bind_sufN (sf l) fun _ => sufN_refl _
theorem both_sufN (sf : Sf ex) (s : List UInt8) (l : List Tk) : SufN (bothG ex s l).rest l := bind_sufN (sf l) fun _ => bind_sufN (sign_sufN s _) fun _ => bind_sufN (sf _) fun _ => sufN_refl _
theorem loc_one (hf : LocC ex) (sf : Sf ex) : LocC (oneG ex) := loc_bind hf sf (fun a => (loc_pure (ofL [a])).c) (fun _ _ => sufN_refl _)
theorem loc_both (hf : LocC ex) (sf : Sf ex) (s : List UInt8) : LocC (bothG ex s) :=
  loc_bind hf sf (fun a => loc_bind (loc_sign s).c (sign_sufN s) (fun _ => loc_bind hf sf (fun b => (loc_pure (ofL [a, b])).c) (fun _ _ => sufN_refl _)) (fun _ _ => bind_sufN (sf _) fun _ => sufN_refl _)) (fun _ _ => bind_sufN (sign_sufN s _) fun _ => bind_sufN (sf _) fun _ => sufN_refl _)
theorem body_sufN (sf : Sf ex) (k : Int) (l : List Tk) : SufN (bodyG ex k l).rest l := by
  unfold bodyG
  repeat' split
  · exact bind_sufN (name_sufN l) fun _ => bind_sufN (sign_sufN _ _) fun _ => bind_sufN (one_sufN sf _) fun _ => sufN_refl _
  · exact bind_sufN (way_sufN l) fun _ => sufN_refl _
  · exact bind_sufN (both_sufN sf _ l) fun _ => sufN_refl _
  · exact bind_sufN (both_sufN sf _ l) fun _ => sufN_refl _
  · exact bind_sufN (one_sufN sf l) fun _ => sufN_refl _
theorem loc_body (hf : LocC ex) (sf : Sf ex) (k : Int) : LocC (bodyG ex k) := by
  unfold bodyG
  by_cases h1 : k = 1
  · simp only [h1, if_true]
    exact loc_bind loc_name name_sufN (fun s => loc_bind (loc_sign _).c (sign_sufN _) (fun _ => loc_bind (loc_one hf sf) (one_sufN sf) (fun F => (loc_pure (s, F)).c) (fun _ _ => sufN_refl _)) (fun _ _ => bind_sufN (one_sufN sf _) fun _ => sufN_refl _)) (fun _ _ => bind_sufN (sign_sufN _ _) fun _ => bind_sufN (one_sufN sf _) fun _ => sufN_refl _)
  · by_cases h7 : k = 7
    · simp only [if_neg h1, if_pos h7]
      exact loc_bind loc_way way_sufN (fun s => (loc_pure (s, (BT.nil : Fo))).c) (fun _ _ => sufN_refl _)
    · by_cases h8 : k = 8
      · simp only [if_neg h1, if_neg h7, if_pos h8]
        exact loc_bind (loc_both hf sf _) (both_sufN sf _) (fun F => (loc_pure (([] : List UInt8), F)).c) (fun _ _ => sufN_refl _)
      · by_cases h5 : k = 5 ∨ k = 6 ∨ k = 9
        · simp only [if_neg h1, if_neg h7, if_neg h8, if_pos h5]
          exact loc_bind (loc_both hf sf _) (both_sufN sf _) (fun F => (loc_pure (([] : List UInt8), F)).c) (fun _ _ => sufN_refl _)
        · simp only [if_neg h1, if_neg h7, if_neg h8, if_neg h5]
          exact loc_bind (loc_one hf sf) (one_sufN sf) (fun F => (loc_pure (([] : List UInt8), F)).c) (fun _ _ => sufN_refl _)
theorem item_sufN (sf : Sf ex) (l : List Tk) : SufN (itemG ex l).rest l := by
  cases l with
  | nil => exact sufN_refl _
  | cons t r =>
    show SufN (if t.kind = 4 ∧ itemKindB t.text ≠ 0 then (closeG [59] (bodyG ex (itemKindB t.text) r)).map (fun b => (⟨itemKindB t.text, b.1, b.2, t.pl⟩ : It)) else wrong' (t :: r)).rest _
    split
    · rename_i h; exact SufN.trans (close_sufN (body_sufN sf _ r)) (sufN_cons _ (by rw [h.1]; decide))
    · exact sufN_refl _
/-- An item hangs on the tokens that it takes. -/
theorem item_loc (hf : LocC ex) (sf : Sf ex) {t : Tk} {p x : List Tk} {i : It} (hv : (itemG ex (t :: (p ++ x))).val = some i) (hr : (itemG ex (t :: (p ++ x))).rest = x) (y : List Tk) : itemG ex (t :: (p ++ y)) = ⟨some i, y, (itemG ex (t :: (p ++ x))).many⟩ := by
  have e : ∀ r, itemG ex (t :: r) = if t.kind = 4 ∧ itemKindB t.text ≠ 0 then (closeG [59] (bodyG ex (itemKindB t.text) r)).map (fun b => (⟨itemKindB t.text, b.1, b.2, t.pl⟩ : It)) else wrong' (t :: r) := fun _ => rfl
  rw [e] at hv hr ⊢
  rw [e]
  by_cases hc : t.kind = 4 ∧ itemKindB t.text ≠ 0
  · rw [if_pos hc] at hv hr
    rw [if_pos hc, if_pos hc]
    cases hx : (closeG [59] (bodyG ex (itemKindB t.text) (p ++ x))).val with
    | none =>
      have hv' : (closeG [59] (bodyG ex (itemKindB t.text) (p ++ x))).val.map _ = some i := hv
      rw [hx] at hv'; cases hv'
    | some b =>
      have hv' : (closeG [59] (bodyG ex (itemKindB t.text) (p ++ x))).val.map _ = some i := hv
      rw [hx] at hv'
      have h := loc_close [59] (loc_body hf sf (itemKindB t.text)) (body_sufN sf _) p x y b hx hr
      simp only at h
      rw [h]
      have hv2 := Option.some.inj hv'
      rw [← hv2]; rfl
  · rw [if_neg hc] at hv; cases hv
end
end Go.Proofs.YtpeldiibjhffiaaDoor
