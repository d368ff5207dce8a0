/-
  What Parse takes is right; where a fault stands. The places of what is too many rise: the first one is the least.
-/
import Derived.Test.YtnnmhmlebffacaaG44
namespace Go.Proofs.Ytnnmhmlebffacaa
open Go.RowKit Go.Deep

/-- Places of what is too many are places of tokens. -/
def MI {α : Type} (x : Rs α) (l : List Tk) : Prop := ∀ a ∈ x.many, a = 0 ∨ ∃ t ∈ l, a = (t.pl : Int)
theorem mi_sub {α : Type} {x : Rs α} {l l' : List Tk} (h : MI x l) (hs : l <:+ l') : MI x l' := fun a ha => (h a ha).imp id fun ⟨t, ht, e⟩ => ⟨t, hs.subset ht, e⟩
theorem mi_nil {α : Type} {x : Rs α} {l : List Tk} (h : x.many = []) : MI x l := fun a ha => by rw [h] at ha; cases ha
theorem mi_bind {α β : Type} {x : Rs α} {f : α → List Tk → Rs β} {l : List Tk} (h : MI x l) (hs : x.rest <:+ l) (hf : ∀ a, MI (f a x.rest) x.rest) : MI (x.bind f) l := by
  cases hx : x.val with
  | none => rw [bind_none _ hx]; exact h
  | some a =>
    rw [bind_pre _ hx]
    intro b hb
    have hb' : b ∈ x.many ++ (f a x.rest).many := hb
    rcases List.mem_append.1 hb' with hb | hb
    · exact h b hb
    · exact mi_sub (hf a) hs b hb
theorem mi_note {α : Type} {c : Bool} {r l : List Tk} {x : Rs α} (h : MI x l) (hs : r <:+ l) : MI (note c r x) l := by
  cases c
  · exact h
  · intro b hb
    rcases List.mem_cons.1 (show b ∈ plOf r :: x.many from hb) with rfl | hb
    · cases r with
      | nil => exact .inl rfl
      | cons t r => exact .inr ⟨t, hs.subset (by simp), rfl⟩
    · exact h b hb
theorem mi_sign (s : List UInt8) (l : List Tk) : MI (signG s l) l := mi_nil (sign_many s l)
theorem mi_close {α : Type} {s : List UInt8} {x : Rs α} {l : List Tk} (h : MI x l) (hs : x.rest <:+ l) : MI (closeG s x) l :=
  mi_bind h hs fun _ => mi_bind (mi_sign s _) (sign_suf s _) fun _ => mi_nil rfl
section
variable {fac : List Tk → Rs Ex}
theorem mi_termGo (hf : ∀ l, MI (fac l) l) (sf : ∀ l, (fac l).rest <:+ l) : ∀ (m : Nat) (e : Ex) (l : List Tk), MI (termGo fac m e l) l
  | 0, e, l => mi_nil rfl
  | _ + 1, e, [] => mi_nil rfl
  | m + 1, e, t :: r => by
    rw [termGo]
    split
    · exact mi_sub (mi_bind (hf r) (sf r) fun a => mi_termGo hf sf m _ _) (List.suffix_cons _ _)
    · exact mi_nil rfl
theorem mi_term (hf : ∀ l, MI (fac l) l) (sf : ∀ l, (fac l).rest <:+ l) (l : List Tk) : MI (termG fac l) l := mi_bind (hf l) (sf l) fun _ => mi_termGo hf sf _ _ _
theorem mi_exprGo (hf : ∀ l, MI (fac l) l) (sf : ∀ l, (fac l).rest <:+ l) : ∀ (m : Nat) (e : Ex) (l : List Tk), MI (exprGo fac m e l) l
  | 0, e, l => mi_nil rfl
  | _ + 1, e, [] => mi_nil rfl
  | m + 1, e, t :: r => by
    rw [exprGo]
    split
    · exact mi_sub (mi_bind (hf r) (sf r) fun a => mi_exprGo hf sf m _ _) (List.suffix_cons _ _)
    · exact mi_nil rfl
theorem mi_expr (hf : ∀ l, MI (fac l) l) (sf : ∀ l, (fac l).rest <:+ l) (l : List Tk) : MI (exprG fac l) l := mi_bind (mi_term hf sf l) (term_suf sf l) fun _ => mi_exprGo (mi_term hf sf) (term_suf sf) _ _ _
theorem mi_kidsGo (hf : ∀ l, MI (fac l) l) (sf : ∀ l, (fac l).rest <:+ l) : ∀ (m : Nat) (ks : List Ex) (l : List Tk), MI (kidsGo fac m ks l) l
  | 0, e, l => mi_nil rfl
  | _ + 1, e, [] => mi_nil rfl
  | m + 1, e, t :: r => by
    rw [kidsGo]
    split
    · exact mi_sub (mi_note (mi_bind (hf r) (sf r) fun a => mi_kidsGo hf sf m _ _) (List.suffix_refl _)) (List.suffix_cons _ _)
    · exact mi_nil rfl
theorem mi_kids (hf : ∀ l, MI (fac l) l) (sf : ∀ l, (fac l).rest <:+ l) (l : List Tk) : MI (kidsG fac l) l :=
  mi_bind (mi_sign _ l) (sign_suf _ l) fun _ => mi_close (mi_bind (hf _) (sf _) fun _ => mi_kidsGo hf sf _ _ _) (bind_suf (sf _) fun _ => kidsGo_suf sf _ _ _)
end
theorem mi_map {α β : Type} {x : Rs α} {f : α → β} {l : List Tk} (h : MI x l) : MI (x.map f) l := h
theorem mi_fac : ∀ (n : Nat) (l : List Tk), MI (facN n l) l
  | 0, l => mi_nil rfl
  | _ + 1, [] => mi_nil rfl
  | n + 1, t :: r => by
    have h := mi_fac n
    have s := fac_suf n
    rw [facN]
    repeat' split
    all_goals first
      | exact mi_nil rfl
      | exact mi_sub (mi_map (h r)) (List.suffix_cons _ _)
      | exact mi_sub (mi_close (mi_expr h s r) (expr_suf s r)) (List.suffix_cons _ _)
      | exact mi_sub (mi_map (mi_kids (mi_expr h s) (expr_suf s) r)) (List.suffix_cons _ _)
section
variable {ex : List Tk → Rs Ex}
theorem name_many (l : List Tk) : (nameG l).many = [] := by
  cases l with
  | nil => rfl
  | cons t r => show (if t.kind = 3 then pure' t.text r else wrong' (t :: r)).many = []; split <;> rfl
theorem way_many (l : List Tk) : (wayG l).many = [] := by
  cases l with
  | nil => rfl
  | cons t r => show (if t.kind = 4 ∧ isWayB t.text = true then pure' t.text r else wrong' (t :: r)).many = []; split <;> rfl
theorem name_suf' (l : List Tk) : (nameG l).rest <:+ l := by
  obtain ⟨p, h, _⟩ := name_sufN l
  exact ⟨p, h.symm⟩
theorem way_suf' (l : List Tk) : (wayG l).rest <:+ l := by
  obtain ⟨p, h, _⟩ := way_sufN l
  exact ⟨p, h.symm⟩
theorem mi_one (hf : ∀ l, MI (ex l) l) (sf : ∀ l, (ex l).rest <:+ l) (l : List Tk) : MI (oneG ex l) l := mi_bind (hf l) (sf l) fun _ => mi_nil rfl
theorem mi_both (hf : ∀ l, MI (ex l) l) (sf : ∀ l, (ex l).rest <:+ l) (s : List UInt8) (l : List Tk) : MI (bothG ex s l) l :=
  mi_bind (hf l) (sf l) fun _ => mi_bind (mi_sign s _) (sign_suf s _) fun _ => mi_bind (hf _) (sf _) fun _ => mi_nil rfl
theorem one_suf' (sf : ∀ l, (ex l).rest <:+ l) (l : List Tk) : (oneG ex l).rest <:+ l := bind_suf (sf l) fun _ => List.suffix_refl _
theorem both_suf' (sf : ∀ l, (ex l).rest <:+ l) (s : List UInt8) (l : List Tk) : (bothG ex s l).rest <:+ l := bind_suf (sf l) fun _ => bind_suf (sign_suf s _) fun _ => bind_suf (sf _) fun _ => List.suffix_refl _
theorem mi_body (hf : ∀ l, MI (ex l) l) (sf : ∀ l, (ex l).rest <:+ l) (k : Int) (l : List Tk) : MI (bodyG ex k l) l := by
  unfold bodyG
  repeat' split
  · exact mi_bind (mi_nil (name_many l)) (name_suf' l) fun _ => mi_bind (mi_sign _ _) (sign_suf _ _) fun _ => mi_bind (mi_one hf sf _) (one_suf' sf _) fun _ => mi_nil rfl
  · exact mi_bind (mi_nil (way_many l)) (way_suf' l) fun _ => mi_nil rfl
  · exact mi_bind (mi_both hf sf _ l) (both_suf' sf _ l) fun _ => mi_nil rfl
  · exact mi_bind (mi_both hf sf _ l) (both_suf' sf _ l) fun _ => mi_nil rfl
  · exact mi_bind (mi_one hf sf l) (one_suf' sf l) fun _ => mi_nil rfl
theorem mi_item (hf : ∀ l, MI (ex l) l) (sf : ∀ l, (ex l).rest <:+ l) (l : List Tk) : MI (itemG ex l) l := by
  cases l with
  | nil => exact mi_nil rfl
  | cons t r =>
    show MI (if t.kind = 4 ∧ itemKindB t.text ≠ 0 then (closeG [59] (bodyG ex (itemKindB t.text) r)).map (fun b => (⟨itemKindB t.text, b.1, b.2, t.pl⟩ : It)) else wrong' (t :: r)) (t :: r)
    split
    · exact mi_sub (mi_map (mi_close (mi_body hf sf _ r) (body_suf sf _ r))) (List.suffix_cons _ _)
    · exact mi_nil rfl
theorem item_suf' (sf : ∀ l, (ex l).rest <:+ l) (l : List Tk) : (itemG ex l).rest <:+ l := by
  cases l with
  | nil => exact List.suffix_refl _
  | cons t r =>
    show (if t.kind = 4 ∧ itemKindB t.text ≠ 0 then (closeG [59] (bodyG ex (itemKindB t.text) r)).map (fun b => (⟨itemKindB t.text, b.1, b.2, t.pl⟩ : It)) else wrong' (t :: r)).rest <:+ _
    split
    · exact (close_suf (body_suf sf _ r)).trans (List.suffix_cons _ _)
    · exact List.suffix_refl _
theorem mi_source (hf : ∀ l, MI (ex l) l) (sf : ∀ l, (ex l).rest <:+ l) : ∀ (m : Nat) (its : List It) (l : List Tk), MI (sourceGo ex m its l) l ∧ (sourceGo ex m its l).rest <:+ l
  | 0, its, l => ⟨mi_nil rfl, List.suffix_refl _⟩
  | _ + 1, its, [] => ⟨mi_nil rfl, List.suffix_refl _⟩
  | m + 1, its, t :: r => by
    rw [sourceGo]
    split
    · exact ⟨mi_nil rfl, List.suffix_refl _⟩
    · exact ⟨mi_note (mi_bind (mi_item hf sf _) (item_suf' sf _) fun a => (mi_source hf sf m _ _).1) (List.suffix_refl _), note_suf (bind_suf (item_suf' sf _) fun a => (mi_source hf sf m _ _).2)⟩
end
/-- All expressions of a list are as deep as may be. -/
def okArgs : Fo → Prop
  | .nil => True
  | .node _ _ _ k r => (1 ≤ wrap64 (depW k + 1) ∧ wrap64 (depW k + 1) ≤ 32) ∧ okArgs r
theorem ok_args : ∀ (F : Fo), depF F ≤ 32 → okArgs F
  | .nil, _ => trivial
  | .node _ _ _ k r, h => by
    simp only [depF] at h
    have h1 := depW_eq k (by omega)
    refine ⟨?_, ok_args r (by omega)⟩
    rw [h1, wrap_small (by omega) (by omega)]
    omega
theorem deep_none : ∀ (L : List It), (deepR L).1 = 0 → ∀ i ∈ L, depW i.args ≤ 32
  | [], _, i, hi => by cases hi
  | j :: L, h, i, hi => by
    rw [deepR_cons] at h
    by_cases hd : deepW j = true
    · rw [if_pos hd] at h; cases h
    · rw [if_neg hd] at h
      rcases List.mem_cons.1 hi with rfl | hi
      · unfold deepW at hd; simp at hd; exact hd
      · exact deep_none L h i hi
theorem deep_some : ∀ (L : List It), (deepR L).1 ≠ 0 → ∃ i ∈ L, (deepR L).2 = i.pl
  | [], h => absurd rfl h
  | j :: L, h => by
    rw [deepR_cons] at h ⊢
    by_cases hd : deepW j = true
    · rw [if_pos hd]; exact ⟨j, by simp, rfl⟩
    · rw [if_neg hd] at h ⊢
      obtain ⟨i, hi, e⟩ := deep_some L h
      exact ⟨i, by simp [hi], e⟩
theorem parse_right (S : List UInt8) : ((parseW S).2.1 ≠ 0 → (parseW S).1 = [] ∧ 0 ≤ (parseW S).2.2 ∧ (parseW S).2.2 ≤ S.length) ∧
    ((parseW S).2.1 = 0 → (parseW S).2.2 = 0 ∧ treeRight (parseW S).1 = true ∧ (parseW S).1.length ≤ 100 ∧ ((parseW S).1.Pairwise fun a b => a.pl < b.pl) ∧ ∀ i ∈ (parseW S).1, 0 ≤ i.pl ∧ i.pl < S.length ∧ okArgs i.args) := by
  unfold parseW
  by_cases hz : (scanB S).2.2 = 0
  · rw [if_neg (by simpa using hz)]
    obtain ⟨_, _, T, hT, hg, hpw⟩ := scan_good hz
    have hrt := scan_rt hz
    have hfew := scan_few S
    have hle : ∀ t ∈ (scanB S).1, t.pl ≤ S.length ∧ (t.kind ≠ 1 → t.pl < S.length) := fun t ht => by
      rw [hT] at ht
      rcases List.mem_append.1 ht with h | h
      · have := (hg t h).lt; exact ⟨by omega, fun _ => this⟩
      · rw [List.mem_singleton.1 h]; exact ⟨Nat.le_refl _, fun h => absurd rfl h⟩
    obtain ⟨hmi, hsf⟩ := mi_source (mi_expr (mi_fac mx) (fac_suf mx)) (expr_suf (fac_suf mx)) mx [] (scanB S).1
    have hsrc := rt_source (rt_expr (rt_fac mx) (fac_suf mx)) (expr_suf (fac_suf mx)) mx [] (scanB S).1
    have hX : sourceG (scanB S).1 = sourceGo (exprG (facN mx)) mx [] (scanB S).1 := rfl
    rw [hX]
    generalize sourceGo (exprG (facN mx)) mx [] (scanB S).1 = x at *
    unfold endW
    cases hx : x.val with
    | none =>
      refine ⟨fun _ => ⟨rfl, ?_⟩, fun h => by cases h⟩
      simp only
      cases hr : x.rest with
      | nil => exact ⟨Int.le_refl _, by simp [plOf]⟩
      | cons t r =>
        have := (hle t (hsf.subset (by rw [hr]; simp))).1
        show 0 ≤ (t.pl : Int) ∧ (t.pl : Int) ≤ S.length
        omega
    | some its =>
      simp only
      by_cases h1 : (flt x.many (0, 0)).1 = 0
      · rw [if_neg (by simpa using h1)]
        have hm : x.many = [] := by
          cases hm : x.many with
          | nil => rfl
          | cons a r => rw [hm] at h1; cases h1
        obtain ⟨p1, p2, p3, p4⟩ := hsrc its hrt hpw (by omega) (by simp) (fun i hi => by cases hi) List.Pairwise.nil (fun i hi => by cases hi) hx hm
        have hpl : ∀ i ∈ its, 0 ≤ i.pl ∧ i.pl < S.length := fun i hi => by
          rcases p4 i hi with h | ⟨t, ht, e, hk⟩
          · cases h
          · have := (hle t ht).2 hk
            rw [e]; omega
        by_cases h2 : (deepR its).1 = 0
        · rw [if_neg (by simpa using h2)]
          have hdep : ∀ i ∈ its, depF i.args ≤ 32 := fun i hi => by
            have h3 := deep_none its h2 i hi
            have h4 := (p2 i hi).deep
            rw [depW_eq _ (by omega)] at h3
            omega
          refine ⟨fun h => absurd rfl h, fun _ => ⟨rfl, ?_, p1, p3, fun i hi => ⟨(hpl i hi).1, (hpl i hi).2, ok_args _ (hdep i hi)⟩⟩⟩
          show treeRight its = true
          unfold treeRight
          rw [Bool.and_eq_true, List.all_eq_true]
          exact ⟨by simpa using p1, fun i hi => (p2 i hi).right (hdep i hi)⟩
        · rw [if_pos (by simpa using h2)]
          refine ⟨fun _ => ⟨rfl, ?_⟩, fun h => absurd h h2⟩
          obtain ⟨i, hi, e⟩ := deep_some its h2
          have := hpl i hi
          show 0 ≤ (deepR its).2 ∧ (deepR its).2 ≤ S.length
          rw [e]; omega
      · rw [if_pos (by simpa using h1)]
        refine ⟨fun _ => ⟨rfl, ?_⟩, fun h => absurd h h1⟩
        show 0 ≤ (flt x.many (0, 0)).2 ∧ (flt x.many (0, 0)).2 ≤ S.length
        cases hm : x.many with
        | nil => rw [hm] at h1; exact absurd rfl h1
        | cons a r =>
          show 0 ≤ a ∧ a ≤ S.length
          rcases hmi a (by rw [hm]; simp) with rfl | ⟨t, ht, e⟩
          · omega
          · have := (hle t ht).1
            rw [e]; omega
  · rw [if_pos (by simpa using hz)]
    refine ⟨fun _ => ⟨rfl, ?_⟩, fun h => absurd h hz⟩
    have := scan_place S
    show 0 ≤ ((scanB S).2.1 : Int) ∧ ((scanB S).2.1 : Int) ≤ S.length
    omega
end Go.Proofs.Ytnnmhmlebffacaa
namespace Go.Proofs.Ytnnmhmlebffacaa
open Go.RowKit Go.Deep

/-- Places of ends of the tokens, each an end of the one before, the last one ahead of what is left. -/
def CM : List Int → List Tk → List Tk → Prop
  | [], l, l' => l' <:+ l
  | a :: m, l, l' => ∃ u, u <:+ l ∧ a = plOf u ∧ CM m u l'
theorem cm_up : ∀ {m : List Int} {l l' l2 : List Tk}, CM m l l' → l <:+ l2 → CM m l2 l'
  | [], _, _, _, h, hs => List.IsSuffix.trans h hs
  | _ :: _, _, _, _, ⟨u, h1, h2, h3⟩, hs => ⟨u, h1.trans hs, h2, h3⟩
theorem cm_suf : ∀ {m : List Int} {l l' : List Tk}, CM m l l' → l' <:+ l
  | [], _, _, h => h
  | _ :: _, _, _, ⟨_, h1, _, h3⟩ => (cm_suf h3).trans h1
theorem cm_app : ∀ {m m' : List Int} {l l1 l2 : List Tk}, CM m l l1 → CM m' l1 l2 → CM (m ++ m') l l2
  | [], _, _, _, _, h, h' => cm_up h' h
  | _ :: _, _, _, _, _, ⟨u, h1, h2, h3⟩, h' => ⟨u, h1, h2, cm_app h3 h'⟩
theorem plOf_suf {u l : List Tk} (h : u <:+ l) (hu : u ≠ []) (hp : l.Pairwise fun a b => a.pl < b.pl) : plOf l ≤ plOf u := by
  obtain ⟨p, rfl⟩ := h
  cases p with
  | nil => exact Int.le_refl _
  | cons t p =>
    cases u with
    | nil => exact absurd rfl hu
    | cons t2 r =>
      have h1 := (List.pairwise_cons.1 hp).1 t2 (by simp)
      show (t.pl : Int) ≤ (t2.pl : Int)
      omega
theorem cm_least {l' : List Tk} (hne : l' ≠ []) : ∀ (m : List Int) (l : List Tk), (l.Pairwise fun a b => a.pl < b.pl) → CM m l l' → ∀ b ∈ m, plOf l ≤ b
  | [], _, _, _, b, hb => by cases hb
  | a :: m, l, hp, ⟨u, h1, h2, h3⟩, b, hb => by
    have hs := cm_suf h3
    have hu : u ≠ [] := fun e => by rw [e] at hs; exact hne (List.suffix_nil.1 hs)
    have hl := plOf_suf h1 hu hp
    rcases List.mem_cons.1 hb with rfl | hb
    · rw [h2]; exact hl
    · exact Int.le_trans hl (cm_least hne m u (hp.sublist h1.sublist) h3 b hb)
theorem cm_first {l' : List Tk} (hne : l' ≠ []) {a : Int} {m : List Int} {l : List Tk} (hp : l.Pairwise fun a b => a.pl < b.pl) (h : CM (a :: m) l l') : ∀ b ∈ a :: m, a ≤ b := by
  obtain ⟨u, h1, h2, h3⟩ := h
  intro b hb
  rcases List.mem_cons.1 hb with rfl | hb
  · exact Int.le_refl _
  · rw [h2]; exact cm_least hne m u (hp.sublist h1.sublist) h3 b hb
def MC {α : Type} (x : Rs α) (l : List Tk) : Prop := CM x.many l x.rest
theorem mc_sub {α : Type} {x : Rs α} {l l' : List Tk} (h : MC x l) (hs : l <:+ l') : MC x l' := cm_up h hs
theorem mc_nil {α : Type} {x : Rs α} {l : List Tk} (h : x.many = []) (hs : x.rest <:+ l) : MC x l := by unfold MC; rw [h]; exact hs
theorem mc_bind {α β : Type} {x : Rs α} {f : α → List Tk → Rs β} {l : List Tk} (h : MC x l) (hf : ∀ a, MC (f a x.rest) x.rest) : MC (x.bind f) l := by
  cases hx : x.val with
  | none => rw [bind_none _ hx]; exact h
  | some a => rw [bind_some _ hx]; exact cm_app h (hf a)
theorem mc_note {α : Type} {c : Bool} {l : List Tk} {x : Rs α} (h : MC x l) : MC (note c l x) l := by
  cases c
  · exact h
  · exact ⟨l, List.suffix_refl _, rfl, h⟩
theorem mc_sign (s : List UInt8) (l : List Tk) : MC (signG s l) l := mc_nil (sign_many s l) (sign_suf s l)
theorem mc_pure {α : Type} (a : α) (l : List Tk) : MC (pure' a l) l := mc_nil rfl (List.suffix_refl _)
theorem mc_wrong {α : Type} (l : List Tk) : MC (wrong' l : Rs α) l := mc_nil rfl (List.suffix_refl _)
theorem mc_close {α : Type} {s : List UInt8} {x : Rs α} {l : List Tk} (h : MC x l) : MC (closeG s x) l :=
  mc_bind h fun _ => mc_bind (mc_sign s _) fun _ => mc_pure _ _
theorem mc_cons {α : Type} {x : Rs α} {t : Tk} {r : List Tk} (h : MC x r) : MC x (t :: r) := mc_sub h (List.suffix_cons _ _)
section
variable {fac : List Tk → Rs Ex}
theorem mc_termGo (hf : ∀ l, MC (fac l) l) : ∀ (m : Nat) (e : Ex) (l : List Tk), MC (termGo fac m e l) l
  | 0, e, l => mc_pure _ _
  | _ + 1, e, [] => mc_pure _ _
  | m + 1, e, t :: r => by
    rw [termGo]
    split
    · exact mc_cons (mc_bind (hf r) fun a => mc_termGo hf m _ _)
    · exact mc_pure _ _
theorem mc_term (hf : ∀ l, MC (fac l) l) (l : List Tk) : MC (termG fac l) l := mc_bind (hf l) fun _ => mc_termGo hf _ _ _
theorem mc_exprGo (hf : ∀ l, MC (fac l) l) : ∀ (m : Nat) (e : Ex) (l : List Tk), MC (exprGo fac m e l) l
  | 0, e, l => mc_pure _ _
  | _ + 1, e, [] => mc_pure _ _
  | m + 1, e, t :: r => by
    rw [exprGo]
    split
    · exact mc_cons (mc_bind (hf r) fun a => mc_exprGo hf m _ _)
    · exact mc_pure _ _
theorem mc_expr (hf : ∀ l, MC (fac l) l) (l : List Tk) : MC (exprG fac l) l := mc_bind (mc_term hf l) fun _ => mc_exprGo (mc_term hf) _ _ _
theorem mc_kidsGo (hf : ∀ l, MC (fac l) l) : ∀ (m : Nat) (ks : List Ex) (l : List Tk), MC (kidsGo fac m ks l) l
  | 0, e, l => mc_pure _ _
  | _ + 1, e, [] => mc_pure _ _
  | m + 1, e, t :: r => by
    rw [kidsGo]
    split
    · exact mc_cons (mc_note (mc_bind (hf r) fun a => mc_kidsGo hf m _ _))
    · exact mc_pure _ _
theorem mc_kids (hf : ∀ l, MC (fac l) l) (l : List Tk) : MC (kidsG fac l) l :=
  mc_bind (mc_sign _ l) fun _ => mc_close (mc_bind (hf _) fun _ => mc_kidsGo hf _ _ _)
end
theorem mc_map {α β : Type} {x : Rs α} {f : α → β} {l : List Tk} (h : MC x l) : MC (x.map f) l := h
theorem mc_fac : ∀ (n : Nat) (l : List Tk), MC (facN n l) l
  | 0, l => mc_wrong _
  | _ + 1, [] => mc_wrong _
  | n + 1, t :: r => by
    have h := mc_fac n
    rw [facN]
    repeat' split
    all_goals first
      | exact mc_cons (mc_pure _ _)
      | exact mc_wrong _
      | exact mc_cons (mc_map (h r))
      | exact mc_cons (mc_close (mc_expr h r))
      | exact mc_cons (mc_map (mc_kids (mc_expr h) r))
section
variable {ex : List Tk → Rs Ex}
theorem mc_one (hf : ∀ l, MC (ex l) l) (l : List Tk) : MC (oneG ex l) l := mc_bind (hf l) fun _ => mc_pure _ _
theorem mc_both (hf : ∀ l, MC (ex l) l) (s : List UInt8) (l : List Tk) : MC (bothG ex s l) l :=
  mc_bind (hf l) fun _ => mc_bind (mc_sign s _) fun _ => mc_bind (hf _) fun _ => mc_pure _ _
theorem mc_body (hf : ∀ l, MC (ex l) l) (k : Int) (l : List Tk) : MC (bodyG ex k l) l := by
  unfold bodyG
  repeat' split
  · exact mc_bind (mc_nil (name_many l) (name_suf' l)) fun _ => mc_bind (mc_sign _ _) fun _ => mc_bind (mc_one hf _) fun _ => mc_pure _ _
  · exact mc_bind (mc_nil (way_many l) (way_suf' l)) fun _ => mc_pure _ _
  · exact mc_bind (mc_both hf _ l) fun _ => mc_pure _ _
  · exact mc_bind (mc_both hf _ l) fun _ => mc_pure _ _
  · exact mc_bind (mc_one hf l) fun _ => mc_pure _ _
theorem mc_item (hf : ∀ l, MC (ex l) l) (l : List Tk) : MC (itemG ex l) l := by
  cases l with
  | nil => exact mc_wrong _
  | cons t r =>
    show MC (if t.kind = 4 ∧ itemKindB t.text ≠ 0 then (closeG [59] (bodyG ex (itemKindB t.text) r)).map (fun b => (⟨itemKindB t.text, b.1, b.2, t.pl⟩ : It)) else wrong' (t :: r)) (t :: r)
    split
    · exact mc_cons (mc_map (mc_close (mc_body hf _ r)))
    · exact mc_wrong _
theorem mc_source (hf : ∀ l, MC (ex l) l) : ∀ (m : Nat) (its : List It) (l : List Tk), MC (sourceGo ex m its l) l
  | 0, its, l => mc_pure _ _
  | _ + 1, its, [] => mc_pure _ _
  | m + 1, its, t :: r => by
    rw [sourceGo]
    split
    · exact mc_pure _ _
    · exact mc_note (mc_bind (mc_item hf _) fun a => mc_source hf m _ _)
end
theorem mc_sourceG (l : List Tk) : MC (sourceG l) l := mc_source (mc_expr (mc_fac mx)) _ _ _
end Go.Proofs.Ytnnmhmlebffacaa
