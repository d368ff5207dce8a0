/-
  Two sources that are taken, with a line's end between: the items are those of both. What is read of right tokens is right.
-/
import Derived.Test.YtnnmhmlebffacaaG38
import Derived.Test.YtnnmhmlebffacaaG41
namespace Go.Proofs.Ytnnmhmlebffacaa
open Go.RowKit Go.Deep

theorem end_ok {x : Rs (List It)} (h : (endW x).2.1 = 0) : ∃ its, x.val = some its ∧ x.many = [] ∧ (deepR its).1 = 0 ∧ endW x = (its, 0, 0) := by
  unfold endW at h ⊢
  cases hx : x.val with
  | none => rw [hx] at h; cases h
  | some its =>
    rw [hx] at h
    simp only at h ⊢
    by_cases h1 : (flt x.many (0, 0)).1 = 0
    · rw [if_neg (by simpa using h1)] at h ⊢
      by_cases h2 : (deepR its).1 = 0
      · rw [if_neg (by simpa using h2)]
        refine ⟨its, rfl, ?_, h2, rfl⟩
        cases hm : x.many with
        | nil => rfl
        | cons a r => rw [hm] at h1; cases h1
      · rw [if_pos (by simpa using h2)] at h; exact absurd h h2
    · rw [if_pos (by simpa using h1)] at h; exact absurd h h1
theorem end_of {x : Rs (List It)} {its : List It} (h1 : x.val = some its) (h2 : x.many = []) (h3 : (deepR its).1 = 0) : endW x = (its, 0, 0) := by
  unfold endW
  rw [h1]
  simp only
  rw [h2, flt_nil, if_neg (by simp), if_neg (by simpa using h3)]
theorem deep_app : ∀ (a b : List It), (deepR a).1 = 0 → (deepR b).1 = 0 → (deepR (a ++ b)).1 = 0
  | [], b, _, h => h
  | i :: a, b, h1, h2 => by
    rw [List.cons_append, deepR_cons]
    rw [deepR_cons] at h1
    by_cases hd : deepW i = true
    · rw [if_pos hd] at h1; cases h1
    · rw [if_neg hd] at h1 ⊢
      exact deep_app a b h1 h2
theorem same_app : ∀ (a : List It) {b c : List It}, sameI b c = true → sameI (a ++ b) (a ++ c) = true
  | [], b, c, h => h
  | i :: a, b, c, h => by
    have := same_app a h
    simp [sameI, sameF_refl, this]
theorem good_kind {S : List UInt8} {t : Tk} (h : Good S t) : t.kind ≠ 1 := by
  rw [h.is]
  rcases tk_cases (p := t.pl) h.some h.right with h | h | h | h | h
  · rw [h.1]; decide
  · rw [h.1]; decide
  · rw [h.1]; decide
  · rw [h.1]; decide
  · rw [h.1]; decide
theorem strip_shift (d : Nat) (l : List Tk) : (l.map (shiftT d)).map strip = l.map strip := by
  rw [List.map_map]; rfl
theorem parse_scan {S : List UInt8} (h : (parseW S).2.1 = 0) : (scanB S).2.2 = 0 ∧ parseW S = endW (sourceG (scanB S).1) := by
  unfold parseW at h ⊢
  by_cases hz : (scanB S).2.2 = 0
  · rw [if_neg (by simpa using hz)]; exact ⟨hz, rfl⟩
  · rw [if_pos (by simpa using hz)] at h; exact absurd h hz
theorem parse_join {S T : List UInt8} (h : S.length + T.length + 1 ≤ 4000) (h1 : (parseW S).2.1 = 0) (h2 : (parseW T).2.1 = 0) (h3 : (parseW S).1.length + (parseW T).1.length ≤ 100) :
    (parseW (S ++ 10 :: T)).2.1 = 0 ∧ sameI (parseW (S ++ 10 :: T)).1 ((parseW S).1 ++ (parseW T).1) = true := by
  obtain ⟨z1, e1⟩ := parse_scan h1
  obtain ⟨z2, e2⟩ := parse_scan h2
  obtain ⟨A, hA, hJ⟩ := (scan_join h).2.2 z1 z2
  obtain ⟨_, _, T1, hT1, hg1, _⟩ := scan_good z1
  obtain ⟨_, _, T2, hT2, _, _⟩ := scan_good z2
  have f1 := scan_few S
  have fJ := scan_few (S ++ 10 :: T)
  have hAk : ∀ t ∈ A, t.kind ≠ 1 := fun t ht => by
    have : A = T1 := by
      rw [hA] at hT1
      exact List.append_cancel_right hT1
    rw [this] at ht
    exact good_kind (hg1 t ht)
  rw [e1] at h1 h3 ⊢
  rw [e2] at h2 h3 ⊢
  obtain ⟨its1, v1, m1, d1, w1⟩ := end_ok h1
  obtain ⟨its2, v2, m2, d2, w2⟩ := end_ok h2
  rw [w1, w2] at h3 ⊢
  rw [hA] at v1 m1 f1
  rw [hJ] at fJ
  have eJ : parseW (S ++ 10 :: T) = endW (sourceG (A ++ (scanB T).1.map (shiftT (S.length + 1)))) := by
    unfold parseW
    rw [hJ, if_neg (by simp)]
  generalize hB : (scanB T).1.map (shiftT (S.length + 1)) = B at *
  have hBs : B.map strip = (scanB T).1.map strip := by rw [← hB]; exact strip_shift _ _
  have hr : Rl RL' (sourceG B) (sourceG (scanB T).1) := rl_source (rl_expr (rl_fac mx)) mx [] [] _ _ rfl hBs
  obtain ⟨its2', v2', hsame⟩ : ∃ its2', (sourceG B).val = some its2' ∧ sameI its2' its2 = true := by
    rcases hr.val with ⟨_, q⟩ | ⟨a, b, qa, qb, qR⟩
    · rw [v2] at q; cases q
    · rw [v2] at qb; cases qb
      exact ⟨a, qa, qR⟩
  have m2' : (sourceG B).many = [] := by
    have := hr.many
    rw [m2] at this
    exact List.eq_nil_of_length_eq_zero this
  simp only [List.length_append, List.length_singleton] at f1 fJ
  obtain ⟨k, hk, hj⟩ := source_join (loc_expr (loc_fac mx) (fac_sufN mx)) (expr_sufN (fac_sufN mx)) (expr_suf (fac_suf mx)) (e1 := endTk S.length) rfl B A.length A mx mx [] its1 (Nat.le_refl _) hAk (by unfold mx; omega) (by unfold mx; omega) v1
  have hBl : B = T2.map (shiftT (S.length + 1)) ++ [shiftT (S.length + 1) (endTk T.length)] := by
    rw [← hB, hT2, List.map_append]; rfl
  have hacc := source_acc (ex := exprG (facN mx)) (expr_suf (fac_suf mx)) its1 mx k [] its2' B (by unfold mx; omega) hk v2' (by rw [rI_len hsame]; exact h3) (fun t ht => by
    rw [hBl, List.getLast?_append] at ht
    simp at ht
    rw [← ht]; rfl) (by rw [hBl]; simp)
  rw [List.append_nil] at hacc
  have hX : sourceG (A ++ B) = pre (sourceG (A ++ [endTk S.length])).many (sourceGo (exprG (facN mx)) k its1 B) := hj
  rw [m1, pre_nil, hacc] at hX
  have hd2 : (deepR its2').1 = 0 := by rw [deepR_same hsame]; exact d2
  have hE := end_of (x := sourceG (A ++ B)) (its := its1 ++ its2') (by rw [hX]) (by rw [hX]; exact m2') (deep_app _ _ d1 hd2)
  rw [eJ, hE]
  exact ⟨rfl, same_app its1 hsame⟩
end Go.Proofs.Ytnnmhmlebffacaa
namespace Go.Proofs.Ytnnmhmlebffacaa
open Go.RowKit Go.Deep

structure RTk (t : Tk) : Prop where
  num : t.kind = 2 → 0 ≤ t.num ∧ t.num ≤ 72057594037927936
  name : t.kind = 3 → nameB t.text = true
  text : t.kind = 5 → txB t.text = true
/-- All heads of a list, and within, are right. -/
def hdsR : Fo → Bool
  | .nil => true
  | .node _ _ h k r => hdRight h (lenF k) && (hdsR k && hdsR r)
theorem rgt_of : ∀ (F : Fo) (d : Nat), hdsR F = true → depF F ≤ d → rgtF d F = true
  | .nil, _, _, _ => rfl
  | .node _ _ h k r, d, hh, hd => by
    simp only [hdsR, Bool.and_eq_true] at hh
    simp only [depF] at hd
    have h1 := rgt_of k (d - 1) hh.2.1 (by omega)
    have h2 := rgt_of r d hh.2.2 (by omega)
    have h3 : decide (d ≠ 0) = true := by simp; omega
    simp only [rgtF, h1, h2, hh.1, h3, Bool.and_self]
def ExR (e : Ex) : Prop := hdRight e.1 (lenF e.2) = true ∧ hdsR e.2 = true
/-- What is read is right where nothing is too many; and no deeper than the tokens taken. -/
structure Rt {α : Type} (P : α → Nat → Prop) (x : Rs α) (l : List Tk) : Prop where
  ok : ∀ a, x.val = some a → x.many = [] → P a (l.length - x.rest.length)
  suf : x.rest <:+ l
theorem rt_tail {t : Tk} {r : List Tk} (h : ∀ u ∈ t :: r, RTk u) : ∀ u ∈ r, RTk u := fun u hu => h u (by simp [hu])
theorem rt_suf {a b : List Tk} (hs : a <:+ b) (h : ∀ u ∈ b, RTk u) : ∀ u ∈ a, RTk u := fun u hu => h u (hs.subset hu)
theorem many_bind {α β : Type} {x : Rs α} {f : α → List Tk → Rs β} {b : β} (hv : (x.bind f).val = some b) (hm : (x.bind f).many = []) : ∃ a, x.val = some a ∧ x.many = [] ∧ (f a x.rest).val = some b ∧ (f a x.rest).many = [] ∧ (x.bind f).rest = (f a x.rest).rest := by
  cases hx : x.val with
  | none => rw [bind_none _ hx] at hv; cases hv
  | some a =>
    rw [bind_pre _ hx] at hv hm ⊢
    have hm' : x.many ++ (f a x.rest).many = [] := hm
    rw [List.append_eq_nil_iff] at hm'
    exact ⟨a, rfl, hm'.1, hv, hm'.2, rfl⟩
/-- Right, and so deep: the depth of the expression is at most the number of tokens. -/
def PE (e : Ex) (n : Nat) : Prop := ExR e ∧ depF e.2 + 1 ≤ n
def PK (ks : List Ex) (n : Nat) : Prop := (∀ e ∈ ks, ExR e ∧ depF e.2 + 1 ≤ n)
def RtF (G : List Tk → Rs Ex) : Prop := ∀ l, (∀ u ∈ l, RTk u) → ∀ e, (G l).val = some e → (G l).many = [] → ExR e ∧ depF e.2 + 1 + (G l).rest.length ≤ l.length
theorem hd_two {k : Int} {t : Tk} {a b : Ex} (hk : k = 5 ∨ k = 6 ∨ k = 7) (h1 : ExR a) (h2 : ExR b) : ExR (hdB k t, ofL [a, b]) := by
  refine ⟨?_, ?_⟩
  · show hdRight ⟨k, 0, [], t.pl⟩ 2 = true
    rcases hk with rfl | rfl | rfl <;> simp [hdRight]
  · simp [ofL, nd, hdsR, h1.1, h1.2, h2.1, h2.2]
theorem dep_two (a b : Ex) : depF (ofL [a, b]) = max (depF a.2 + 1) (depF b.2 + 1) := by
  simp [ofL, nd, depF]
section
variable {fac : List Tk → Rs Ex}
theorem rt_termGo (hf : RtF fac) (sf : ∀ l, (fac l).rest <:+ l) : ∀ (m : Nat) (e : Ex) (l : List Tk) (N : Nat), (∀ u ∈ l, RTk u) → ExR e → depF e.2 + 1 + l.length ≤ N → ∀ e', (termGo fac m e l).val = some e' → (termGo fac m e l).many = [] → ExR e' ∧ depF e'.2 + 1 + (termGo fac m e l).rest.length ≤ N
  | 0, e, l, N, hl, he, hd, e', hv, hm => by have : e = e' := Option.some.inj hv; subst this; exact ⟨he, hd⟩
  | _ + 1, e, [], N, hl, he, hd, e', hv, hm => by have : e = e' := Option.some.inj hv; subst this; exact ⟨he, hd⟩
  | m + 1, e, t :: r, N, hl, he, hd, e', hv, hm => by
    rw [termGo] at hv hm ⊢
    by_cases hi : isT 6 [42] t = true
    · rw [if_pos hi] at hv hm ⊢
      obtain ⟨e2, v2, m2, v3, m3, hr⟩ := many_bind hv hm
      rw [hr]
      obtain ⟨q1, q2⟩ := hf r (rt_tail hl) e2 v2 m2
      refine rt_termGo hf sf m _ _ N (rt_suf (sf r) (rt_tail hl)) (hd_two (.inr (.inr rfl)) he q1) ?_ e' v3 m3
      rw [dep_two]
      simp at hd
      omega
    · rw [if_neg hi] at hv hm ⊢
      have : e = e' := Option.some.inj hv
      subst this
      exact ⟨he, hd⟩
theorem rt_term (hf : RtF fac) (sf : ∀ l, (fac l).rest <:+ l) : RtF (termG fac) := by
  intro l hl e hv hm
  obtain ⟨a, v1, m1, v2, m2, hr⟩ := many_bind hv hm
  obtain ⟨q1, q2⟩ := hf l hl a v1 m1
  have h := rt_termGo hf sf mx a (fac l).rest l.length (rt_suf (sf l) hl) q1 q2 e v2 m2
  have hr' : (termG fac l).rest = (termGo fac mx a (fac l).rest).rest := hr
  rw [hr']; exact h
theorem rt_exprGo (hf : RtF fac) (sf : ∀ l, (fac l).rest <:+ l) : ∀ (m : Nat) (e : Ex) (l : List Tk) (N : Nat), (∀ u ∈ l, RTk u) → ExR e → depF e.2 + 1 + l.length ≤ N → ∀ e', (exprGo fac m e l).val = some e' → (exprGo fac m e l).many = [] → ExR e' ∧ depF e'.2 + 1 + (exprGo fac m e l).rest.length ≤ N
  | 0, e, l, N, hl, he, hd, e', hv, hm => by have : e = e' := Option.some.inj hv; subst this; exact ⟨he, hd⟩
  | _ + 1, e, [], N, hl, he, hd, e', hv, hm => by have : e = e' := Option.some.inj hv; subst this; exact ⟨he, hd⟩
  | m + 1, e, t :: r, N, hl, he, hd, e', hv, hm => by
    rw [exprGo] at hv hm ⊢
    by_cases hi : (isT 6 [43] t || isT 6 [45] t) = true
    · rw [if_pos hi] at hv hm ⊢
      obtain ⟨e2, v2, m2, v3, m3, hr⟩ := many_bind hv hm
      rw [hr]
      obtain ⟨q1, q2⟩ := hf r (rt_tail hl) e2 v2 m2
      refine rt_exprGo hf sf m _ _ N (rt_suf (sf r) (rt_tail hl)) (hd_two (by split <;> simp) he q1) ?_ e' v3 m3
      rw [dep_two]
      simp at hd
      omega
    · rw [if_neg hi] at hv hm ⊢
      have : e = e' := Option.some.inj hv
      subst this
      exact ⟨he, hd⟩
theorem rt_expr (hf : RtF fac) (sf : ∀ l, (fac l).rest <:+ l) : RtF (exprG fac) := by
  intro l hl e hv hm
  obtain ⟨a, v1, m1, v2, m2, hr⟩ := many_bind hv hm
  obtain ⟨q1, q2⟩ := rt_term hf sf l hl a v1 m1
  have h := rt_exprGo (rt_term hf sf) (term_suf sf) mx a (termG fac l).rest l.length (rt_suf (term_suf sf l) hl) q1 q2 e v2 m2
  have hr' : (exprG fac l).rest = (exprGo (termG fac) mx a (termG fac l).rest).rest := hr
  rw [hr']; exact h
theorem rt_kidsGo (hf : RtF fac) (sf : ∀ l, (fac l).rest <:+ l) : ∀ (m : Nat) (ks : List Ex) (l : List Tk) (N : Nat), (∀ u ∈ l, RTk u) → (∀ e ∈ ks, ExR e ∧ depF e.2 + 1 + l.length ≤ N) → 1 ≤ ks.length → ks.length ≤ 8 → ∀ ks', (kidsGo fac m ks l).val = some ks' → (kidsGo fac m ks l).many = [] → (∀ e ∈ ks', ExR e ∧ depF e.2 + 1 + (kidsGo fac m ks l).rest.length ≤ N) ∧ 1 ≤ ks'.length ∧ ks'.length ≤ 8
  | 0, ks, l, N, hl, he, h1, h8, ks', hv, hm => by have : ks = ks' := Option.some.inj hv; subst this; exact ⟨he, h1, h8⟩
  | _ + 1, ks, [], N, hl, he, h1, h8, ks', hv, hm => by have : ks = ks' := Option.some.inj hv; subst this; exact ⟨he, h1, h8⟩
  | m + 1, ks, t :: r, N, hl, he, h1, h8, ks', hv, hm => by
    rw [kidsGo] at hv hm ⊢
    by_cases hi : isT 6 [44] t = true
    · rw [if_pos hi, note_pre] at hv hm ⊢
      have h9 : ks.length ≠ 8 := fun e => by
        have hm' : (if decide (ks.length = 8) = true then [plOf r] else []) ++ ((fac r).bind fun e l2 => kidsGo fac m (ks ++ [e]) l2).many = [] := hm
        rw [if_pos (by simp [e])] at hm'
        simp at hm'
      have hn : (if decide (ks.length = 8) = true then [plOf r] else []) = ([] : List Int) := if_neg (by simp [h9])
      rw [hn, pre_nil] at hv hm ⊢
      obtain ⟨e2, v2, m2, v3, m3, hr⟩ := many_bind hv hm
      rw [hr]
      obtain ⟨q1, q2⟩ := hf r (rt_tail hl) e2 v2 m2
      have hle := (sf r).length_le
      refine rt_kidsGo hf sf m _ _ N (rt_suf (sf r) (rt_tail hl)) (fun e hmem => ?_) (by simp) (by simp; omega) ks' v3 m3
      rcases List.mem_append.1 hmem with h | h
      · have := he e h
        simp at this
        exact ⟨this.1, by omega⟩
      · rw [List.mem_singleton.1 h]
        have hks : ∃ e0, e0 ∈ ks := by cases ks with | nil => simp at h1 | cons a b => exact ⟨a, by simp⟩
        obtain ⟨e0, h0⟩ := hks
        have := (he e0 h0).2
        simp at this
        exact ⟨q1, by omega⟩
    · rw [if_neg hi] at hv hm ⊢
      have : ks = ks' := Option.some.inj hv
      subst this
      exact ⟨he, h1, h8⟩
theorem hds_of : ∀ (ks : List Ex), (∀ e ∈ ks, ExR e) → hdsR (ofL ks) = true
  | [], _ => rfl
  | e :: r, h => by
    have h1 := h e (by simp)
    have h2 := hds_of r fun x hx => h x (by simp [hx])
    simp [ofL, nd, hdsR, h1.1, h1.2, h2]
theorem dep_of : ∀ (ks : List Ex) (n : Nat), (∀ e ∈ ks, depF e.2 + 1 ≤ n) → depF (ofL ks) ≤ n
  | [], n, _ => Nat.zero_le _
  | e :: r, n, h => by
    have h1 := h e (by simp)
    have h2 := dep_of r n fun x hx => h x (by simp [hx])
    simp only [ofL, nd, depF]
    omega
end
end Go.Proofs.Ytnnmhmlebffacaa
