/-
  What is read of right tokens is right.
-/
import Derived.Test.YtpeldiibjhffiaaDoorG25
import Derived.Test.YtpeldiibjhffiaaDoorG23
namespace Go.Proofs.YtpeldiibjhffiaaDoor
open Go.RowKit Go.Deep

structure RTk (t : Tk) : Prop where
  num : t.kind = 2 → 0 ≤ t.num ∧ t.num ≤ 72057594037927936
  name : t.kind = 3 → nameB t.text = true
  text : t.kind = 5 → txB t.text = true
/-- All heads of a list, and within, are right. -/
def hdsR : Fo → Bool
  | .nil => true
  | .node _ _ h k r => hdRight h (lenF k) && (hdsR k && hdsR r)
theorem rgt_of : ∀ (F : Fo) (d : Nat), hdsR F = true → depF F ≤ d → rgtF d F = true
  | .nil, _, _, _ => rfl
  | .node _ _ h k r, d, hh, hd => by
    simp only [hdsR, Bool.and_eq_true] at hh
    simp only [depF] at hd
    have h1 := rgt_of k (d - 1) hh.2.1 (by omega)
    have h2 := rgt_of r d hh.2.2 (by omega)
    have h3 : decide (d ≠ 0) = true := by simp; omega
    simp only [rgtF, h1, h2, hh.1, h3, Bool.and_self]
def ExR (e : Ex) : Prop := hdRight e.1 (lenF e.2) = true ∧ hdsR e.2 = true
/-- What is read is right where nothing is too many; and no deeper than the tokens taken. -/
structure Rt {α : Type} (P : α → Nat → Prop) (x : Rs α) (l : List Tk) : Prop where
  ok : ∀ a, x.val = some a → x.many = [] → P a (l.length - x.rest.length)
  suf : x.rest <:+ l
theorem rt_tail {t : Tk} {r : List Tk} (h : ∀ u ∈ t :: r, RTk u) : ∀ u ∈ r, RTk u := fun u hu => h u (by simp [hu])
theorem rt_suf {a b : List Tk} (hs : a <:+ b) (h : ∀ u ∈ b, RTk u) : ∀ u ∈ a, RTk u := fun u hu => h u (hs.subset hu)
theorem many_bind {α β : Type} {x : Rs α} {f : α → List Tk → Rs β} {b : β} (hv : (x.bind f).val = some b) (hm : (x.bind f).many = []) : ∃ a, x.val = some a ∧ x.many = [] ∧ (f a x.rest).val = some b ∧ (f a x.rest).many = [] ∧ (x.bind f).rest = (f a x.rest).rest := by
  cases hx : x.val with
  | none => rw [bind_none _ hx] at hv; cases hv
  | some a =>
    rw [bind_pre _ hx] at hv hm ⊢
    have hm' : x.many ++ (f a x.rest).many = [] := hm
    rw [List.append_eq_nil_iff] at hm'
    exact ⟨a, rfl, hm'.1, hv, hm'.2, rfl⟩
/-- Right, and so deep: the depth of the expression is at most the number of tokens. -/
def PE (e : Ex) (n : Nat) : Prop := ExR e ∧ depF e.2 + 1 ≤ n
def PK (ks : List Ex) (n : Nat) : Prop := (∀ e ∈ ks, ExR e ∧ depF e.2 + 1 ≤ n)
def RtF (G : List Tk → Rs Ex) : Prop := ∀ l, (∀ u ∈ l, RTk u) → ∀ e, (G l).val = some e → (G l).many = [] → ExR e ∧ depF e.2 + 1 + (G l).rest.length ≤ l.length
theorem hd_two {k : Int} {t : Tk} {a b : Ex} (hk : k = 5 ∨ k = 6 ∨ k = 7) (h1 : ExR a) (h2 : ExR b) : ExR (hdB k t, ofL [a, b]) := by
  refine ⟨?_, ?_⟩
  · show hdRight ⟨k, 0, [], t.pl⟩ 2 = true
    rcases hk with rfl | rfl | rfl <;> simp [hdRight]
  · simp [ofL, nd, hdsR, h1.1, h1.2, h2.1, h2.2]
theorem dep_two (a b : Ex) : depF (ofL [a, b]) = max (depF a.2 + 1) (depF b.2 + 1) := by
  simp [ofL, nd, depF]
section
variable {fac : List Tk → Rs Ex}
theorem rt_termGo (hf : RtF fac) (sf : ∀ l, (fac l).rest <:+ l) : ∀ (m : Nat) (e : Ex) (l : List Tk) (N : Nat), (∀ u ∈ l, RTk u) → ExR e → depF e.2 + 1 + l.length ≤ N → ∀ e', (termGo fac m e l).val = some e' → (termGo fac m e l).many = [] → ExR e' ∧ depF e'.2 + 1 + (termGo fac m e l).rest.length ≤ N
  | 0, e, l, N, hl, he, hd, e', hv, hm => by have : e = e' := Option.some.inj hv; subst this; exact ⟨he, hd⟩
  | _ + 1, e, [], N, hl, he, hd, e', hv, hm => by have : e = e' := Option.some.inj hv; subst this; exact ⟨he, hd⟩
  | m + 1, e, t :: r, N, hl, he, hd, e', hv, hm => by
    rw [termGo] at hv hm ⊢
    by_cases hi : isT 6 [42] t = true
    · rw [if_pos hi] at hv hm ⊢
      obtain ⟨e2, v2, m2, v3, m3, hr⟩ := many_bind hv hm
      rw [hr]
      obtain ⟨q1, q2⟩ := hf r (rt_tail hl) e2 v2 m2
      refine rt_termGo hf sf m _ _ N (rt_suf (sf r) (rt_tail hl)) (hd_two (.inr (.inr rfl)) he q1) ?_ e' v3 m3
      rw [dep_two]
      simp at hd
      omega
    · rw [if_neg hi] at hv hm ⊢
      have : e = e' := Option.some.inj hv
      subst this
      exact ⟨he, hd⟩
theorem rt_term (hf : RtF fac) (sf : ∀ l, (fac l).rest <:+ l) : RtF (termG fac) := by
  intro l hl e hv hm
  obtain ⟨a, v1, m1, v2, m2, hr⟩ := many_bind hv hm
  obtain ⟨q1, q2⟩ := hf l hl a v1 m1
  have h := rt_termGo hf sf mx a (fac l).rest l.length (rt_suf (sf l) hl) q1 q2 e v2 m2
  have hr' : (termG fac l).rest = (termGo fac mx a (fac l).rest).rest := hr
  rw [hr']; exact h
theorem rt_exprGo (hf : RtF fac) (sf : ∀ l, (fac l).rest <:+ l) : ∀ (m : Nat) (e : Ex) (l : List Tk) (N : Nat), (∀ u ∈ l, RTk u) → ExR e → depF e.2 + 1 + l.length ≤ N → ∀ e', (exprGo fac m e l).val = some e' → (exprGo fac m e l).many = [] → ExR e' ∧ depF e'.2 + 1 + (exprGo fac m e l).rest.length ≤ N
  | 0, e, l, N, hl, he, hd, e', hv, hm => by have : e = e' := Option.some.inj hv; subst this; exact ⟨he, hd⟩
  | _ + 1, e, [], N, hl, he, hd, e', hv, hm => by have : e = e' := Option.some.inj hv; subst this; exact ⟨he, hd⟩
  | m + 1, e, t :: r, N, hl, he, hd, e', hv, hm => by
    rw [exprGo] at hv hm ⊢
    by_cases hi : (isT 6 [43] t || isT 6 [45] t) = true
    · rw [if_pos hi] at hv hm ⊢
      obtain ⟨e2, v2, m2, v3, m3, hr⟩ := many_bind hv hm
      rw [hr]
      obtain ⟨q1, q2⟩ := hf r (rt_tail hl) e2 v2 m2
      refine rt_exprGo hf sf m _ _ N (rt_suf (sf r) (rt_tail hl)) (hd_two (by split <;> simp) he q1) ?_ e' v3 m3
      rw [dep_two]
      simp at hd
      omega
    · rw [if_neg hi] at hv hm ⊢
      have : e = e' := Option.some.inj hv
      subst this
      exact ⟨he, hd⟩
theorem rt_expr (hf : RtF fac) (sf : ∀ l, (fac l).rest <:+ l) : RtF (exprG fac) := by
  intro l hl e hv hm
  obtain ⟨a, v1, m1, v2, m2, hr⟩ := many_bind hv hm
  obtain ⟨q1, q2⟩ := rt_term hf sf l hl a v1 m1
  have h := rt_exprGo (rt_term hf sf) (term_suf sf) mx a (termG fac l).rest l.length (rt_suf (term_suf sf l) hl) q1 q2 e v2 m2
  have hr' : (exprG fac l).rest = (exprGo (termG fac) mx a (termG fac l).rest).rest := hr
  rw [hr']; exact h
theorem rt_kidsGo (hf : RtF fac) (sf : ∀ l, (fac l).rest <:+ l) : ∀ (m : Nat) (ks : List Ex) (l : List Tk) (N : Nat), (∀ u ∈ l, RTk u) → (∀ e ∈ ks, ExR e ∧ depF e.2 + 1 + l.length ≤ N) → 1 ≤ ks.length → ks.length ≤ 8 → ∀ ks', (kidsGo fac m ks l).val = some ks' → (kidsGo fac m ks l).many = [] → (∀ e ∈ ks', ExR e ∧ depF e.2 + 1 + (kidsGo fac m ks l).rest.length ≤ N) ∧ 1 ≤ ks'.length ∧ ks'.length ≤ 8
  | 0, ks, l, N, hl, he, h1, h8, ks', hv, hm => by have : ks = ks' := Option.some.inj hv; subst this; exact ⟨he, h1, h8⟩
  | _ + 1, ks, [], N, hl, he, h1, h8, ks', hv, hm => by have : ks = ks' := Option.some.inj hv; subst this; exact ⟨he, h1, h8⟩
  | m + 1, ks, t :: r, N, hl, he, h1, h8, ks', hv, hm => by
    rw [kidsGo] at hv hm ⊢
    by_cases hi : isT 6 [44] t = true
    · rw [if_pos hi, note_pre] at hv hm ⊢
      have h9 : ks.length ≠ 8 := fun e => by
        have hm' : (if decide (ks.length = 8) = true then [plOf r] else []) ++ ((fac r).bind fun e l2 => kidsGo fac m (ks ++ [e]) l2).many = [] := hm
        rw [if_pos (by simp [e])] at hm'
        simp at hm'
      have hn : (if decide (ks.length = 8) = true then [plOf r] else []) = ([] : List Int) := if_neg (by simp [h9])
      rw [hn, pre_nil] at hv hm ⊢
      obtain ⟨e2, v2, m2, v3, m3, hr⟩ := many_bind hv hm
      rw [hr]
      obtain ⟨q1, q2⟩ := hf r (rt_tail hl) e2 v2 m2
      have hle := (sf r).length_le
      refine rt_kidsGo hf sf m _ _ N (rt_suf (sf r) (rt_tail hl)) (fun e hmem => ?_) (by simp) (by simp; omega) ks' v3 m3
      rcases List.mem_append.1 hmem with h | h
      · have := he e h
        simp at this
        exact ⟨this.1, by omega⟩
      · rw [List.mem_singleton.1 h]
        have hks : ∃ e0, e0 ∈ ks := by cases ks with | nil => simp at h1 | cons a b => exact ⟨a, by simp⟩
        obtain ⟨e0, h0⟩ := hks
        have := (he e0 h0).2
        simp at this
        exact ⟨q1, by omega⟩
    · rw [if_neg hi] at hv hm ⊢
      have : ks = ks' := Option.some.inj hv
      subst this
      exact ⟨he, h1, h8⟩
theorem hds_of : ∀ (ks : List Ex), (∀ e ∈ ks, ExR e) → hdsR (ofL ks) = true
  | [], _ => rfl
  | e :: r, h => by
    have h1 := h e (by simp)
    have h2 := hds_of r fun x hx => h x (by simp [hx])
    simp [ofL, nd, hdsR, h1.1, h1.2, h2]
theorem dep_of : ∀ (ks : List Ex) (n : Nat), (∀ e ∈ ks, depF e.2 + 1 ≤ n) → depF (ofL ks) ≤ n
  | [], n, _ => Nat.zero_le _
  | e :: r, n, h => by
    have h1 := h e (by simp)
    have h2 := dep_of r n fun x hx => h x (by simp [hx])
    simp only [ofL, nd, depF]
    omega
end
end Go.Proofs.YtpeldiibjhffiaaDoor
