/-
  What is read of right tokens is right. Factors, items, sources: what is read of right tokens is right. The tokens of a source are right.
-/
import Derived.Test.YtpeldiibjhffiaaDoorG25
import Derived.Test.YtpeldiibjhffiaaDoorG23
namespace Go.Proofs.YtpeldiibjhffiaaDoor
open Go.RowKit Go.Deep

structure RTk (t : Tk) : Prop where
  num : t.kind = 2 → 0 ≤ t.num ∧ t.num ≤ 72057594037927936
  name : t.kind = 3 → nameB t.text = true
  text : t.kind = 5 → txB t.text = true
/-- All heads of a list, and within, are right. -/
def hdsR : Fo → Bool
  | .nil => true
  | .node _ _ h k r => hdRight h (lenF k) && (hdsR k && hdsR r)
theorem rgt_of : ∀ (F : Fo) (d : Nat), hdsR F = true → depF F ≤ d → rgtF d F = true
  | .nil, _, _, _ => rfl
  | .node _ _ h k r, d, hh, hd => by
    simp only [hdsR, Bool.and_eq_true] at hh
    simp only [depF] at hd
    have h1 := rgt_of k (d - 1) hh.2.1 (by omega)
    have h2 := rgt_of r d hh.2.2 (by omega)
    have h3 : decide (d ≠ 0) = true := by simp; omega
    simp only [rgtF, h1, h2, hh.1, h3, Bool.and_self]
def ExR (e : Ex) : Prop := hdRight e.1 (lenF e.2) = true ∧ hdsR e.2 = true
/-- What is read is right where nothing is too many; and no deeper than the tokens taken. -/
structure Rt {α : Type} (P : α → Nat → Prop) (x : Rs α) (l : List Tk) : Prop where
  ok : ∀ a, x.val = some a → x.many = [] → P a (l.length - x.rest.length)
  suf : x.rest <:+ l
theorem rt_tail {t : Tk} {r : List Tk} (h : ∀ u ∈ t :: r, RTk u) : ∀ u ∈ r, RTk u := fun u hu => h u (by simp [hu])
theorem rt_suf {a b : List Tk} (hs : a <:+ b) (h : ∀ u ∈ b, RTk u) : ∀ u ∈ a, RTk u := fun u hu => h u (hs.subset hu)
theorem many_bind {α β : Type} {x : Rs α} {f : α → List Tk → Rs β} {b : β} (hv : (x.bind f).val = some b) (hm : (x.bind f).many = []) : ∃ a, x.val = some a ∧ x.many = [] ∧ (f a x.rest).val = some b ∧ (f a x.rest).many = [] ∧ (x.bind f).rest = (f a x.rest).rest := by
  cases hx : x.val with
  | none => rw [bind_none _ hx] at hv; cases hv
  | some a =>
    rw [bind_pre _ hx] at hv hm ⊢
    have hm' : x.many ++ (f a x.rest).many = [] := hm
    rw [List.append_eq_nil_iff] at hm'
    exact ⟨a, rfl, hm'.1, hv, hm'.2, rfl⟩
/-- Right, and so deep: the depth of the expression is at most the number of tokens. -/
def PE (e : Ex) (n : Nat) : Prop := ExR e ∧ depF e.2 + 1 ≤ n
def PK (ks : List Ex) (n : Nat) : Prop := (∀ e ∈ ks, ExR e ∧ depF e.2 + 1 ≤ n)
def RtF (G : List Tk → Rs Ex) : Prop := ∀ l, (∀ u ∈ l, RTk u) → ∀ e, (G l).val = some e → (G l).many = [] → ExR e ∧ depF e.2 + 1 + (G l).rest.length ≤ l.length
theorem hd_two {k : Int} {t : Tk} {a b : Ex} (hk : k = 5 ∨ k = 6 ∨ k = 7) (h1 : ExR a) (h2 : ExR b) : ExR (hdB k t, ofL [a, b]) := by
  refine ⟨?_, ?_⟩
  · show hdRight ⟨k, 0, [], t.pl⟩ 2 = true
    rcases hk with rfl | rfl | rfl <;> simp [hdRight]
  · simp [ofL, nd, hdsR, h1.1, h1.2, h2.1, h2.2]
theorem dep_two (a b : Ex) : depF (ofL [a, b]) = max (depF a.2 + 1) (depF b.2 + 1) := by
  simp [ofL, nd, depF]
section
variable {fac : List Tk → Rs Ex}
theorem rt_termGo (hf : RtF fac) (sf : ∀ l, (fac l).rest <:+ l) : ∀ (m : Nat) (e : Ex) (l : List Tk) (N : Nat), (∀ u ∈ l, RTk u) → ExR e → depF e.2 + 1 + l.length ≤ N → ∀ e', (termGo fac m e l).val = some e' → (termGo fac m e l).many = [] → ExR e' ∧ depF e'.2 + 1 + (termGo fac m e l).rest.length ≤ N
  | 0, e, l, N, hl, he, hd, e', hv, hm => by have : e = e' := Option.some.inj hv; subst this; exact ⟨he, hd⟩
  | _ + 1, e, [], N, hl, he, hd, e', hv, hm => by have : e = e' := Option.some.inj hv; subst this; exact ⟨he, hd⟩
  | m + 1, e, t :: r, N, hl, he, hd, e', hv, hm => by
    rw [termGo] at hv hm ⊢
    by_cases hi : isT 6 [42] t = true
    · rw [if_pos hi] at hv hm ⊢
      obtain ⟨e2, v2, m2, v3, m3, hr⟩ := many_bind hv hm
      rw [hr]
      obtain ⟨q1, q2⟩ := hf r (rt_tail hl) e2 v2 m2
      refine rt_termGo hf sf m _ _ N (rt_suf (sf r) (rt_tail hl)) (hd_two (.inr (.inr rfl)) he q1) ?_ e' v3 m3
      rw [dep_two]
      simp at hd
      omega
    · rw [if_neg hi] at hv hm ⊢
      have : e = e' := Option.some.inj hv
      subst this
      exact ⟨he, hd⟩
theorem rt_term (hf : RtF fac) (sf : ∀ l, (fac l).rest <:+ l) : RtF (termG fac) := by
  intro l hl e hv hm
  obtain ⟨a, v1, m1, v2, m2, hr⟩ := many_bind hv hm
  obtain ⟨q1, q2⟩ := hf l hl a v1 m1
  have h := rt_termGo hf sf mx a (fac l).rest l.length (rt_suf (sf l) hl) q1 q2 e v2 m2
  have hr' : (termG fac l).rest = (termGo fac mx a (fac l).rest).rest := hr
  rw [hr']; exact h
theorem rt_exprGo (hf : RtF fac) (sf : ∀ l, (fac l).rest <:+ l) : ∀ (m : Nat) (e : Ex) (l : List Tk) (N : Nat), (∀ u ∈ l, RTk u) → ExR e → depF e.2 + 1 + l.length ≤ N → ∀ e', (exprGo fac m e l).val = some e' → (exprGo fac m e l).many = [] → ExR e' ∧ depF e'.2 + 1 + (exprGo fac m e l).rest.length ≤ N
  | 0, e, l, N, hl, he, hd, e', hv, hm => by have : e = e' := Option.some.inj hv; subst this; exact ⟨he, hd⟩
  | _ + 1, e, [], N, hl, he, hd, e', hv, hm => by have : e = e' := Option.some.inj hv; subst this; exact ⟨he, hd⟩
  | m + 1, e, t :: r, N, hl, he, hd, e', hv, hm => by
    rw [exprGo] at hv hm ⊢
    by_cases hi : (isT 6 [43] t || isT 6 [45] t) = true
    · rw [if_pos hi] at hv hm ⊢
      obtain ⟨e2, v2, m2, v3, m3, hr⟩ := many_bind hv hm
      rw [hr]
      obtain ⟨q1, q2⟩ := hf r (rt_tail hl) e2 v2 m2
      refine rt_exprGo hf sf m _ _ N (rt_suf (sf r) (rt_tail hl)) (hd_two (by split <;> simp) he q1) ?_ e' v3 m3
      rw [dep_two]
      simp at hd
      omega
    · rw [if_neg hi] at hv hm ⊢
      have : e = e' := Option.some.inj hv
      subst this
      exact ⟨he, hd⟩
theorem rt_expr (hf : RtF fac) (sf : ∀ l, (fac l).rest <:+ l) : RtF (exprG fac) := by
  intro l hl e hv hm
  obtain ⟨a, v1, m1, v2, m2, hr⟩ := many_bind hv hm
  obtain ⟨q1, q2⟩ := rt_term hf sf l hl a v1 m1
  have h := rt_exprGo (rt_term hf sf) (term_suf sf) mx a (termG fac l).rest l.length (rt_suf (term_suf sf l) hl) q1 q2 e v2 m2
  have hr' : (exprG fac l).rest = (exprGo (termG fac) mx a (termG fac l).rest).rest := hr
  rw [hr']; exact h
theorem rt_kidsGo (hf : RtF fac) (sf : ∀ l, (fac l).rest <:+ l) : ∀ (m : Nat) (ks : List Ex) (l : List Tk) (N : Nat), (∀ u ∈ l, RTk u) → (∀ e ∈ ks, ExR e ∧ depF e.2 + 1 + l.length ≤ N) → 1 ≤ ks.length → ks.length ≤ 8 → ∀ ks', (kidsGo fac m ks l).val = some ks' → (kidsGo fac m ks l).many = [] → (∀ e ∈ ks', ExR e ∧ depF e.2 + 1 + (kidsGo fac m ks l).rest.length ≤ N) ∧ 1 ≤ ks'.length ∧ ks'.length ≤ 8
  | 0, ks, l, N, hl, he, h1, h8, ks', hv, hm => by have : ks = ks' := Option.some.inj hv; subst this; exact ⟨he, h1, h8⟩
  | _ + 1, ks, [], N, hl, he, h1, h8, ks', hv, hm => by have : ks = ks' := Option.some.inj hv; subst this; exact ⟨he, h1, h8⟩
  | m + 1, ks, t :: r, N, hl, he, h1, h8, ks', hv, hm => by
    rw [kidsGo] at hv hm ⊢
    by_cases hi : isT 6 [44] t = true
    · rw [if_pos hi, note_pre] at hv hm ⊢
      have h9 : ks.length ≠ 8 := fun e => by
        have hm' : (if decide (ks.length = 8) = true then [plOf r] else []) ++ ((fac r).bind fun e l2 => kidsGo fac m (ks ++ [e]) l2).many = [] := hm
        rw [if_pos (by simp [e])] at hm'
        simp at hm'
      have hn : (if decide (ks.length = 8) = true then [plOf r] else []) = ([] : List Int) := if_neg (by simp [h9])
      rw [hn, pre_nil] at hv hm ⊢
      obtain ⟨e2, v2, m2, v3, m3, hr⟩ := many_bind hv hm
      rw [hr]
      obtain ⟨q1, q2⟩ := hf r (rt_tail hl) e2 v2 m2
      have hle := (sf r).length_le
      refine rt_kidsGo hf sf m _ _ N (rt_suf (sf r) (rt_tail hl)) (fun e hmem => ?_) (by simp) (by simp; omega) ks' v3 m3
      rcases List.mem_append.1 hmem with h | h
      · have := he e h
        simp at this
        exact ⟨this.1, by omega⟩
      · rw [List.mem_singleton.1 h]
        have hks : ∃ e0, e0 ∈ ks := by cases ks with | nil => simp at h1 | cons a b => exact ⟨a, by simp⟩
        obtain ⟨e0, h0⟩ := hks
        have := (he e0 h0).2
        simp at this
        exact ⟨q1, by omega⟩
    · rw [if_neg hi] at hv hm ⊢
      have : ks = ks' := Option.some.inj hv
      subst this
      exact ⟨he, h1, h8⟩
theorem hds_of : ∀ (ks : List Ex), (∀ e ∈ ks, ExR e) → hdsR (ofL ks) = true
  | [], _ => rfl
  | e :: r, h => by
    have h1 := h e (by simp)
    have h2 := hds_of r fun x hx => h x (by simp [hx])
    simp [ofL, nd, hdsR, h1.1, h1.2, h2]
theorem dep_of : ∀ (ks : List Ex) (n : Nat), (∀ e ∈ ks, depF e.2 + 1 ≤ n) → depF (ofL ks) ≤ n
  | [], n, _ => Nat.zero_le _
  | e :: r, n, h => by
    have h1 := h e (by simp)
    have h2 := dep_of r n fun x hx => h x (by simp [hx])
    simp only [ofL, nd, depF]
    omega
end
end Go.Proofs.YtpeldiibjhffiaaDoor
namespace Go.Proofs.YtpeldiibjhffiaaDoor
open Go.RowKit Go.Deep

theorem rt_close {α : Type} {s : List UInt8} {x : Rs α} {a : α} (hv : (closeG s x).val = some a) (hm : (closeG s x).many = []) : x.val = some a ∧ x.many = [] ∧ (closeG s x).rest.length + 1 ≤ x.rest.length := by
  obtain ⟨b, v1, m1, v2, m2, hr⟩ := many_bind hv hm
  obtain ⟨u, v3, m3, v4, m4, hr2⟩ := many_bind v2 m2
  have hab : b = a := Option.some.inj v4
  subst hab
  refine ⟨v1, m1, ?_⟩
  have hr' : (closeG s x).rest = ((signG s x.rest).bind fun _ l2 => pure' b l2).rest := hr
  rw [hr', hr2]
  show (signG s x.rest).rest.length + 1 ≤ x.rest.length
  cases hl : x.rest with
  | nil => rw [hl] at v3; cases v3
  | cons t r =>
    rw [hl] at v3
    have v3' : (if isT 6 s t = true then pure' () r else wrong' (t :: r)).val = some u := v3
    show (if isT 6 s t = true then pure' () r else wrong' (t :: r)).rest.length + 1 ≤ _
    split at v3'
    · rename_i h; rw [if_pos h]; exact Nat.le_refl _
    · cases v3'
theorem rt_kids {fac : List Tk → Rs Ex} (hf : RtF fac) (sf : ∀ l, (fac l).rest <:+ l) (l : List Tk) (hl : ∀ u ∈ l, RTk u) (ks : List Ex) (hv : (kidsG fac l).val = some ks) (hm : (kidsG fac l).many = []) :
    (∀ e ∈ ks, ExR e ∧ depF e.2 + 1 + (kidsG fac l).rest.length ≤ l.length) ∧ 1 ≤ ks.length ∧ ks.length ≤ 8 := by
  obtain ⟨u, v1, m1, v2, m2, hr⟩ := many_bind hv hm
  obtain ⟨v3, m3, h3⟩ := rt_close v2 m2
  obtain ⟨a, v4, m4, v5, m5, hr5⟩ := many_bind v3 m3
  have s1 := sign_suf [40] l
  have hl1 := rt_suf s1 hl
  obtain ⟨q1, q2⟩ := hf (signG [40] l).rest hl1 a v4 m4
  have h := rt_kidsGo hf sf mx [a] (fac (signG [40] l).rest).rest (signG [40] l).rest.length (rt_suf (sf _) hl1) (fun e he => by rw [List.mem_singleton.1 he]; exact ⟨q1, q2⟩) (by simp) (by simp) ks v5 m5
  have hr' : (kidsG fac l).rest = (closeG [41] ((fac (signG [40] l).rest).bind fun e l2 => kidsGo fac mx [e] l2)).rest := hr
  have hle := s1.length_le
  refine ⟨fun e he => ⟨(h.1 e he).1, ?_⟩, h.2⟩
  have h6 := (h.1 e he).2
  rw [← hr5] at h6
  rw [hr']
  omega
theorem rt_fac : ∀ (n : Nat), RtF (facN n)
  | 0 => fun l _ e hv _ => by cases hv
  | n + 1 => by
    intro l hl e hv hm
    have ih := rt_fac n
    have si := fac_suf n
    cases l with
    | nil => cases hv
    | cons t r =>
      have ht := hl t (by simp)
      have hr := rt_tail hl
      rw [facN] at hv hm ⊢
      by_cases h2 : t.kind = 2
      · rw [if_pos h2] at hv ⊢
        have he : (⟨⟨1, t.num, [], t.pl⟩, .nil⟩ : Ex) = e := Option.some.inj hv
        subst he
        have := ht.num h2
        exact ⟨⟨by simp [hdRight, lenF, this.1, this.2], rfl⟩, by simp [depF, pure']; omega⟩
      · rw [if_neg h2] at hv hm ⊢
        by_cases h3 : t.kind = 3
        · rw [if_pos h3] at hv ⊢
          have he : (⟨⟨2, 0, t.text, t.pl⟩, .nil⟩ : Ex) = e := Option.some.inj hv
          subst he
          exact ⟨⟨by simp [hdRight, lenF, ht.name h3], rfl⟩, by simp [depF, pure']; omega⟩
        · rw [if_neg h3] at hv hm ⊢
          by_cases h5 : t.kind = 5
          · rw [if_pos h5] at hv ⊢
            have he : (⟨⟨3, 0, t.text, t.pl⟩, .nil⟩ : Ex) = e := Option.some.inj hv
            subst he
            exact ⟨⟨by simp [hdRight, lenF, ht.text h5], rfl⟩, by simp [depF, pure']; omega⟩
          · rw [if_neg h5] at hv hm ⊢
            by_cases ha : isT 6 [45] t = true
            · rw [if_pos ha] at hv hm ⊢
              cases hx : (facN n r).val with
              | none => have hv' : (facN n r).val.map _ = some e := hv; rw [hx] at hv'; cases hv'
              | some a =>
                have hv' : (facN n r).val.map _ = some e := hv
                rw [hx] at hv'
                have he := Option.some.inj hv'
                subst he
                obtain ⟨q1, q2⟩ := ih r hr a hx hm
                refine ⟨⟨by simp [hdRight, hdB, ofL, nd, lenF], by simp [ofL, nd, hdsR, q1.1, q1.2]⟩, ?_⟩
                show depF (ofL [a]) + 1 + (facN n r).rest.length ≤ (t :: r).length
                have : depF (ofL [a]) = depF a.2 + 1 := by simp [ofL, nd, depF]
                simp; omega
            · rw [if_neg ha] at hv hm ⊢
              by_cases hb : isT 6 [40] t = true
              · rw [if_pos hb] at hv hm ⊢
                obtain ⟨v1, m1, h1⟩ := rt_close hv hm
                obtain ⟨q1, q2⟩ := rt_expr ih si r hr e v1 m1
                exact ⟨q1, by simp; omega⟩
              · rw [if_neg hb] at hv hm ⊢
                have hmm : ∀ (k : Int), (k = 8 ∨ k = 9) → ((kidsG (exprG (facN n)) r).map fun ks => (hdB k t, ofL ks)).val = some e → ((kidsG (exprG (facN n)) r).map fun ks => (hdB k t, ofL ks)).many = [] → ExR e ∧ depF e.2 + 1 + ((kidsG (exprG (facN n)) r).map fun ks => (hdB k t, ofL ks)).rest.length ≤ (t :: r).length := fun k hk hv hm => by
                  cases hx : (kidsG (exprG (facN n)) r).val with
                  | none => have hv' : (kidsG (exprG (facN n)) r).val.map _ = some e := hv; rw [hx] at hv'; cases hv'
                  | some ks =>
                    have hv' : (kidsG (exprG (facN n)) r).val.map _ = some e := hv
                    rw [hx] at hv'
                    have he := Option.some.inj hv'
                    subst he
                    obtain ⟨q1, q2, q3⟩ := rt_kids (rt_expr ih si) (expr_suf si) r hr ks hx hm
                    have hle := (kids_suf (expr_suf si) r).length_le
                    refine ⟨⟨?_, hds_of ks fun x hx => (q1 x hx).1⟩, ?_⟩
                    · show hdRight ⟨k, 0, [], t.pl⟩ (lenF (ofL ks)) = true
                      rw [lenF_of]
                      rcases hk with rfl | rfl <;> simp [hdRight, q2, q3]
                    · show depF (ofL ks) + 1 + (kidsG (exprG (facN n)) r).rest.length ≤ (t :: r).length
                      have := dep_of ks (r.length - (kidsG (exprG (facN n)) r).rest.length) fun x hx => by have := (q1 x hx).2; omega
                      simp; omega
                by_cases hc : isT 4 wMin t = true
                · rw [if_pos hc] at hv hm ⊢; exact hmm 8 (.inl rfl) hv hm
                · rw [if_neg hc] at hv hm ⊢
                  by_cases hd : isT 4 wMax t = true
                  · rw [if_pos hd] at hv hm ⊢; exact hmm 9 (.inr rfl) hv hm
                  · rw [if_neg hd] at hv; cases hv
end Go.Proofs.YtpeldiibjhffiaaDoor
namespace Go.Proofs.YtpeldiibjhffiaaDoor
open Go.RowKit Go.Deep

theorem inner_all : ∀ (r : List UInt8), ∀ c ∈ innerB r, c ≠ 34
  | [], c, h => by simp [innerB] at h
  | d :: r, c, h => by
    unfold innerB at h
    rw [List.takeWhile_cons] at h
    split at h
    · rename_i hd
      rcases List.mem_cons.1 h with rfl | h
      · simpa using hd
      · exact inner_all r c h
    · cases h
theorem inner_id : ∀ (a : List UInt8), (∀ c ∈ a, c ≠ 34) → innerB (a ++ [34]) = a
  | [], _ => rfl
  | d :: a, h => by
    have h1 := inner_id a fun c hc => h c (by simp [hc])
    have h2 := h d (by simp)
    unfold innerB at h1 ⊢
    rw [List.cons_append, List.takeWhile_cons, if_pos (by simpa using h2), h1]
theorem tx_of {r : List UInt8} (h : textOk r = true) : txB (innerB r) = true := by
  have hh := h
  unfold textOk at hh
  simp only [Bool.and_eq_true, decide_eq_true_eq] at hh
  have hid := inner_id (innerB r) (inner_all r)
  have ht2 : textOk (innerB r ++ [34]) = true := by
    unfold textOk
    rw [hid]
    simp [hh.2.1, hh.2.2]
  generalize innerB r = a at *
  have hq : (34 :: a ++ [34] : List UInt8) = 34 :: (a ++ [34]) := rfl
  have hs : (34 :: a ++ [34] : List UInt8) ≠ [] := by simp
  have he : errB (34 :: a ++ [34]) = 0 := by
    rw [hq, errB, if_neg (by decide), if_neg (by decide), if_pos rfl, if_pos ht2]
  have hl : lenB (34 :: a ++ [34]) = (34 :: a ++ [34]).length := by
    rw [hq, lenB, if_neg (by decide), if_pos rfl, hid]; simp
  have ht : textB (34 :: a ++ [34]) = a := by
    rw [hq, textB, if_neg (by decide), if_neg (by decide), if_pos rfl, hid]
  have hsk : skipB (34 :: a ++ [34]) = 0 := by
    rw [hq]; unfold skipB; rw [skipGo, if_neg (by decide), if_neg (by decide), if_neg (by decide)]
  have hd : (34 :: a ++ [34] : List UInt8).drop (34 :: a ++ [34]).length = [] := List.drop_eq_nil_of_le (Nat.le_refl _)
  have htok : tokB 0 (34 :: a ++ [34]) = ([tkB (34 :: a ++ [34]) 0], 0, 0) := by
    rw [tokB_ok hs he, hl, hd]
    have e0 : skipB ([] : List UInt8) = 0 := rfl
    simp only [e0, Nat.add_zero, hd, tokB_nil]
  have hsc : scanB (34 :: a ++ [34]) = ([tkB (34 :: a ++ [34]) 0, endTk (34 :: a ++ [34]).length], 0, 0) := by
    unfold scanB
    rw [if_neg (by have := hh.2.1; simp; omega), hsk, List.drop_zero, htok]
    rfl
  unfold txB
  rw [hsc]
  simp only [headTx, Bool.and_eq_true, decide_eq_true_eq]
  refine ⟨hh.2.1, by first | rfl | trivial, ?_⟩
  exact decide_eq_true (show textB (34 :: a ++ [34]) = a from ht)
theorem good_rt {S : List UInt8} {t : Tk} (h : Good S t) : RTk t := by
  have hi := h.is
  have hr := h.right
  cases hs : S.drop t.pl with
  | nil => exact absurd hs h.some
  | cons c r =>
    rw [hs] at hi hr
    refine ⟨fun _ => ?_, fun hk => ?_, fun hk => ?_⟩
    · have := numB_le (c :: r)
      have e : t.num = ((numB (c :: r) : Nat) : Int) := by rw [hi]; rfl
      rw [e]
      exact ⟨by omega, by omega⟩
    · rcases tk_cases (p := t.pl) (s := c :: r) (by simp) hr with q | q | q | q | q
      · rw [← hi, hk] at q; exact absurd q.1 (by decide)
      · rw [← hi] at q; exact q.2.1
      · rw [← hi, hk] at q; exact absurd q.1 (by decide)
      · rw [← hi, hk] at q; exact absurd q.1 (by decide)
      · rw [← hi, hk] at q; exact absurd q.1 (by decide)
    · have hk5 : kindB (c :: r) = 5 := by rw [hi] at hk; exact hk
      have hc : c = 34 := by
        rw [kindB] at hk5
        by_cases hd : isDig c = true
        · rw [if_pos hd] at hk5; cases hk5
        · rw [if_neg hd] at hk5
          by_cases hp : isPart c = true
          · rw [if_pos hp] at hk5
            split at hk5 <;> cases hk5
          · rw [if_neg hp] at hk5
            by_cases h34 : c = 34
            · exact h34
            · rw [if_neg h34] at hk5; cases hk5
      subst hc
      have ht : t.text = innerB r := by
        rw [hi]
        show textB (34 :: r) = innerB r
        rw [textB, if_neg (by decide), if_neg (by decide), if_pos rfl]
      rw [ht]
      exact tx_of (err_text hr).2
theorem end_rt (n : Nat) : RTk (endTk n) := ⟨(fun h => by cases h), (fun h => by cases h), (fun h => by cases h)⟩
theorem scan_rt {S : List UInt8} (h : (scanB S).2.2 = 0) : ∀ t ∈ (scanB S).1, RTk t := by
  obtain ⟨_, _, T, hT, hg, _⟩ := scan_good h
  intro t ht
  rw [hT] at ht
  rcases List.mem_append.1 ht with h | h
  · exact good_rt (hg t h)
  · rw [List.mem_singleton.1 h]; exact end_rt _
end Go.Proofs.YtpeldiibjhffiaaDoor
