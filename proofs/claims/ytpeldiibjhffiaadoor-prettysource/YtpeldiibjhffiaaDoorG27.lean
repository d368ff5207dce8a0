/-
  Items and sources: what is read of right tokens is right, and where it stands. What Parse takes is right; where a fault stands.
-/
import Derived.Test.YtpeldiibjhffiaaDoorG26
import Derived.Test.YtpeldiibjhffiaaDoorG25
namespace Go.Proofs.YtpeldiibjhffiaaDoor
open Go.RowKit Go.Deep

/-- An item is right where it is not too deep; it is no deeper than that. -/
structure IR (i : It) (n : Nat) : Prop where
  right : depF i.args ≤ 32 → itRight i = true
  deep : depF i.args ≤ n
section
variable {ex : List Tk → Rs Ex}
theorem rt_one (hf : RtF ex) {l : List Tk} (hl : ∀ u ∈ l, RTk u) {F : Fo} (hv : (oneG ex l).val = some F) (hm : (oneG ex l).many = []) : hdsR F = true ∧ lenF F = 1 ∧ depF F ≤ l.length := by
  obtain ⟨a, v1, m1, v2, m2, hr⟩ := many_bind hv hm
  have he : ofL [a] = F := Option.some.inj v2
  subst he
  obtain ⟨q1, q2⟩ := hf l hl a v1 m1
  exact ⟨hds_of [a] (fun e h => by rw [List.mem_singleton.1 h]; exact q1), rfl, dep_of [a] _ (fun e h => by rw [List.mem_singleton.1 h]; omega)⟩
theorem rt_both (hf : RtF ex) (sf : ∀ l, (ex l).rest <:+ l) {s : List UInt8} {l : List Tk} (hl : ∀ u ∈ l, RTk u) {F : Fo} (hv : (bothG ex s l).val = some F) (hm : (bothG ex s l).many = []) : hdsR F = true ∧ lenF F = 2 ∧ depF F ≤ l.length := by
  obtain ⟨a, v1, m1, v2, m2, _⟩ := many_bind hv hm
  obtain ⟨u, v3, m3, v4, m4, _⟩ := many_bind v2 m2
  obtain ⟨b, v5, m5, v6, m6, _⟩ := many_bind v4 m4
  have he : ofL [a, b] = F := Option.some.inj v6
  subst he
  have s1 := sf l
  have s2 := sign_suf s (ex l).rest
  obtain ⟨q1, q2⟩ := hf l hl a v1 m1
  obtain ⟨q3, q4⟩ := hf _ (rt_suf (s2.trans s1) hl) b v5 m5
  have l1 := s1.length_le
  have l2 := s2.length_le
  refine ⟨hds_of [a, b] (fun e h => ?_), rfl, dep_of [a, b] _ (fun e h => ?_)⟩
  · simp at h
    rcases h with rfl | rfl
    · exact q1
    · exact q3
  · simp at h
    rcases h with rfl | rfl
    · omega
    · omega
theorem rt_body (hf : RtF ex) (sf : ∀ l, (ex l).rest <:+ l) {k : Int} (hk : 1 ≤ k ∧ k ≤ 10) {l : List Tk} (hl : ∀ u ∈ l, RTk u) {b : List UInt8 × Fo} (hv : (bodyG ex k l).val = some b) (hm : (bodyG ex k l).many = []) (p : Int) : IR ⟨k, b.1, b.2, p⟩ l.length := by
  unfold bodyG at hv hm
  by_cases h1 : k = 1
  · rw [if_pos h1] at hv hm
    obtain ⟨s, v1, m1, v2, m2, _⟩ := many_bind hv hm
    obtain ⟨u, v3, m3, v4, m4, _⟩ := many_bind v2 m2
    obtain ⟨F, v5, m5, v6, m6, _⟩ := many_bind v4 m4
    have he : (s, F) = b := Option.some.inj v6
    subst he
    have sn : (nameG l).rest <:+ l := by
      cases l with
      | nil => exact List.suffix_refl _
      | cons t r =>
        show (if t.kind = 3 then pure' t.text r else wrong' (t :: r)).rest <:+ _
        split
        · exact List.suffix_cons _ _
        · exact List.suffix_refl _
    have s2 := sign_suf [61] (nameG l).rest
    have hle := (s2.trans sn).length_le
    obtain ⟨q1, q2, q3⟩ := rt_one hf (rt_suf (s2.trans sn) hl) v5 m5
    have hn : nameB s = true := by
      cases l with
      | nil => cases v1
      | cons t r =>
        have v1' : (if t.kind = 3 then pure' t.text r else wrong' (t :: r)).val = some s := v1
        split at v1'
        · rename_i h3
          have : t.text = s := Option.some.inj v1'
          rw [← this]; exact (hl t (by simp)).name h3
        · cases v1'
    refine ⟨fun hd => ?_, by show depF F ≤ _; omega⟩
    have hr := rgt_of F 32 q1 hd
    simp [itRight, h1, hn, q2, hr]
  · rw [if_neg h1] at hv hm
    by_cases h7 : k = 7
    · rw [if_pos h7] at hv hm
      obtain ⟨s, v1, m1, v2, m2, _⟩ := many_bind hv hm
      have he : (s, (BT.nil : Fo)) = b := Option.some.inj v2
      subst he
      have hw : isWayB s = true := by
        cases l with
        | nil => cases v1
        | cons t r =>
          have v1' : (if t.kind = 4 ∧ isWayB t.text = true then pure' t.text r else wrong' (t :: r)).val = some s := v1
          split at v1'
          · rename_i h3
            have : t.text = s := Option.some.inj v1'
            rw [← this]; exact h3.2
          · cases v1'
      exact ⟨fun _ => by simp [itRight, h7, hw, lenF], Nat.zero_le _⟩
    · rw [if_neg h7] at hv hm
      by_cases h8 : k = 8
      · rw [if_pos h8] at hv hm
        obtain ⟨F, v1, m1, v2, m2, _⟩ := many_bind hv hm
        have he : (([] : List UInt8), F) = b := Option.some.inj v2
        subst he
        obtain ⟨q1, q2, q3⟩ := rt_both hf sf hl v1 m1
        refine ⟨fun hd => ?_, q3⟩
        have hr := rgt_of F 32 q1 hd
        simp [itRight, h8, q2, hr]
      · rw [if_neg h8] at hv hm
        by_cases h5 : k = 5 ∨ k = 6 ∨ k = 9
        · rw [if_pos h5] at hv hm
          obtain ⟨F, v1, m1, v2, m2, _⟩ := many_bind hv hm
          have he : (([] : List UInt8), F) = b := Option.some.inj v2
          subst he
          obtain ⟨q1, q2, q3⟩ := rt_both hf sf hl v1 m1
          refine ⟨fun hd => ?_, q3⟩
          have hr := rgt_of F 32 q1 hd
          rcases h5 with rfl | rfl | rfl <;> simp [itRight, q2, hr]
        · rw [if_neg h5] at hv hm
          obtain ⟨F, v1, m1, v2, m2, _⟩ := many_bind hv hm
          have he : (([] : List UInt8), F) = b := Option.some.inj v2
          subst he
          obtain ⟨q1, q2, q3⟩ := rt_one hf hl v1 m1
          refine ⟨fun hd => ?_, q3⟩
          have hr := rgt_of F 32 q1 hd
          have hk2 : k = 2 ∨ k = 3 ∨ k = 4 ∨ k = 10 := by omega
          rcases hk2 with rfl | rfl | rfl | rfl <;> simp [itRight, q2, hr]
theorem rt_item (hf : RtF ex) (sf : ∀ l, (ex l).rest <:+ l) {t : Tk} {r : List Tk} (hl : ∀ u ∈ t :: r, RTk u) {i : It} (hv : (itemG ex (t :: r)).val = some i) (hm : (itemG ex (t :: r)).many = []) : IR i r.length ∧ i.pl = t.pl := by
  have e : itemG ex (t :: r) = if t.kind = 4 ∧ itemKindB t.text ≠ 0 then (closeG [59] (bodyG ex (itemKindB t.text) r)).map (fun b => (⟨itemKindB t.text, b.1, b.2, t.pl⟩ : It)) else wrong' (t :: r) := rfl
  rw [e] at hv hm
  by_cases hc : t.kind = 4 ∧ itemKindB t.text ≠ 0
  · rw [if_pos hc] at hv hm
    cases hx : (closeG [59] (bodyG ex (itemKindB t.text) r)).val with
    | none => have hv' : (closeG [59] (bodyG ex (itemKindB t.text) r)).val.map _ = some i := hv; rw [hx] at hv'; cases hv'
    | some b =>
      have hv' : (closeG [59] (bodyG ex (itemKindB t.text) r)).val.map _ = some i := hv
      rw [hx] at hv'
      have he := Option.some.inj hv'
      subst he
      obtain ⟨v1, m1, _⟩ := rt_close hx hm
      have hkr := kind_range t.text
      exact ⟨rt_body hf sf (by have := hc.2; omega) (rt_tail hl) v1 m1 _, rfl⟩
  · rw [if_neg hc] at hv; cases hv
/-- The items of a source: right where not too deep, not too many, each behind the one ahead, within the source. -/
theorem rt_source (hf : RtF ex) (sf : ∀ l, (ex l).rest <:+ l) : ∀ (m : Nat) (its : List It) (l : List Tk) (its' : List It), (∀ u ∈ l, RTk u) → (l.Pairwise fun a b => a.pl < b.pl) → l.length ≤ 4001 → its.length ≤ 100 → (∀ i ∈ its, IR i 4001) → (its.Pairwise fun a b => a.pl < b.pl) → (∀ i ∈ its, ∀ t ∈ l, i.pl < (t.pl : Int)) →
    (sourceGo ex m its l).val = some its' → (sourceGo ex m its l).many = [] → its'.length ≤ 100 ∧ (∀ i ∈ its', IR i 4001) ∧ (its'.Pairwise fun a b => a.pl < b.pl) ∧ (∀ i ∈ its', i ∈ its ∨ ∃ t ∈ l, i.pl = (t.pl : Int) ∧ t.kind ≠ 1)
  | 0, its, l, its', _, _, _, h1, h2, h3, _, hv, _ => by have : its = its' := Option.some.inj hv; subst this; exact ⟨h1, h2, h3, fun i hi => .inl hi⟩
  | _ + 1, its, [], its', _, _, _, h1, h2, h3, _, hv, _ => by have : its = its' := Option.some.inj hv; subst this; exact ⟨h1, h2, h3, fun i hi => .inl hi⟩
  | m + 1, its, t :: r, its', hl, hpw, hlen, h1, h2, h3, h4, hv, hm => by
    rw [sourceGo] at hv hm
    by_cases ht : t.kind = 1
    · rw [if_pos ht] at hv
      have : its = its' := Option.some.inj hv
      subst this
      exact ⟨h1, h2, h3, fun i hi => .inl hi⟩
    · rw [if_neg ht, note_pre] at hv hm
      have h9 : its.length ≠ 100 := fun e => by
        have hm' : (if decide (its.length = 100) = true then [plOf (t :: r)] else []) ++ ((itemG ex (t :: r)).bind fun i l2 => sourceGo ex m (its ++ [i]) l2).many = [] := hm
        rw [if_pos (by simp [e])] at hm'
        simp at hm'
      have hn : (if decide (its.length = 100) = true then [plOf (t :: r)] else []) = ([] : List Int) := if_neg (by simp [h9])
      rw [hn, pre_nil] at hv hm
      obtain ⟨i, v1, m1, v2, m2, _⟩ := many_bind hv hm
      obtain ⟨q1, q2⟩ := rt_item hf sf hl v1 m1
      have hsuf := item_suf sf v1
      rw [List.pairwise_cons] at hpw
      have hsub := hsuf.sublist
      have h := rt_source hf sf m (its ++ [i]) (itemG ex (t :: r)).rest its' (rt_suf hsuf (rt_tail hl)) (hpw.2.sublist hsub) (by have := hsuf.length_le; simp at hlen; omega) (by simp; omega)
        (fun j hj => by
          rcases List.mem_append.1 hj with h | h
          · exact h2 j h
          · rw [List.mem_singleton.1 h]; exact ⟨q1.right, by have := q1.deep; simp at hlen; omega⟩)
        (by
          rw [List.pairwise_append]
          refine ⟨h3, by simp, fun a ha b hb => ?_⟩
          rw [List.mem_singleton.1 hb, q2]
          exact h4 a ha t (by simp))
        (fun j hj u hu => by
          rcases List.mem_append.1 hj with h | h
          · exact h4 j h u (by simp [hsub.subset hu])
          · rw [List.mem_singleton.1 h, q2]
            have := hpw.1 u (hsub.subset hu)
            omega)
        v2 m2
      refine ⟨h.1, h.2.1, h.2.2.1, fun j hj => ?_⟩
      rcases h.2.2.2 j hj with h | ⟨u, hu, hp⟩
      · rcases List.mem_append.1 h with h | h
        · exact .inl h
        · rw [List.mem_singleton.1 h]; exact .inr ⟨t, by simp, q2, ht⟩
      · exact .inr ⟨u, by simp [hsub.subset hu], hp⟩
end
end Go.Proofs.YtpeldiibjhffiaaDoor
namespace Go.Proofs.YtpeldiibjhffiaaDoor
open Go.RowKit Go.Deep

/-- Places of what is too many are places of tokens. -/
def MI {α : Type} (x : Rs α) (l : List Tk) : Prop := ∀ a ∈ x.many, a = 0 ∨ ∃ t ∈ l, a = (t.pl : Int)
theorem mi_sub {α : Type} {x : Rs α} {l l' : List Tk} (h : MI x l) (hs : l <:+ l') : MI x l' := fun a ha => (h a ha).imp id fun ⟨t, ht, e⟩ => ⟨t, hs.subset ht, e⟩
theorem mi_nil {α : Type} {x : Rs α} {l : List Tk} (h : x.many = []) : MI x l := fun a ha => by rw [h] at ha; cases ha
theorem mi_bind {α β : Type} {x : Rs α} {f : α → List Tk → Rs β} {l : List Tk} (h : MI x l) (hs : x.rest <:+ l) (hf : ∀ a, MI (f a x.rest) x.rest) : MI (x.bind f) l := by
  cases hx : x.val with
  | none => rw [bind_none _ hx]; exact h
  | some a =>
    rw [bind_pre _ hx]
    intro b hb
    have hb' : b ∈ x.many ++ (f a x.rest).many := hb
    rcases List.mem_append.1 hb' with hb | hb
    · exact h b hb
    · exact mi_sub (hf a) hs b hb
theorem mi_note {α : Type} {c : Bool} {r l : List Tk} {x : Rs α} (h : MI x l) (hs : r <:+ l) : MI (note c r x) l := by
  cases c
  · exact h
  · intro b hb
    rcases List.mem_cons.1 (show b ∈ plOf r :: x.many from hb) with rfl | hb
    · cases r with
      | nil => exact .inl rfl
      | cons t r => exact .inr ⟨t, hs.subset (by simp), rfl⟩
    · exact h b hb
theorem mi_sign (s : List UInt8) (l : List Tk) : MI (signG s l) l := mi_nil (sign_many s l)
theorem mi_close {α : Type} {s : List UInt8} {x : Rs α} {l : List Tk} (h : MI x l) (hs : x.rest <:+ l) : MI (closeG s x) l :=
  mi_bind h hs fun _ => mi_bind (mi_sign s _) (sign_suf s _) fun _ => mi_nil rfl
section
variable {fac : List Tk → Rs Ex}
theorem mi_termGo (hf : ∀ l, MI (fac l) l) (sf : ∀ l, (fac l).rest <:+ l) : ∀ (m : Nat) (e : Ex) (l : List Tk), MI (termGo fac m e l) l
  | 0, e, l => mi_nil rfl
  | _ + 1, e, [] => mi_nil rfl
  | m + 1, e, t :: r => by
    rw [termGo]
    split
    · exact mi_sub (mi_bind (hf r) (sf r) fun a => mi_termGo hf sf m _ _) (List.suffix_cons _ _)
    · exact mi_nil rfl
theorem mi_term (hf : ∀ l, MI (fac l) l) (sf : ∀ l, (fac l).rest <:+ l) (l : List Tk) : MI (termG fac l) l := mi_bind (hf l) (sf l) fun _ => mi_termGo hf sf _ _ _
theorem mi_exprGo (hf : ∀ l, MI (fac l) l) (sf : ∀ l, (fac l).rest <:+ l) : ∀ (m : Nat) (e : Ex) (l : List Tk), MI (exprGo fac m e l) l
  | 0, e, l => mi_nil rfl
  | _ + 1, e, [] => mi_nil rfl
  | m + 1, e, t :: r => by
    rw [exprGo]
    split
    · exact mi_sub (mi_bind (hf r) (sf r) fun a => mi_exprGo hf sf m _ _) (List.suffix_cons _ _)
    · exact mi_nil rfl
theorem mi_expr (hf : ∀ l, MI (fac l) l) (sf : ∀ l, (fac l).rest <:+ l) (l : List Tk) : MI (exprG fac l) l := mi_bind (mi_term hf sf l) (term_suf sf l) fun _ => mi_exprGo (mi_term hf sf) (term_suf sf) _ _ _
theorem mi_kidsGo (hf : ∀ l, MI (fac l) l) (sf : ∀ l, (fac l).rest <:+ l) : ∀ (m : Nat) (ks : List Ex) (l : List Tk), MI (kidsGo fac m ks l) l
  | 0, e, l => mi_nil rfl
  | _ + 1, e, [] => mi_nil rfl
  | m + 1, e, t :: r => by
    rw [kidsGo]
    split
    · exact mi_sub (mi_note (mi_bind (hf r) (sf r) fun a => mi_kidsGo hf sf m _ _) (List.suffix_refl _)) (List.suffix_cons _ _)
    · exact mi_nil rfl
theorem mi_kids (hf : ∀ l, MI (fac l) l) (sf : ∀ l, (fac l).rest <:+ l) (l : List Tk) : MI (kidsG fac l) l :=
  mi_bind (mi_sign _ l) (sign_suf _ l) fun _ => mi_close (mi_bind (hf _) (sf _) fun _ => mi_kidsGo hf sf _ _ _) (bind_suf (sf _) fun _ => kidsGo_suf sf _ _ _)
end
theorem mi_map {α β : Type} {x : Rs α} {f : α → β} {l : List Tk} (h : MI x l) : MI (x.map f) l := h
theorem mi_fac : ∀ (n : Nat) (l : List Tk), MI (facN n l) l
  | 0, l => mi_nil rfl
  | _ + 1, [] => mi_nil rfl
  | n + 1, t :: r => by
    have h := mi_fac n
    have s := fac_suf n
    rw [facN]
    repeat' split
    all_goals first
      | exact mi_nil rfl
      | exact mi_sub (mi_map (h r)) (List.suffix_cons _ _)
      | exact mi_sub (mi_close (mi_expr h s r) (expr_suf s r)) (List.suffix_cons _ _)
      | exact mi_sub (mi_map (mi_kids (mi_expr h s) (expr_suf s) r)) (List.suffix_cons _ _)
section
variable {ex : List Tk → Rs Ex}
theorem name_many (l : List Tk) : (nameG l).many = [] := by
  cases l with
  | nil => rfl
  | cons t r => show (if t.kind = 3 then pure' t.text r else wrong' (t :: r)).many = []; split <;> rfl
theorem way_many (l : List Tk) : (wayG l).many = [] := by
  cases l with
  | nil => rfl
  | cons t r => show (if t.kind = 4 ∧ isWayB t.text = true then pure' t.text r else wrong' (t :: r)).many = []; split <;> rfl
theorem name_suf' (l : List Tk) : (nameG l).rest <:+ l := by
  obtain ⟨p, h, _⟩ := name_sufN l
  exact ⟨p, h.symm⟩
theorem way_suf' (l : List Tk) : (wayG l).rest <:+ l := by
  obtain ⟨p, h, _⟩ := way_sufN l
  exact ⟨p, h.symm⟩
theorem mi_one (hf : ∀ l, MI (ex l) l) (sf : ∀ l, (ex l).rest <:+ l) (l : List Tk) : MI (oneG ex l) l := mi_bind (hf l) (sf l) fun _ => mi_nil rfl
theorem mi_both (hf : ∀ l, MI (ex l) l) (sf : ∀ l, (ex l).rest <:+ l) (s : List UInt8) (l : List Tk) : MI (bothG ex s l) l :=
  mi_bind (hf l) (sf l) fun _ => mi_bind (mi_sign s _) (sign_suf s _) fun _ => mi_bind (hf _) (sf _) fun _ => mi_nil rfl
theorem one_suf' (sf : ∀ l, (ex l).rest <:+ l) (l : List Tk) : (oneG ex l).rest <:+ l := bind_suf (sf l) fun _ => List.suffix_refl _
theorem both_suf' (sf : ∀ l, (ex l).rest <:+ l) (s : List UInt8) (l : List Tk) : (bothG ex s l).rest <:+ l := bind_suf (sf l) fun _ => bind_suf (sign_suf s _) fun _ => bind_suf (sf _) fun _ => List.suffix_refl _
theorem mi_body (hf : ∀ l, MI (ex l) l) (sf : ∀ l, (ex l).rest <:+ l) (k : Int) (l : List Tk) : MI (bodyG ex k l) l := by
  unfold bodyG
  repeat' split
  · exact mi_bind (mi_nil (name_many l)) (name_suf' l) fun _ => mi_bind (mi_sign _ _) (sign_suf _ _) fun _ => mi_bind (mi_one hf sf _) (one_suf' sf _) fun _ => mi_nil rfl
  · exact mi_bind (mi_nil (way_many l)) (way_suf' l) fun _ => mi_nil rfl
  · exact mi_bind (mi_both hf sf _ l) (both_suf' sf _ l) fun _ => mi_nil rfl
  · exact mi_bind (mi_both hf sf _ l) (both_suf' sf _ l) fun _ => mi_nil rfl
  · exact mi_bind (mi_one hf sf l) (one_suf' sf l) fun _ => mi_nil rfl
theorem mi_item (hf : ∀ l, MI (ex l) l) (sf : ∀ l, (ex l).rest <:+ l) (l : List Tk) : MI (itemG ex l) l := by
  cases l with
  | nil => exact mi_nil rfl
  | cons t r =>
    show MI (if t.kind = 4 ∧ itemKindB t.text ≠ 0 then (closeG [59] (bodyG ex (itemKindB t.text) r)).map (fun b => (⟨itemKindB t.text, b.1, b.2, t.pl⟩ : It)) else wrong' (t :: r)) (t :: r)
    split
    · exact mi_sub (mi_map (mi_close (mi_body hf sf _ r) (body_suf sf _ r))) (List.suffix_cons _ _)
    · exact mi_nil rfl
theorem item_suf' (sf : ∀ l, (ex l).rest <:+ l) (l : List Tk) : (itemG ex l).rest <:+ l := by
  cases l with
  | nil => exact List.suffix_refl _
  | cons t r =>
    show (if t.kind = 4 ∧ itemKindB t.text ≠ 0 then (closeG [59] (bodyG ex (itemKindB t.text) r)).map (fun b => (⟨itemKindB t.text, b.1, b.2, t.pl⟩ : It)) else wrong' (t :: r)).rest <:+ _
    split
    · exact (close_suf (body_suf sf _ r)).trans (List.suffix_cons _ _)
    · exact List.suffix_refl _
theorem mi_source (hf : ∀ l, MI (ex l) l) (sf : ∀ l, (ex l).rest <:+ l) : ∀ (m : Nat) (its : List It) (l : List Tk), MI (sourceGo ex m its l) l ∧ (sourceGo ex m its l).rest <:+ l
  | 0, its, l => ⟨mi_nil rfl, List.suffix_refl _⟩
  | _ + 1, its, [] => ⟨mi_nil rfl, List.suffix_refl _⟩
  | m + 1, its, t :: r => by
    rw [sourceGo]
    split
    · exact ⟨mi_nil rfl, List.suffix_refl _⟩
    · exact ⟨mi_note (mi_bind (mi_item hf sf _) (item_suf' sf _) fun a => (mi_source hf sf m _ _).1) (List.suffix_refl _), note_suf (bind_suf (item_suf' sf _) fun a => (mi_source hf sf m _ _).2)⟩
end
/-- All expressions of a list are as deep as may be. -/
def okArgs : Fo → Prop
  | .nil => True
  | .node _ _ _ k r => (1 ≤ wrap64 (depW k + 1) ∧ wrap64 (depW k + 1) ≤ 32) ∧ okArgs r
theorem ok_args : ∀ (F : Fo), depF F ≤ 32 → okArgs F
  | .nil, _ => trivial
  | .node _ _ _ k r, h => by
    simp only [depF] at h
    have h1 := depW_eq k (by omega)
    refine ⟨?_, ok_args r (by omega)⟩
    rw [h1, wrap_small (by omega) (by omega)]
    omega
theorem deep_none : ∀ (L : List It), (deepR L).1 = 0 → ∀ i ∈ L, depW i.args ≤ 32
  | [], _, i, hi => by cases hi
  | j :: L, h, i, hi => by
    rw [deepR_cons] at h
    by_cases hd : deepW j = true
    · rw [if_pos hd] at h; cases h
    · rw [if_neg hd] at h
      rcases List.mem_cons.1 hi with rfl | hi
      · unfold deepW at hd; simp at hd; exact hd
      · exact deep_none L h i hi
theorem deep_some : ∀ (L : List It), (deepR L).1 ≠ 0 → ∃ i ∈ L, (deepR L).2 = i.pl
  | [], h => absurd rfl h
  | j :: L, h => by
    rw [deepR_cons] at h ⊢
    by_cases hd : deepW j = true
    · rw [if_pos hd]; exact ⟨j, by simp, rfl⟩
    · rw [if_neg hd] at h ⊢
      obtain ⟨i, hi, e⟩ := deep_some L h
      exact ⟨i, by simp [hi], e⟩
theorem parse_right (S : List UInt8) : ((parseW S).2.1 ≠ 0 → (parseW S).1 = [] ∧ 0 ≤ (parseW S).2.2 ∧ (parseW S).2.2 ≤ S.length) ∧
    ((parseW S).2.1 = 0 → (parseW S).2.2 = 0 ∧ treeRight (parseW S).1 = true ∧ (parseW S).1.length ≤ 100 ∧ ((parseW S).1.Pairwise fun a b => a.pl < b.pl) ∧ ∀ i ∈ (parseW S).1, 0 ≤ i.pl ∧ i.pl < S.length ∧ okArgs i.args) := by
  unfold parseW
  by_cases hz : (scanB S).2.2 = 0
  · rw [if_neg (by simpa using hz)]
    obtain ⟨_, _, T, hT, hg, hpw⟩ := scan_good hz
    have hrt := scan_rt hz
    have hfew := scan_few S
    have hle : ∀ t ∈ (scanB S).1, t.pl ≤ S.length ∧ (t.kind ≠ 1 → t.pl < S.length) := fun t ht => by
      rw [hT] at ht
      rcases List.mem_append.1 ht with h | h
      · have := (hg t h).lt; exact ⟨by omega, fun _ => this⟩
      · rw [List.mem_singleton.1 h]; exact ⟨Nat.le_refl _, fun h => absurd rfl h⟩
    obtain ⟨hmi, hsf⟩ := mi_source (mi_expr (mi_fac mx) (fac_suf mx)) (expr_suf (fac_suf mx)) mx [] (scanB S).1
    have hsrc := rt_source (rt_expr (rt_fac mx) (fac_suf mx)) (expr_suf (fac_suf mx)) mx [] (scanB S).1
    have hX : sourceG (scanB S).1 = sourceGo (exprG (facN mx)) mx [] (scanB S).1 := rfl
    rw [hX]
    generalize sourceGo (exprG (facN mx)) mx [] (scanB S).1 = x at *
    unfold endW
    cases hx : x.val with
    | none =>
      refine ⟨fun _ => ⟨rfl, ?_⟩, fun h => by cases h⟩
      simp only
      cases hr : x.rest with
      | nil => exact ⟨Int.le_refl _, by simp [plOf]⟩
      | cons t r =>
        have := (hle t (hsf.subset (by rw [hr]; simp))).1
        show 0 ≤ (t.pl : Int) ∧ (t.pl : Int) ≤ S.length
        omega
    | some its =>
      simp only
      by_cases h1 : (flt x.many (0, 0)).1 = 0
      · rw [if_neg (by simpa using h1)]
        have hm : x.many = [] := by
          cases hm : x.many with
          | nil => rfl
          | cons a r => rw [hm] at h1; cases h1
        obtain ⟨p1, p2, p3, p4⟩ := hsrc its hrt hpw (by omega) (by simp) (fun i hi => by cases hi) List.Pairwise.nil (fun i hi => by cases hi) hx hm
        have hpl : ∀ i ∈ its, 0 ≤ i.pl ∧ i.pl < S.length := fun i hi => by
          rcases p4 i hi with h | ⟨t, ht, e, hk⟩
          · cases h
          · have := (hle t ht).2 hk
            rw [e]; omega
        by_cases h2 : (deepR its).1 = 0
        · rw [if_neg (by simpa using h2)]
          have hdep : ∀ i ∈ its, depF i.args ≤ 32 := fun i hi => by
            have h3 := deep_none its h2 i hi
            have h4 := (p2 i hi).deep
            rw [depW_eq _ (by omega)] at h3
            omega
          refine ⟨fun h => absurd rfl h, fun _ => ⟨rfl, ?_, p1, p3, fun i hi => ⟨(hpl i hi).1, (hpl i hi).2, ok_args _ (hdep i hi)⟩⟩⟩
          show treeRight its = true
          unfold treeRight
          rw [Bool.and_eq_true, List.all_eq_true]
          exact ⟨by simpa using p1, fun i hi => (p2 i hi).right (hdep i hi)⟩
        · rw [if_pos (by simpa using h2)]
          refine ⟨fun _ => ⟨rfl, ?_⟩, fun h => absurd h h2⟩
          obtain ⟨i, hi, e⟩ := deep_some its h2
          have := hpl i hi
          show 0 ≤ (deepR its).2 ∧ (deepR its).2 ≤ S.length
          rw [e]; omega
      · rw [if_pos (by simpa using h1)]
        refine ⟨fun _ => ⟨rfl, ?_⟩, fun h => absurd h h1⟩
        show 0 ≤ (flt x.many (0, 0)).2 ∧ (flt x.many (0, 0)).2 ≤ S.length
        cases hm : x.many with
        | nil => rw [hm] at h1; exact absurd rfl h1
        | cons a r =>
          show 0 ≤ a ∧ a ≤ S.length
          rcases hmi a (by rw [hm]; simp) with rfl | ⟨t, ht, e⟩
          · omega
          · have := (hle t ht).1
            rw [e]; omega
  · rw [if_pos (by simpa using hz)]
    refine ⟨fun _ => ⟨rfl, ?_⟩, fun h => absurd h hz⟩
    have := scan_place S
    show 0 ≤ ((scanB S).2.1 : Int) ∧ ((scanB S).2.1 : Int) ≤ S.length
    omega
end Go.Proofs.YtpeldiibjhffiaaDoor
