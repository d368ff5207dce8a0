/-
  Items and sources: what is read of right tokens is right, and where it stands.
-/
import Derived.Test.YtnnmhmlebffacaaRgtT
import Derived.Test.YtnnmhmlebffacaaRgt3
namespace Go.Proofs.Ytnnmhmlebffacaa
open Go.RowKit Go.Deep

/-- An item is right where it is not too deep; it is no deeper than that. -/
structure IR (i : It) (n : Nat) : Prop where
  right : depF i.args ≤ 32 → itRight i = true
  deep : depF i.args ≤ n
section
variable {ex : List Tk → Rs Ex}
theorem rt_one (hf : RtF ex) {l : List Tk} (hl : ∀ u ∈ l, RTk u) {F : Fo} (hv : (oneG ex l).val = some F) (hm : (oneG ex l).many = []) : hdsR F = true ∧ lenF F = 1 ∧ depF F ≤ l.length := by
  obtain ⟨a, v1, m1, v2, m2, hr⟩ := many_bind hv hm
  have he : ofL [a] = F := Option.some.inj v2
  subst he
  obtain ⟨q1, q2⟩ := hf l hl a v1 m1
  exact ⟨hds_of [a] (fun e h => by rw [List.mem_singleton.1 h]; exact q1), rfl, dep_of [a] _ (fun e h => by rw [List.mem_singleton.1 h]; omega)⟩
theorem rt_both (hf : RtF ex) (sf : ∀ l, (ex l).rest <:+ l) {s : List UInt8} {l : List Tk} (hl : ∀ u ∈ l, RTk u) {F : Fo} (hv : (bothG ex s l).val = some F) (hm : (bothG ex s l).many = []) : hdsR F = true ∧ lenF F = 2 ∧ depF F ≤ l.length := by
  obtain ⟨a, v1, m1, v2, m2, _⟩ := many_bind hv hm
  obtain ⟨u, v3, m3, v4, m4, _⟩ := many_bind v2 m2
  obtain ⟨b, v5, m5, v6, m6, _⟩ := many_bind v4 m4
  have he : ofL [a, b] = F := Option.some.inj v6
  subst he
  have s1 := sf l
  have s2 := sign_suf s (ex l).rest
  obtain ⟨q1, q2⟩ := hf l hl a v1 m1
  obtain ⟨q3, q4⟩ := hf _ (rt_suf (s2.trans s1) hl) b v5 m5
  have l1 := s1.length_le
  have l2 := s2.length_le
  refine ⟨hds_of [a, b] (fun e h => ?_), rfl, dep_of [a, b] _ (fun e h => ?_)⟩
  · simp at h
    rcases h with rfl | rfl
    · exact q1
    · exact q3
  · simp at h
    rcases h with rfl | rfl
    · omega
    · omega
theorem rt_body (hf : RtF ex) (sf : ∀ l, (ex l).rest <:+ l) {k : Int} (hk : 1 ≤ k ∧ k ≤ 10) {l : List Tk} (hl : ∀ u ∈ l, RTk u) {b : List UInt8 × Fo} (hv : (bodyG ex k l).val = some b) (hm : (bodyG ex k l).many = []) (p : Int) : IR ⟨k, b.1, b.2, p⟩ l.length := by
  unfold bodyG at hv hm
  by_cases h1 : k = 1
  · rw [if_pos h1] at hv hm
    obtain ⟨s, v1, m1, v2, m2, _⟩ := many_bind hv hm
    obtain ⟨u, v3, m3, v4, m4, _⟩ := many_bind v2 m2
    obtain ⟨F, v5, m5, v6, m6, _⟩ := many_bind v4 m4
    have he : (s, F) = b := Option.some.inj v6
    subst he
    have sn : (nameG l).rest <:+ l := by
      cases l with
      | nil => exact List.suffix_refl _
      | cons t r =>
        show (if t.kind = 3 then pure' t.text r else wrong' (t :: r)).rest <:+ _
        split
        · exact List.suffix_cons _ _
        · exact List.suffix_refl _
    have s2 := sign_suf [61] (nameG l).rest
    have hle := (s2.trans sn).length_le
    obtain ⟨q1, q2, q3⟩ := rt_one hf (rt_suf (s2.trans sn) hl) v5 m5
    have hn : nameB s = true := by
      cases l with
      | nil => cases v1
      | cons t r =>
        have v1' : (if t.kind = 3 then pure' t.text r else wrong' (t :: r)).val = some s := v1
        split at v1'
        · rename_i h3
          have : t.text = s := Option.some.inj v1'
          rw [← this]; exact (hl t (by simp)).name h3
        · cases v1'
    refine ⟨fun hd => ?_, by show depF F ≤ _; omega⟩
    have hr := rgt_of F 32 q1 hd
    simp [itRight, h1, hn, q2, hr]
  · rw [if_neg h1] at hv hm
    by_cases h7 : k = 7
    · rw [if_pos h7] at hv hm
      obtain ⟨s, v1, m1, v2, m2, _⟩ := many_bind hv hm
      have he : (s, (BT.nil : Fo)) = b := Option.some.inj v2
      subst he
      have hw : isWayB s = true := by
        cases l with
        | nil => cases v1
        | cons t r =>
          have v1' : (if t.kind = 4 ∧ isWayB t.text = true then pure' t.text r else wrong' (t :: r)).val = some s := v1
          split at v1'
          · rename_i h3
            have : t.text = s := Option.some.inj v1'
            rw [← this]; exact h3.2
          · cases v1'
      exact ⟨fun _ => by simp [itRight, h7, hw, lenF], Nat.zero_le _⟩
    · rw [if_neg h7] at hv hm
      by_cases h8 : k = 8
      · rw [if_pos h8] at hv hm
        obtain ⟨F, v1, m1, v2, m2, _⟩ := many_bind hv hm
        have he : (([] : List UInt8), F) = b := Option.some.inj v2
        subst he
        obtain ⟨q1, q2, q3⟩ := rt_both hf sf hl v1 m1
        refine ⟨fun hd => ?_, q3⟩
        have hr := rgt_of F 32 q1 hd
        simp [itRight, h8, q2, hr]
      · rw [if_neg h8] at hv hm
        by_cases h5 : k = 5 ∨ k = 6 ∨ k = 9
        · rw [if_pos h5] at hv hm
          obtain ⟨F, v1, m1, v2, m2, _⟩ := many_bind hv hm
          have he : (([] : List UInt8), F) = b := Option.some.inj v2
          subst he
          obtain ⟨q1, q2, q3⟩ := rt_both hf sf hl v1 m1
          refine ⟨fun hd => ?_, q3⟩
          have hr := rgt_of F 32 q1 hd
          rcases h5 with rfl | rfl | rfl <;> simp [itRight, q2, hr]
        · rw [if_neg h5] at hv hm
          obtain ⟨F, v1, m1, v2, m2, _⟩ := many_bind hv hm
          have he : (([] : List UInt8), F) = b := Option.some.inj v2
          subst he
          obtain ⟨q1, q2, q3⟩ := rt_one hf hl v1 m1
          refine ⟨fun hd => ?_, q3⟩
          have hr := rgt_of F 32 q1 hd
          have hk2 : k = 2 ∨ k = 3 ∨ k = 4 ∨ k = 10 := by omega
          rcases hk2 with rfl | rfl | rfl | rfl <;> simp [itRight, q2, hr]
theorem rt_item (hf : RtF ex) (sf : ∀ l, (ex l).rest <:+ l) {t : Tk} {r : List Tk} (hl : ∀ u ∈ t :: r, RTk u) {i : It} (hv : (itemG ex (t :: r)).val = some i) (hm : (itemG ex (t :: r)).many = []) : IR i r.length ∧ i.pl = t.pl := by
  have e : itemG ex (t :: r) = if t.kind = 4 ∧ itemKindB t.text ≠ 0 then (closeG [59] (bodyG ex (itemKindB t.text) r)).map (fun b => (⟨itemKindB t.text, b.1, b.2, t.pl⟩ : It)) else wrong' (t :: r) := rfl
  rw [e] at hv hm
  by_cases hc : t.kind = 4 ∧ itemKindB t.text ≠ 0
  · rw [if_pos hc] at hv hm
    cases hx : (closeG [59] (bodyG ex (itemKindB t.text) r)).val with
    | none => have hv' : (closeG [59] (bodyG ex (itemKindB t.text) r)).val.map _ = some i := hv; rw [hx] at hv'; cases hv'
    | some b =>
      have hv' : (closeG [59] (bodyG ex (itemKindB t.text) r)).val.map _ = some i := hv
      rw [hx] at hv'
      have he := Option.some.inj hv'
      subst he
      obtain ⟨v1, m1, _⟩ := rt_close hx hm
      have hkr := kind_range t.text
      exact ⟨rt_body hf sf (by have := hc.2; omega) (rt_tail hl) v1 m1 _, rfl⟩
  · rw [if_neg hc] at hv; cases hv
/-- The items of a source: right where not too deep, not too many, each behind the one ahead, within the source. -/
theorem rt_source (hf : RtF ex) (sf : ∀ l, (ex l).rest <:+ l) : ∀ (m : Nat) (its : List It) (l : List Tk) (its' : List It), (∀ u ∈ l, RTk u) → (l.Pairwise fun a b => a.pl < b.pl) → l.length ≤ 4001 → its.length ≤ 100 → (∀ i ∈ its, IR i 4001) → (its.Pairwise fun a b => a.pl < b.pl) → (∀ i ∈ its, ∀ t ∈ l, i.pl < (t.pl : Int)) →
    (sourceGo ex m its l).val = some its' → (sourceGo ex m its l).many = [] → its'.length ≤ 100 ∧ (∀ i ∈ its', IR i 4001) ∧ (its'.Pairwise fun a b => a.pl < b.pl) ∧ (∀ i ∈ its', i ∈ its ∨ ∃ t ∈ l, i.pl = (t.pl : Int) ∧ t.kind ≠ 1)
  | 0, its, l, its', _, _, _, h1, h2, h3, _, hv, _ => by have : its = its' := Option.some.inj hv; subst this; exact ⟨h1, h2, h3, fun i hi => .inl hi⟩
  | _ + 1, its, [], its', _, _, _, h1, h2, h3, _, hv, _ => by have : its = its' := Option.some.inj hv; subst this; exact ⟨h1, h2, h3, fun i hi => .inl hi⟩
  | m + 1, its, t :: r, its', hl, hpw, hlen, h1, h2, h3, h4, hv, hm => by
    rw [sourceGo] at hv hm
    by_cases ht : t.kind = 1
    · rw [if_pos ht] at hv
      have : its = its' := Option.some.inj hv
      subst this
      exact ⟨h1, h2, h3, fun i hi => .inl hi⟩
    · rw [if_neg ht, note_pre] at hv hm
      have h9 : its.length ≠ 100 := fun e => by
        have hm' : (if decide (its.length = 100) = true then [plOf (t :: r)] else []) ++ ((itemG ex (t :: r)).bind fun i l2 => sourceGo ex m (its ++ [i]) l2).many = [] := hm
        rw [if_pos (by simp [e])] at hm'
        simp at hm'
      have hn : (if decide (its.length = 100) = true then [plOf (t :: r)] else []) = ([] : List Int) := if_neg (by simp [h9])
      rw [hn, pre_nil] at hv hm
      obtain ⟨i, v1, m1, v2, m2, _⟩ := many_bind hv hm
      obtain ⟨q1, q2⟩ := rt_item hf sf hl v1 m1
      have hsuf := item_suf sf v1
      rw [List.pairwise_cons] at hpw
      have hsub := hsuf.sublist
      have h := rt_source hf sf m (its ++ [i]) (itemG ex (t :: r)).rest its' (rt_suf hsuf (rt_tail hl)) (hpw.2.sublist hsub) (by have := hsuf.length_le; simp at hlen; omega) (by simp; omega)
        (fun j hj => by
          rcases List.mem_append.1 hj with h | h
          · exact h2 j h
          · rw [List.mem_singleton.1 h]; exact ⟨q1.right, by have := q1.deep; simp at hlen; omega⟩)
        (by
          rw [List.pairwise_append]
          refine ⟨h3, by simp, fun a ha b hb => ?_⟩
          rw [List.mem_singleton.1 hb, q2]
          exact h4 a ha t (by simp))
        (fun j hj u hu => by
          rcases List.mem_append.1 hj with h | h
          · exact h4 j h u (by simp [hsub.subset hu])
          · rw [List.mem_singleton.1 h, q2]
            have := hpw.1 u (hsub.subset hu)
            omega)
        v2 m2
      refine ⟨h.1, h.2.1, h.2.2.1, fun j hj => ?_⟩
      rcases h.2.2.2 j hj with h | ⟨u, hu, hp⟩
      · rcases List.mem_append.1 h with h | h
        · exact .inl h
        · rw [List.mem_singleton.1 h]; exact .inr ⟨t, by simp, q2, ht⟩
      · exact .inr ⟨u, by simp [hsub.subset hu], hp⟩
end
end Go.Proofs.Ytnnmhmlebffacaa
