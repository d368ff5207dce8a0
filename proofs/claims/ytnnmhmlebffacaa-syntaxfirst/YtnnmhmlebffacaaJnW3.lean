/-
  A source up to the token behind what is wrong, and anything behind it: it is wrong at the same place.
-/
import Derived.Test.YtnnmhmlebffacaaJnW2
namespace Go.Proofs.Ytnnmhmlebffacaa
open Go.RowKit Go.Deep

section
variable {ex : List Tk → Rs Ex}
theorem loc_item (hf : LocC ex) (sf : Sf ex) : LocC (itemG ex) := by
  intro p c x y a hv hr
  obtain ⟨t, ht⟩ := first_tk p c
  have e : ∀ r, itemG ex (t :: r) = if t.kind = 4 ∧ itemKindB t.text ≠ 0 then (closeG [59] (bodyG ex (itemKindB t.text) r)).map (fun b => (⟨itemKindB t.text, b.1, b.2, t.pl⟩ : It)) else wrong' (t :: r) := fun _ => rfl
  by_cases h : t.kind = 4 ∧ itemKindB t.text ≠ 0
  · exact loc_head (loc_map (fun b => (⟨itemKindB t.text, b.1, b.2, t.pl⟩ : It)) (loc_close [59] (loc_body hf sf _) (body_sufN sf _)).c) (fun r => close_sufN (body_sufN sf _ r)) (fun r => by rw [e, if_pos h]) p c x y a ht hv hr
  · rw [ht x, e, if_neg h] at hv; cases hv
theorem source_sufN (sf : Sf ex) : ∀ (m : Nat) (its : List It), Sf (sourceGo ex m its)
  | 0, its, l => sufN_refl _
  | _ + 1, its, [] => sufN_refl _
  | m + 1, its, t :: r => by
    rw [sourceGo]
    split
    · exact sufN_refl _
    · exact note_sufN (bind_sufN (item_sufN sf _) fun i => source_sufN sf m _ _)
theorem locW_source (hf : LocC ex) (wf : LocW ex) (sf : Sf ex) : ∀ (m : Nat) (its : List It), LocW (sourceGo ex m its)
  | 0, its => locW_pure its
  | m + 1, its => by
    intro p c x y hv hr
    obtain ⟨t, ht⟩ := first_tk p c
    by_cases h : t.kind = 1
    · rw [ht x, sourceGo, if_pos h] at hv; cases hv
    · have e : ∀ q, sourceGo ex (m + 1) its (p ++ c :: q) = pre (if decide (its.length = 100) = true then [plOf (p ++ c :: q)] else []) ((itemG ex (p ++ c :: q)).bind fun i l2 => sourceGo ex m (its ++ [i]) l2) := fun q => by
        rw [ht q, sourceGo, if_neg h, note_pre]
      rw [e] at hv hr ⊢
      exact locW_bind (loc_item hf sf) (locW_item hf wf sf) (item_sufN sf) (fun i => locW_source hf wf sf m (its ++ [i])) (fun i => source_sufN sf m (its ++ [i])) p c x y hv hr
end
theorem exprN_is (n : Nat) : exprN n = exprG (facN n) := funext fun _ => rfl
theorem sourceG_is (l : List Tk) : sourceG l = sourceGo (exprG (facN mx)) mx [] l := by
  unfold sourceG; rw [exprN_is]
theorem locW_all : LocW sourceG := by
  intro p c x y hv hr
  rw [sourceG_is] at hv hr ⊢
  exact locW_source (loc_expr (loc_fac mx) (fac_sufN mx)) (locW_expr (loc_fac mx) (locW_fac mx) (fac_sufN mx)) (expr_sufN (fac_sufN mx)) mx [] p c x y hv hr
theorem source_all : Sf sourceG := by
  intro l
  rw [sourceG_is]
  exact source_sufN (expr_sufN (fac_sufN mx)) mx [] l

theorem skip_take : ∀ (a : List UInt8) (m : Bool) (k : Nat), skipGo m a ≤ k → skipGo m (a.take k) = skipGo m a
  | [], m, k, _ => by simp [skipGo]
  | c :: r, m, 0, h => by
    have : skipGo m (c :: r) = 0 := by omega
    rw [this]; rfl
  | c :: r, m, k + 1, h => by
    have h0 := skip_take r false k
    have h1 := skip_take r true k
    have h2 := skip_take r m k
    simp only [List.take_succ_cons, skipGo] at h ⊢
    split
    · rename_i q; rw [if_pos q] at h; rw [h0 (by omega)]
    · rename_i q
      rw [if_neg q] at h
      split
      · rename_i q2; rw [if_pos q2] at h; rw [h2 (by omega)]
      · rename_i q2
        rw [if_neg q2] at h
        split
        · rename_i q3; rw [if_pos q3] at h; rw [h1 (by omega)]
        · rfl
theorem np_take {v : List UInt8} (h : NP v) (k : Nat) : NP (v.take k) := by
  intro c r hc
  cases v with
  | nil => simp at hc
  | cons d t =>
    cases k with
    | zero => simp at hc
    | succ k =>
      simp at hc
      rw [← hc.1]; exact h d t rfl
/-- The tokens of a source up to one of its tokens are those ahead of it. -/
theorem tok_take {S : List UInt8} {e : Nat} : ∀ (A : List Tk) (p : Nat) (b : Tk) (B : List Tk), p ≤ S.length → (tokB p (S.drop p)).1 = A ++ b :: B → (tokB p (S.drop p)).2.2 = 0 → b.pl = e → p ≤ e ∧ e ≤ S.length ∧ tokB p ((S.take e).drop p) = (A, 0, 0)
  | [], p, b, B, hp, h, hz, hb => by
    by_cases hs : S.drop p = []
    · rw [hs, tokB_nil] at h; cases h
    · by_cases he : errB (S.drop p) = 0
      · rw [tokB_nxt hs he] at h
        have : tkB (S.drop p) p = b := (List.cons.inj h).1
        have hpe : p = e := by rw [← hb, ← this]; rfl
        subst hpe
        refine ⟨Nat.le_refl _, hp, ?_⟩
        rw [List.drop_eq_nil_of_le (by rw [List.length_take]; omega), tokB_nil]
      · rw [tokB_err hs he] at hz; exact absurd hz he
  | a :: A, p, b, B, hp, h, hz, hb => by
    by_cases hs : S.drop p = []
    · rw [hs, tokB_nil] at h; cases h
    · by_cases he : errB (S.drop p) = 0
      · rw [tokB_nxt hs he] at h hz
        obtain ⟨ha, hr⟩ := List.cons.inj h
        obtain ⟨i1, i2, i3⟩ := tok_take A (nxt S p) b B (nxt_le hp hs he) hr hz hb
        have hgt := nxt_gt hs
        have hpos := lenB_pos hs
        have hlen := lenB_le hs he
        rw [List.length_drop] at hlen
        -- the source cut at e
        have hsp : (S.take e).drop p = (S.drop p).take (e - p) := by rw [List.drop_take]
        have hle : lenB (S.drop p) ≤ e - p := by unfold nxt at i1; omega
        have hsplit : (S.drop p).take (e - p) = (S.drop p).take (lenB (S.drop p)) ++ ((S.drop p).drop (lenB (S.drop p))).take (e - p - lenB (S.drop p)) := by
          rw [← List.take_append_drop (lenB (S.drop p)) ((S.drop p).take (e - p)), List.take_take, List.drop_take, Nat.min_eq_left hle]
        have hloc := first_local (v := ((S.drop p).drop (lenB (S.drop p))).take (e - p - lenB (S.drop p))) hs he (by
          intro c r hc hpt
          have hl : lenB (S.drop p) = (runB (S.drop p)).length := by rw [hc, lenB, if_pos hpt]
          rw [hl]
          exact np_take (run_behind (S.drop p)) _)
        rw [← hsplit, ← hsp] at hloc
        obtain ⟨g1, g2, g3, g4, g5, g6⟩ := hloc
        have hs2 : (S.take e).drop p ≠ [] := by
          intro q
          have := congrArg List.length q
          rw [List.length_drop, List.length_take, List.length_nil] at this
          omega
        have htk : tkB ((S.take e).drop p) p = tkB (S.drop p) p := by unfold tkB; rw [g2, g3, g4]
        have hnx : nxt (S.take e) p = nxt S p := by
          have e1 : (S.take e).drop (p + lenB (S.drop p)) = (S.drop (p + lenB (S.drop p))).take (e - (p + lenB (S.drop p))) := by rw [List.drop_take]
          have h1 : skipB ((S.take e).drop (p + lenB (S.drop p))) = skipB (S.drop (p + lenB (S.drop p))) := by
            rw [e1]; exact skip_take _ false _ (by have i1' := i1; unfold nxt skipB at i1'; omega)
          unfold nxt
          rw [g5, h1]
        refine ⟨by omega, i2, ?_⟩
        rw [tokB_nxt hs2 g1, htk, hnx, i3, ha]
      · rw [tokB_err hs he] at hz; exact absurd hz he
theorem scan_toks {S : List UInt8} (h : (scanB S).2.2 = 0) : S.length ≤ 4000 ∧ (tokB (skipB S) (S.drop (skipB S))).2.2 = 0 ∧ (scanB S).1 = (tokB (skipB S) (S.drop (skipB S))).1 ++ [endTk S.length] := by
  unfold scanB at h ⊢
  by_cases hl : 4000 < S.length
  · rw [if_pos hl] at h; cases h
  · rw [if_neg hl] at h ⊢
    unfold finB at h ⊢
    by_cases hz : (tokB (skipB S) (S.drop (skipB S))).2.2 = 0
    · rw [if_pos hz]; exact ⟨by omega, hz, rfl⟩
    · rw [if_neg hz] at h; exact absurd h hz
theorem scan_take {S : List UInt8} {A B : List Tk} {b : Tk} (h : (scanB S).2.2 = 0) (hA : (scanB S).1 = A ++ b :: B) : b.pl ≤ S.length ∧ scanB (S.take b.pl) = (A ++ [endTk b.pl], 0, 0) := by
  obtain ⟨h4, hz, hT⟩ := scan_toks h
  rw [hT] at hA
  by_cases hB : B = []
  · subst hB
    obtain ⟨e1, e2⟩ := List.append_inj' hA rfl
    have hb : b = endTk S.length := (List.cons.inj e2).1.symm
    subst hb
    refine ⟨Nat.le_refl _, ?_⟩
    show scanB (S.take S.length) = _
    rw [List.take_length]
    have hp := (scan_good h).2.1
    have h5 : scanB S = ((scanB S).1, (scanB S).2.1, (scanB S).2.2) := rfl
    rw [h5, hp, h, hT, e1]; rfl
  · obtain ⟨B', z, rfl⟩ : ∃ B' z, B = B' ++ [z] := ⟨B.dropLast, B.getLast hB, (List.dropLast_concat_getLast hB).symm⟩
    rw [show A ++ b :: (B' ++ [z]) = (A ++ b :: B') ++ [z] by simp] at hA
    obtain ⟨e1, e2⟩ := List.append_inj' hA rfl
    obtain ⟨i1, i2, i3⟩ := tok_take A (skipB S) b B' (skipB_le S) e1 hz rfl
    refine ⟨i2, ?_⟩
    have hk : skipB (S.take b.pl) = skipB S := skip_take S false _ i1
    unfold scanB
    rw [if_neg (by rw [List.length_take]; omega), hk, i3, List.length_take, Nat.min_eq_left i2]
    rfl
/-- What is wrong, and where: the wrong token and those ahead of it. -/
theorem parse_first {S : List UInt8} (h : (scanB S).2.2 = 0) (h7 : (parseW S).2.1 = 70) : ∃ p c x, (scanB S).1 = p ++ c :: x ∧ (parseW S).2 = (70, (c.pl : Int)) ∧ (x = [] → c = endTk S.length) ∧ (∀ b B, x = b :: B → b.pl ≤ S.length ∧
    ∀ T, (scanB (S.take b.pl ++ 10 :: T)).2.2 = 0 → (parseW (S.take b.pl ++ 10 :: T)).2 = (70, (c.pl : Int))) := by
  have eW : parseW S = endW (sourceG (scanB S).1) := by unfold parseW; rw [if_neg (by simpa using h)]
  obtain ⟨_, _, T1, hT1, hg1, hpw⟩ := scan_good h
  have hv : (sourceG (scanB S).1).val = none := by
    rw [eW] at h7
    unfold endW at h7
    cases hx : (sourceG (scanB S).1).val with
    | none => rfl
    | some its =>
      rw [hx] at h7
      simp only at h7
      by_cases q : (flt (sourceG (scanB S).1).many (0, 0)).1 = 0
      · rw [if_neg (by simpa using q)] at h7
        by_cases q2 : (deepR its).1 = 0
        · rw [if_neg (by simpa using q2)] at h7; cases h7
        · rw [if_pos (by simpa using q2)] at h7
          unfold deepR at h7
          split at h7 <;> cases h7
      · rw [if_pos (by simpa using q)] at h7
        cases hm : (sourceG (scanB S).1).many with
        | nil => rw [hm] at h7; cases h7
        | cons a r => rw [hm] at h7; cases h7
  obtain ⟨p, hp, hk⟩ := source_all (scanB S).1
  cases hr : (sourceG (scanB S).1).rest with
  | nil =>
    rw [hr, List.append_nil] at hp
    exact absurd rfl (hk (endTk S.length) (by rw [← hp, hT1]; simp))
  | cons c x =>
    rw [hr] at hp
    refine ⟨p, c, x, hp, ?_, ?_, ?_⟩
    · rw [eW]; unfold endW; rw [hv, hr]; rfl
    · rintro rfl
      rw [hp] at hT1
      exact (List.cons.inj (List.append_inj' hT1 rfl).2).1
    · rintro b B rfl
      obtain ⟨t1, t2⟩ := scan_take (A := p ++ [c]) (b := b) (B := B) h (by rw [hp]; simp)
      refine ⟨t1, fun T hT => ?_⟩
      have hl : (S.take b.pl).length + T.length + 1 ≤ 4000 := by
        have := (scan_good hT).1
        rw [List.length_append, List.length_cons] at this
        omega
      obtain ⟨_, j2, j3⟩ := scan_join hl
      have z1 : (scanB (S.take b.pl)).2.2 = 0 := by rw [t2]
      have z2 : (scanB T).2.2 = 0 := by
        by_cases q : (scanB T).2.2 = 0
        · exact q
        · rw [j2 z1 q] at hT; exact absurd hT q
      obtain ⟨A, hA, hJ⟩ := j3 z1 z2
      have hAe : A = p ++ [c] := by
        rw [t2] at hA
        have := congrArg Prod.fst hA
        simp only at this
        exact (List.append_inj' this rfl).1.symm
      subst hAe
      have eJ : parseW (S.take b.pl ++ 10 :: T) = endW (sourceG (p ++ c :: (scanB T).1.map (shiftT ((S.take b.pl).length + 1)))) := by
        unfold parseW
        rw [hJ, if_neg (by simp)]
        simp
      rw [hp] at hv hr
      obtain ⟨w1, w2⟩ := locW_all p c (b :: B) ((scanB T).1.map (shiftT ((S.take b.pl).length + 1))) hv hr
      rw [eJ]
      unfold endW
      rw [w1, w2]
      rfl
end Go.Proofs.Ytnnmhmlebffacaa
