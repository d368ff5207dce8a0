/-
  Where the tokens of a source stand, and what they are.
-/
import Derived.Test.YtnnmhmlebffacaaPlain2
import Derived.Test.YtnnmhmlebffacaaRefD
namespace Go.Proofs.Ytnnmhmlebffacaa

/-- A token that stands in a source at its place. -/
structure Good (S : List UInt8) (t : Tk) : Prop where
  some : S.drop t.pl ≠ []
  right : errB (S.drop t.pl) = 0
  is : t = tkB (S.drop t.pl) t.pl
theorem Good.lt {S : List UInt8} {t : Tk} (h : Good S t) : t.pl < S.length := by
  rcases Nat.lt_or_ge t.pl S.length with h1 | h1
  · exact h1
  · exact absurd (List.drop_eq_nil_of_le h1) h.some
/-- The place of the next token. -/
def nxt (S : List UInt8) (p : Nat) : Nat := p + lenB (S.drop p) + skipB (S.drop (p + lenB (S.drop p)))
theorem tokGo_ok {S : List UInt8} {p : Nat} (f : Nat) (hs : S.drop p ≠ []) (he : errB (S.drop p) = 0) : tokGo (f + 1) p (S.drop p) = (tkB (S.drop p) p :: (tokGo f (nxt S p) (S.drop (nxt S p))).1, (tokGo f (nxt S p) (S.drop (nxt S p))).2) := by
  have e1 : (S.drop p).drop (lenB (S.drop p)) = S.drop (p + lenB (S.drop p)) := by rw [List.drop_drop]
  have e2 : (S.drop p).drop (lenB (S.drop p) + skipB (S.drop (p + lenB (S.drop p)))) = S.drop (nxt S p) := by rw [List.drop_drop]; unfold nxt; rw [Nat.add_assoc]
  rw [tokGo, if_neg hs, if_neg (by simp [he])]
  simp only [e1, e2]
  rfl
theorem tokGo_err {S : List UInt8} {p : Nat} (f : Nat) (hs : S.drop p ≠ []) (he : errB (S.drop p) ≠ 0) : tokGo (f + 1) p (S.drop p) = ([], p, errB (S.drop p)) := by
  rw [tokGo, if_neg hs, if_pos he]
theorem tokGo_nil {S : List UInt8} {p : Nat} (f : Nat) (hs : S.drop p = []) : tokGo f p (S.drop p) = ([], 0, 0) := by
  rw [hs]
  cases f <;> simp [tokGo]
theorem nxt_gt {S : List UInt8} {p : Nat} (hs : S.drop p ≠ []) : p < nxt S p := by
  have := lenB_pos hs
  unfold nxt; omega
theorem nxt_le {S : List UInt8} {p : Nat} (hp : p ≤ S.length) (hs : S.drop p ≠ []) (he : errB (S.drop p) = 0) : nxt S p ≤ S.length := by
  have h1 := lenB_le hs he
  have h2 := skipB_le (S.drop (p + lenB (S.drop p)))
  rw [List.length_drop] at h1 h2
  unfold nxt; omega
theorem tok_good (S : List UInt8) : ∀ (f p : Nat), ∀ t ∈ (tokGo f p (S.drop p)).1, Good S t ∧ p ≤ t.pl
  | 0, p, t, ht => by simp [tokGo] at ht
  | f + 1, p, t, ht => by
    by_cases hs : S.drop p = []
    · rw [tokGo_nil _ hs] at ht; cases ht
    · by_cases he : errB (S.drop p) = 0
      · rw [tokGo_ok f hs he] at ht
        rcases List.mem_cons.1 ht with rfl | ht
        · exact ⟨⟨hs, he, rfl⟩, Nat.le_refl _⟩
        · have := tok_good S f _ t ht
          have := nxt_gt hs
          exact ⟨(tok_good S f _ t ht).1, by omega⟩
      · rw [tokGo_err f hs he] at ht; cases ht
theorem tok_rise (S : List UInt8) : ∀ (f p : Nat), (tokGo f p (S.drop p)).1.Pairwise fun a b => a.pl < b.pl
  | 0, p => by simp [tokGo]
  | f + 1, p => by
    by_cases hs : S.drop p = []
    · rw [tokGo_nil _ hs]; exact List.Pairwise.nil
    · by_cases he : errB (S.drop p) = 0
      · rw [tokGo_ok f hs he]
        refine List.pairwise_cons.2 ⟨fun t ht => ?_, tok_rise S f _⟩
        have h1 := (tok_good S f _ t ht).2
        have h2 := nxt_gt hs
        show p < t.pl
        omega
      · rw [tokGo_err f hs he]; exact List.Pairwise.nil
/-- What a source without a fault says. -/
theorem scan_good {S : List UInt8} (h : (scanB S).2.2 = 0) : S.length ≤ 4000 ∧ (scanB S).2.1 = 0 ∧ ∃ T, (scanB S).1 = T ++ [endTk S.length] ∧ (∀ t ∈ T, Good S t) ∧ ((scanB S).1.Pairwise fun a b => a.pl < b.pl) := by
  unfold scanB at h ⊢
  split at h
  · cases h
  · rename_i hl
    rw [if_neg hl]
    refine ⟨by omega, ?_⟩
    unfold finB at h ⊢
    split at h
    · rename_i h0
      rw [if_pos h0]
      have hg := tok_good S (S.drop (skipB S)).length (skipB S)
      have hr := tok_rise S (S.drop (skipB S)).length (skipB S)
      refine ⟨rfl, _, rfl, fun t ht => (hg t ht).1, ?_⟩
      rw [List.pairwise_append]
      refine ⟨hr, by simp, fun a ha b hb => ?_⟩
      simp only [List.mem_singleton] at hb
      subst hb
      exact (hg a ha).1.lt
    · rename_i h0
      exact absurd h h0
theorem tok_place (S : List UInt8) : ∀ (f p : Nat), p ≤ S.length → (tokGo f p (S.drop p)).2.1 ≤ S.length
  | 0, p, _ => by simp [tokGo]
  | f + 1, p, hp => by
    by_cases hs : S.drop p = []
    · rw [tokGo_nil _ hs]; exact Nat.zero_le _
    · by_cases he : errB (S.drop p) = 0
      · rw [tokGo_ok f hs he]
        exact tok_place S f _ (nxt_le hp hs he)
      · rw [tokGo_err f hs he]; exact hp
theorem scan_place (S : List UInt8) : (scanB S).2.1 ≤ S.length := by
  unfold scanB
  split
  · simp
  · unfold finB
    split
    · simp
    · exact tok_place S _ _ (skipB_le S)
theorem scan_empty {S : List UInt8} (h : (scanB S).2.2 ≠ 0) : (scanB S).1 = [] := by
  unfold scanB at h ⊢
  split
  · rfl
  · rename_i hl
    rw [if_neg hl] at h
    unfold finB at h ⊢
    split
    · rename_i h0; rw [if_pos h0] at h; exact absurd rfl h
    · rfl

/-- How a token is written. -/
def shownB (t : Tk) : List UInt8 := if t.kind = 5 then 34 :: t.text ++ [34] else t.text
theorem take_inner {r : List UInt8} (h : 34 ∈ r) : r.take ((innerB r).length + 1) = innerB r ++ [34] := by
  have h1 := head_tail_mem (c := 34) h
  have h2 : innerB r = headB 34 r := rfl
  rw [h2]
  generalize headB 34 r = a at *
  generalize tailB 34 r = b at *
  subst h1
  rw [show a ++ 34 :: b = (a ++ [34]) ++ b by simp, show a.length + 1 = (a ++ [34]).length by simp, List.take_left]
theorem err_text {r : List UInt8} (h : errB (34 :: r) = 0) : 34 ∈ r ∧ textOk r = true := by
  have hx : textOk r = true := by
    cases hx : textOk r with
    | true => rfl
    | false =>
      rw [errB, if_neg (by decide), if_neg (by decide), if_pos rfl, if_neg (by rw [hx]; decide)] at h
      cases h
  have hy := hx
  unfold textOk at hy
  simp only [Bool.and_eq_true, decide_eq_true_eq] at hy
  exact ⟨hy.1, hx⟩
/-- The kinds of tokens. -/
theorem tk_cases {s : List UInt8} {p : Nat} (hs : s ≠ []) (he : errB s = 0) :
    ((tkB s p).kind = 2 ∧ (tkB s p).text = []) ∨ ((tkB s p).kind = 3 ∧ nameB (tkB s p).text = true ∧ (tkB s p).text ≠ [] ∧ s.take (tkB s p).text.length = (tkB s p).text) ∨
    ((tkB s p).kind = 4 ∧ wordB (tkB s p).text = true ∧ (tkB s p).text ≠ [] ∧ s.take (tkB s p).text.length = (tkB s p).text) ∨
    ((tkB s p).kind = 5 ∧ s.take ((tkB s p).text.length + 2) = 34 :: (tkB s p).text ++ [34] ∧ (tkB s p).text.length + 2 ≤ s.length) ∨
    ((tkB s p).kind = 6 ∧ (tkB s p).text ≠ [] ∧ s.take (tkB s p).text.length = (tkB s p).text) := by
  cases s with
  | nil => exact absurd rfl hs
  | cons c r =>
    show (kindB (c :: r) = 2 ∧ textB (c :: r) = []) ∨ (kindB (c :: r) = 3 ∧ nameB (textB (c :: r)) = true ∧ textB (c :: r) ≠ [] ∧ (c :: r).take (textB (c :: r)).length = textB (c :: r)) ∨ (kindB (c :: r) = 4 ∧ wordB (textB (c :: r)) = true ∧ textB (c :: r) ≠ [] ∧ (c :: r).take (textB (c :: r)).length = textB (c :: r)) ∨ (kindB (c :: r) = 5 ∧ (c :: r).take ((textB (c :: r)).length + 2) = 34 :: textB (c :: r) ++ [34] ∧ (textB (c :: r)).length + 2 ≤ (c :: r).length) ∨ (kindB (c :: r) = 6 ∧ textB (c :: r) ≠ [] ∧ (c :: r).take (textB (c :: r)).length = textB (c :: r))
    cases hd : isDig c with
    | true => left; simp [kindB, textB, hd]
    | false =>
      cases hp : isPart c with
      | true =>
        have hk : kindB (c :: r) = if wordB (runB (c :: r)) then 4 else 3 := by simp [kindB, hd, hp]
        have ht : textB (c :: r) = runB (c :: r) := by simp [textB, hd, hp]
        have hne : runB (c :: r) ≠ [] := fun e => by have := run_pos (c := c) (r := r) hp; rw [e] at this; simp at this
        have he' : (wordB (runB (c :: r)) || nameB (runB (c :: r))) = true := by
          rw [errB, if_neg (by rw [hd]; decide), if_pos hp] at he
          cases hx : (wordB (runB (c :: r)) || nameB (runB (c :: r))) with
          | true => rfl
          | false => rw [if_neg (by rw [hx]; decide)] at he; cases he
        rw [hk, ht]
        cases hw : wordB (runB (c :: r)) with
        | true =>
          right; right; left
          exact ⟨rfl, rfl, hne, runB_take _⟩
        | false =>
          right; left
          rw [hw] at he'
          exact ⟨rfl, by simpa using he', hne, runB_take _⟩
      | false =>
        by_cases h34 : c = 34
        · subst h34
          obtain ⟨hm, _⟩ := err_text he
          have ht : textB (34 :: r) = innerB r := by simp [textB, hd, hp]
          right; right; right; left
          rw [ht]
          refine ⟨by simp [kindB, hd, hp], ?_, ?_⟩
          · rw [List.take_succ_cons, take_inner hm]; rfl
          · have := innerB_lt hm
            simp only [List.length_cons]; omega
        · right; right; right; right
          have hk : kindB (c :: r) = 6 := by simp [kindB, hd, hp, h34]
          cases hm : isMark c with
          | true =>
            have ht : textB (c :: r) = [c] := by simp [textB, hd, hp, h34, hm]
            rw [ht]
            exact ⟨hk, by simp, rfl⟩
          | false =>
            have ht : textB (c :: r) = [46, 46] := by simp [textB, hd, hp, h34, hm]
            rw [errB, if_neg (by rw [hd]; decide), if_neg (by rw [hp]; decide), if_neg h34, if_neg (by rw [hm]; decide)] at he
            have hpp : c = 46 ∧ r.head? = some 46 := by
              rcases Classical.em (c = 46 ∧ r.head? = some 46) with h | h
              · exact h
              · rw [if_neg h] at he; cases he
            rw [ht]
            refine ⟨hk, by simp, ?_⟩
            obtain ⟨rfl, h2⟩ := hpp
            cases r with
            | nil => cases h2
            | cons d r => simp at h2; subst h2; rfl
end Go.Proofs.Ytnnmhmlebffacaa
