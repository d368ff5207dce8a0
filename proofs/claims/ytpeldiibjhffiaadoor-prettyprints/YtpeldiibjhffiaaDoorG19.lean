/-
  Blanks and remarks put ahead of the tokens of a source, in plain lists. The tree hangs on tokens alone, but for its places. What a rule reads hangs on the tokens that it takes, and the one behind them.
-/
import Derived.Test.YtpeldiibjhffiaaDoorG18
import Derived.Test.YtpeldiibjhffiaaDoorG15
namespace Go.Proofs.YtpeldiibjhffiaaDoor

def putsB : List (List UInt8) := [[10, 32]]
theorem put_cases {g : List UInt8} (hg : g ∈ putsB) : g = [10, 32] := by
  simpa [putsB] using hg
theorem put_len {g : List UInt8} (hg : g ∈ putsB) : 1 ≤ g.length ∧ g.length ≤ 2 := by
  rcases put_cases hg with rfl <;> decide
theorem put_skip {g : List UInt8} (hg : g ∈ putsB) (b : List UInt8) : skipGo false (g ++ b) = g.length + skipGo false b := by
  rcases put_cases hg with rfl <;> simp [skipGo, isBl] <;> omega
theorem put_end {g : List UInt8} (hg : g ∈ putsB) (m : Bool) : skipGo m g = g.length := by
  rcases put_cases hg with rfl <;> cases m <;> decide
theorem put_np {g : List UInt8} (hg : g ∈ putsB) (b : List UInt8) : NP (g ++ b) := by
  intro c r h
  rcases put_cases hg with rfl <;> (simp at h; rw [← h.1]; decide)
/-- What is skipped ahead of a token is skipped whatever stands behind. -/
theorem skip_gap : ∀ (a : List UInt8) (m : Bool) (c : UInt8) (r : List UInt8), skipGo m (a ++ c :: r) = a.length → ∀ b, skipGo m (a ++ b) = a.length + skipGo false b
  | [], m, c, r, h, b => by
    have hm : m = false := by
      cases m with
      | false => rfl
      | true =>
        simp only [List.nil_append, skipGo, List.length_nil] at h
        split at h
        · omega
        · simp at h
    subst hm
    simp
  | x :: a, m, c, r, h, b => by
    have h0 := skip_gap a false c r
    have h1 := skip_gap a true c r
    have h2 := skip_gap a m c r
    simp only [List.cons_append, skipGo, List.length_cons] at h ⊢
    split at h
    · rename_i hx
      rw [if_pos hx, h0 (by omega)]; omega
    · rename_i hx
      rw [if_neg hx]
      split at h
      · rename_i hy
        rw [if_pos hy, h2 (by omega)]; omega
      · rename_i hy
        rw [if_neg hy]
        split at h
        · rename_i hz
          rw [if_pos hz, h1 (by omega)]; omega
        · omega
theorem skip_last {g : List UInt8} (hg : g ∈ putsB) : ∀ (a : List UInt8) (m : Bool), skipGo m a = a.length → skipGo m (a ++ g) = a.length + g.length
  | [], m, _ => by simp [put_end hg]
  | x :: a, m, h => by
    have h0 := skip_last hg a false
    have h1 := skip_last hg a true
    have h2 := skip_last hg a m
    simp only [List.cons_append, skipGo, List.length_cons] at h ⊢
    split at h
    · rename_i hx
      rw [if_pos hx, h0 (by omega)]; omega
    · rename_i hx
      rw [if_neg hx]
      split at h
      · rename_i hy
        rw [if_pos hy, h2 (by omega)]; omega
      · rename_i hy
        rw [if_neg hy]
        split at h
        · rename_i hz
          rw [if_pos hz, h1 (by omega)]; omega
        · omega
theorem skip_np {s : List UInt8} (h : 0 < skipGo false s) : NP s := by
  intro c r hc
  subst hc
  simp only [skipGo] at h
  split at h
  · rename_i hx; rw [hx]; decide
  · split at h
    · rename_i hy
      have hb : isBl c = true := by simpa using hy
      simp only [isBl, Bool.or_eq_true, beq_iff_eq] at hb
      rcases hb with (rfl | rfl) | rfl <;> decide
    · split at h
      · rename_i hz; rw [hz]; decide
      · omega
/-- How the text is laid: ahead of each token what was there, and a put. -/
def outL (S : List UInt8) (g : Nat → List UInt8) : Nat → Nat → List Tk → List UInt8
  | _, fr, [] => S.drop fr
  | i, fr, t :: r => (S.drop fr).take (t.pl - fr) ++ g i ++ outL S g (i + 1) t.pl r
def Rise (S : List UInt8) : Nat → List Tk → Prop
  | _, [] => True
  | fr, t :: r => fr ≤ t.pl ∧ t.pl ≤ S.length ∧ Rise S t.pl r
theorem outL_len {S : List UInt8} {g : Nat → List UInt8} (hg : ∀ i, g i ∈ putsB) : ∀ (L : List Tk) (i fr : Nat), Rise S fr L → (outL S g i fr L).length ≤ S.length - fr + 2 * L.length
  | [], i, fr, _ => by simp [outL]
  | t :: r, i, fr, h => by
    have h1 := outL_len hg r (i + 1) t.pl h.2.2
    have h2 := put_len (hg i)
    have h3 := h.1
    have h4 := h.2.1
    simp only [outL, List.length_append, List.length_take, List.length_drop, List.length_cons]
    omega
theorem rise_of {S : List UInt8} : ∀ (L : List Tk) (fr : Nat), (∀ t ∈ L, fr ≤ t.pl ∧ t.pl ≤ S.length) → (L.Pairwise fun a b => a.pl < b.pl) → Rise S fr L
  | [], _, _, _ => trivial
  | t :: r, fr, h1, h2 => by
    obtain ⟨h3, h4⟩ := List.pairwise_cons.1 h2
    have h5 := h1 t (List.mem_cons_self)
    exact ⟨h5.1, h5.2, rise_of r t.pl (fun u hu => ⟨by have := h3 u hu; omega, (h1 u (List.mem_cons_of_mem _ hu)).2⟩) h4⟩
def strip (t : Tk) : Int × Int × List UInt8 := (t.kind, t.num, t.text)

theorem skip_zero_head {c : UInt8} {r : List UInt8} (h : skipGo false (c :: r) = 0) (r' : List UInt8) : skipGo false (c :: r') = 0 := by
  simp only [skipGo] at h ⊢
  split at h
  · omega
  · rename_i hx
    rw [if_neg hx]
    split at h
    · omega
    · rename_i hy
      rw [if_neg hy]
      split at h
      · omega
      · rename_i hz
        rw [if_neg hz]
/-- What is skipped stands behind what is skipped no more. -/
theorem skip_again : ∀ (s : List UInt8) (m : Bool), skipGo m s < s.length → skipGo false (s.drop (skipGo m s)) = 0
  | [], m, h => by simp at h
  | c :: r, m, h => by
    have h0 := skip_again r false
    have h1 := skip_again r true
    have h2 := skip_again r m
    simp only [skipGo, List.length_cons] at h ⊢
    split
    · rename_i hx; rw [if_pos hx] at h; rw [List.drop_succ_cons]; exact h0 (by omega)
    · rename_i hx
      rw [if_neg hx] at h
      split
      · rename_i hy; rw [if_pos hy] at h; rw [List.drop_succ_cons]; exact h2 (by omega)
      · rename_i hy
        rw [if_neg hy] at h
        split
        · rename_i hz; rw [if_pos hz] at h; rw [List.drop_succ_cons]; exact h1 (by omega)
        · rename_i hz
          rw [List.drop_zero, skipGo, if_neg hx, if_neg (by simp only [Bool.or_eq_true, not_or] at hy; simp [hy.2]), if_neg hz]
/-- The gap ahead of a place, a put, and what stands behind. -/
theorem skip_put {S : List UInt8} {q : Nat} {g X : List UInt8} (hg : g ∈ putsB) (hq : q ≤ S.length) (hX0 : q + skipB (S.drop q) = S.length → X = []) (hX1 : ∀ c r, S.drop (q + skipB (S.drop q)) = c :: r → ∃ r', X = c :: r') :
    skipB ((S.drop q).take (skipB (S.drop q)) ++ (g ++ X)) = skipB (S.drop q) + g.length := by
  have hle := skipB_le (S.drop q)
  have hl : ((S.drop q).take (skipB (S.drop q))).length = skipB (S.drop q) := by rw [List.length_take]; omega
  cases hd : S.drop (q + skipB (S.drop q)) with
  | nil =>
    have hlen : q + skipB (S.drop q) = S.length := by
      have := congrArg List.length hd
      rw [List.length_drop, List.length_nil] at this
      rw [List.length_drop] at hle
      omega
    have hall : (S.drop q).take (skipB (S.drop q)) = S.drop q := List.take_of_length_le (by rw [List.length_drop]; omega)
    rw [hX0 hlen, List.append_nil, hall]
    have hw : skipGo false (S.drop q) = (S.drop q).length := by
      show skipB (S.drop q) = _
      rw [List.length_drop]; omega
    show skipGo false (S.drop q ++ g) = _
    rw [skip_last hg _ false hw, ← hw]; rfl
  | cons c r =>
    obtain ⟨r', hX⟩ := hX1 c r hd
    have hsplit : S.drop q = (S.drop q).take (skipB (S.drop q)) ++ c :: r := by
      rw [← hd, ← List.drop_drop, List.take_append_drop]
    have hsk : skipGo false ((S.drop q).take (skipB (S.drop q)) ++ c :: r) = ((S.drop q).take (skipB (S.drop q))).length := by
      rw [← hsplit, hl]; rfl
    have hz : skipGo false (c :: r) = 0 := by
      have hlt : skipGo false (S.drop q) < (S.drop q).length := by
        have := congrArg List.length hd
        rw [List.length_drop, List.length_cons] at this
        show skipB (S.drop q) < _
        rw [List.length_drop]; omega
      have := skip_again (S.drop q) false hlt
      rw [List.drop_drop] at this
      have e : S.drop (q + skipGo false (S.drop q)) = c :: r := hd
      rw [e] at this; exact this
    show skipGo false _ = _
    rw [skip_gap _ false c r hsk, put_skip hg, hX, skip_zero_head hz r', hl]; omega
theorem drop_len {u v : List UInt8} {n : Nat} (h : u.length = n) (k : Nat) : (u ++ v).drop (n + k) = v.drop k := by
  rw [← h, List.drop_append]; simp
theorem blank_nil {S : List UInt8} {g : Nat → List UInt8} {f p i : Nat} (hp : p ≤ S.length) (hs : S.drop p = []) : ∀ t0 L', (tokGo f p (S.drop p)).1 ++ [endTk S.length] = t0 :: L' →
    t0.pl = p ∧ (S.drop p = [] → outL S g (i + 1) p L' = []) ∧ (∀ c r, S.drop p = c :: r → ∃ r', outL S g (i + 1) p L' = c :: r') ∧ ∀ q, (tokB q (outL S g (i + 1) p L')).2.2 = 0 ∧ (tokB q (outL S g (i + 1) p L')).1.map strip = (tokGo f p (S.drop p)).1.map strip := by
  intro t0 L' h
  rw [tokGo_nil f hs] at h ⊢
  simp at h
  obtain ⟨rfl, rfl⟩ := h
  have hpl : p = S.length := by
    have := congrArg List.length hs
    rw [List.length_drop, List.length_nil] at this
    omega
  have ho : outL S g (i + 1) p [] = [] := hs
  rw [ho]
  refine ⟨hpl.symm, fun _ => rfl, fun c r h => ?_, fun q => ⟨rfl, rfl⟩⟩
  rw [hs] at h; cases h
theorem blank_tok {S : List UInt8} {g : Nat → List UInt8} (hg : ∀ i, g i ∈ putsB) : ∀ (f p i : Nat), p ≤ S.length → (S.drop p).length ≤ f → (tokGo f p (S.drop p)).2.2 = 0 → ∀ t0 L', (tokGo f p (S.drop p)).1 ++ [endTk S.length] = t0 :: L' →
    t0.pl = p ∧ (S.drop p = [] → outL S g (i + 1) p L' = []) ∧ (∀ c r, S.drop p = c :: r → ∃ r', outL S g (i + 1) p L' = c :: r') ∧ ∀ q, (tokB q (outL S g (i + 1) p L')).2.2 = 0 ∧ (tokB q (outL S g (i + 1) p L')).1.map strip = (tokGo f p (S.drop p)).1.map strip := by
  intro f
  induction f with
  | zero =>
    intro p i hp hf _
    exact blank_nil hp (List.eq_nil_of_length_eq_zero (by omega))
  | succ f ih =>
    intro p i hp hf hz t0 L' hL
    by_cases hs : S.drop p = []
    · exact blank_nil hp hs t0 L' hL
    have he : errB (S.drop p) = 0 := by
      rcases Classical.em (errB (S.drop p) = 0) with h | h
      · exact h
      · rw [tokGo_err f hs h] at hz; exact hz
    rw [tokGo_ok f hs he] at hz hL ⊢
    simp only at hz hL ⊢
    rw [List.cons_append] at hL
    obtain ⟨rfl, rfl⟩ : t0 = tkB (S.drop p) p ∧ L' = (tokGo f (nxt S p) (S.drop (nxt S p))).1 ++ [endTk S.length] := by
      simp only [List.cons.injEq] at hL
      exact ⟨hL.1.symm, hL.2.symm⟩
    clear hL
    have hnle := nxt_le hp hs he
    have hngt := nxt_gt hs
    have hn1 := lenB_pos hs
    have hn2 := lenB_le hs he
    obtain ⟨t1, L2, hL2⟩ : ∃ t1 L2, (tokGo f (nxt S p) (S.drop (nxt S p))).1 ++ [endTk S.length] = t1 :: L2 := by
      cases hx : (tokGo f (nxt S p) (S.drop (nxt S p))).1 ++ [endTk S.length] with
      | nil => simp at hx
      | cons a b => exact ⟨a, b, rfl⟩
    obtain ⟨i1, i2, i3, i4⟩ := ih (nxt S p) (i + 1) hnle (by rw [List.length_drop] at hf ⊢; omega) hz t1 L2 hL2
    have ho : outL S g (i + 1) p ((tokGo f (nxt S p) (S.drop (nxt S p))).1 ++ [endTk S.length]) = (S.drop p).take (lenB (S.drop p)) ++ ((S.drop (p + lenB (S.drop p))).take (skipB (S.drop (p + lenB (S.drop p)))) ++ (g (i + 1) ++ outL S g (i + 1 + 1) (nxt S p) L2)) := by
      rw [hL2]
      simp only [outL]
      rw [i1, show nxt S p - p = lenB (S.drop p) + skipB (S.drop (p + lenB (S.drop p))) by unfold nxt; omega, List.take_add, List.drop_drop]
      simp only [List.append_assoc]
    rw [ho]
    generalize outL S g (i + 1 + 1) (nxt S p) L2 = X at *
    have hk := skipB_le (S.drop (p + lenB (S.drop p)))
    have hsp := skip_put (S := S) (q := p + lenB (S.drop p)) (X := X) (hg (i + 1)) (by rw [List.length_drop] at hn2; omega)
      (fun h => i2 (List.drop_eq_nil_of_le (by unfold nxt; omega))) (fun c r h => i3 c r h)
    have hgl : ((S.drop (p + lenB (S.drop p))).take (skipB (S.drop (p + lenB (S.drop p))))).length = skipB (S.drop (p + lenB (S.drop p))) := by rw [List.length_take]; omega
    have hul : ((S.drop p).take (lenB (S.drop p))).length = lenB (S.drop p) := by rw [List.length_take]; omega
    have hnp : NP ((S.drop (p + lenB (S.drop p))).take (skipB (S.drop (p + lenB (S.drop p)))) ++ (g (i + 1) ++ X)) := by
      rcases Nat.eq_zero_or_pos (skipB (S.drop (p + lenB (S.drop p)))) with h0 | h0
      · rw [h0, List.take_zero, List.nil_append]; exact put_np (hg _) _
      · have hv := skip_np h0
        intro c r hc
        cases hd : S.drop (p + lenB (S.drop p)) with
        | nil => rw [hd] at h0; simp [skipB, skipGo] at h0
        | cons d t =>
          rw [hd] at hc
          obtain ⟨k, hk⟩ : ∃ k, skipB (d :: t) = k + 1 := ⟨skipB (d :: t) - 1, by rw [hd] at h0; omega⟩
          rw [hk, List.take_succ_cons, List.cons_append] at hc
          simp only [List.cons.injEq] at hc
          rw [← hc.1]
          exact hv d t hd
    have hloc := first_local hs he (fun _ _ _ _ => hnp)
    obtain ⟨g1, g2, g3, g4, g5, g6⟩ := hloc
    generalize hv : (S.drop (p + lenB (S.drop p))).take (skipB (S.drop (p + lenB (S.drop p)))) ++ (g (i + 1) ++ X) = v at *
    have hOne : (S.drop p).take (lenB (S.drop p)) ++ v ≠ [] := by simp [g6]
    refine ⟨rfl, fun h => absurd h hs, fun c r hc => ?_, fun q => ?_⟩
    · rw [hc]
      obtain ⟨m, hm⟩ : ∃ m, lenB (c :: r) = m + 1 := ⟨lenB (c :: r) - 1, by rw [← hc]; omega⟩
      rw [hm, List.take_succ_cons]
      exact ⟨_, rfl⟩
    · have hd0 := drop_len (v := v) hul 0
      have hd1 := drop_len (v := v) hul (skipB (S.drop (p + lenB (S.drop p))) + (g (i + 1)).length)
      have hd2 : v.drop (skipB (S.drop (p + lenB (S.drop p))) + (g (i + 1)).length) = X := by
        rw [← hv, drop_len hgl, List.drop_left]
      rw [Nat.add_zero, List.drop_zero] at hd0
      rw [tokB_ok hOne g1, g5, hd0, hsp, hd1, hd2]
      have htk : strip (tkB ((S.drop p).take (lenB (S.drop p)) ++ v) q) = strip (tkB (S.drop p) p) := by
        unfold strip tkB; simp only; rw [g2, g3, g4]
      simp only
      obtain ⟨j1, j2⟩ := i4 (q + lenB (S.drop p) + (skipB (S.drop (p + lenB (S.drop p))) + (g (i + 1)).length))
      exact ⟨j1, by rw [List.map_cons, List.map_cons, htk, j2]⟩
/-- Blanks and remarks put ahead of tokens change places alone. -/
theorem scan_blanks {S : List UInt8} {g : Nat → List UInt8} (hg : ∀ i, g i ∈ putsB) (hz : (scanB S).2.2 = 0) (hl : S.length + 2 * (scanB S).1.length ≤ 4000) :
    ∃ M, scanB (outL S g 0 0 (scanB S).1) = (M, 0, 0) ∧ M.map strip = (scanB S).1.map strip ∧ (outL S g 0 0 (scanB S).1).length ≤ 4000 := by
  obtain ⟨h4, _, T, hT, hgood, hpw⟩ := scan_good hz
  have hrise : Rise S 0 (scanB S).1 := rise_of _ _ (fun t ht => by
    rw [hT] at ht
    rcases List.mem_append.1 ht with ht | ht
    · exact ⟨Nat.zero_le _, Nat.le_of_lt (hgood t ht).lt⟩
    · simp only [List.mem_singleton] at ht
      subst ht
      exact ⟨Nat.zero_le _, Nat.le_refl _⟩) hpw
  have hlen := outL_len hg (scanB S).1 0 0 hrise
  have hlen4 : (outL S g 0 0 (scanB S).1).length ≤ 4000 := by omega
  have eS : scanB S = finB S.length (tokB (skipB S) (S.drop (skipB S))) := by unfold scanB; rw [if_neg (by omega)]
  have hz2 : (tokB (skipB S) (S.drop (skipB S))).2.2 = 0 := by
    rcases Classical.em ((tokB (skipB S) (S.drop (skipB S))).2.2 = 0) with h | h
    · exact h
    · rw [eS] at hz; unfold finB at hz; rw [if_neg h] at hz; exact hz
  have eS1 : (scanB S).1 = (tokB (skipB S) (S.drop (skipB S))).1 ++ [endTk S.length] := by rw [eS]; unfold finB; rw [if_pos hz2]
  obtain ⟨t0, L', hL⟩ : ∃ t0 L', (tokB (skipB S) (S.drop (skipB S))).1 ++ [endTk S.length] = t0 :: L' := by
    cases hx : (tokB (skipB S) (S.drop (skipB S))).1 ++ [endTk S.length] with
    | nil => simp at hx
    | cons a b => exact ⟨a, b, rfl⟩
  obtain ⟨b1, b2, b3, b4⟩ := blank_tok hg (S.drop (skipB S)).length (skipB S) 0 (skipB_le S) (Nat.le_refl _) hz2 t0 L' hL
  have ho : outL S g 0 0 (scanB S).1 = (S.drop 0).take (skipB (S.drop 0)) ++ (g 0 ++ outL S g (0 + 1) (skipB S) L') := by
    rw [eS1, hL]
    simp only [outL, b1, List.drop_zero, Nat.sub_zero, List.append_assoc]
  have hsp := skip_put (S := S) (q := 0) (X := outL S g (0 + 1) (skipB S) L') (hg 0) (Nat.zero_le _)
    (fun h => b2 (List.drop_eq_nil_of_le (by simpa using Nat.le_of_eq h.symm))) (fun c r h => b3 c r (by simpa using h))
  have hgl : ((S.drop 0).take (skipB (S.drop 0))).length = skipB (S.drop 0) := by
    have := skipB_le (S.drop 0)
    rw [List.length_take]; omega
  have hd := drop_len (v := g 0 ++ outL S g (0 + 1) (skipB S) L') hgl (g 0).length
  rw [List.drop_left] at hd
  obtain ⟨j1, j2⟩ := b4 (skipB (S.drop 0) + (g 0).length)
  refine ⟨(tokB (skipB (S.drop 0) + (g 0).length) (outL S g (0 + 1) (skipB S) L')).1 ++ [endTk (outL S g 0 0 (scanB S).1).length], ?_, ?_, hlen4⟩
  · have e : scanB (outL S g 0 0 (scanB S).1) = finB (outL S g 0 0 (scanB S).1).length (tokB (skipB (outL S g 0 0 (scanB S).1)) ((outL S g 0 0 (scanB S).1).drop (skipB (outL S g 0 0 (scanB S).1)))) := by
      unfold scanB; rw [if_neg (by unfold scanB at hlen4; omega)]
    rw [e]
    have hk : skipB (outL S g 0 0 (scanB S).1) = skipB (S.drop 0) + (g 0).length := by rw [ho]; exact hsp
    have hdr : (outL S g 0 0 (scanB S).1).drop (skipB (S.drop 0) + (g 0).length) = outL S g (0 + 1) (skipB S) L' := by rw [ho]; exact hd
    rw [hk, hdr]
    unfold finB
    rw [if_pos j1]
  · rw [eS1, List.map_append, List.map_append, j2]
    rfl
end Go.Proofs.YtpeldiibjhffiaaDoor
namespace Go.Proofs.YtpeldiibjhffiaaDoor
open Go.RowKit Go.Deep

structure Rl {α : Type} (R : α → α → Prop) (x y : Rs α) : Prop where
  val : (x.val = none ∧ y.val = none) ∨ ∃ a b, x.val = some a ∧ y.val = some b ∧ R a b
  rest : x.rest.map strip = y.rest.map strip
  many : x.many.length = y.many.length
theorem rl_bind {α β : Type} {R : α → α → Prop} {Q : β → β → Prop} {x y : Rs α} {f g : α → List Tk → Rs β} (h : Rl R x y) (hf : ∀ a b l l', R a b → l.map strip = l'.map strip → Rl Q (f a l) (g b l')) : Rl Q (x.bind f) (y.bind g) := by
  rcases h.val with ⟨h1, h2⟩ | ⟨a, b, h1, h2, hR⟩
  · rw [bind_none _ h1, bind_none _ h2]; exact ⟨.inl ⟨rfl, rfl⟩, h.rest, h.many⟩
  · have hq := hf a b _ _ hR h.rest
    rw [bind_pre _ h1, bind_pre _ h2]
    exact ⟨hq.val, hq.rest, by show (x.many ++ _).length = (y.many ++ _).length; rw [List.length_append, List.length_append, h.many, hq.many]⟩
theorem rl_pure {α : Type} {R : α → α → Prop} {a b : α} {l l' : List Tk} (h : R a b) (hl : l.map strip = l'.map strip) : Rl R (pure' a l) (pure' b l') := ⟨.inr ⟨a, b, rfl, rfl, h⟩, hl, rfl⟩
theorem rl_wrong {α : Type} {R : α → α → Prop} {l l' : List Tk} (hl : l.map strip = l'.map strip) : Rl R (wrong' l) (wrong' l') := ⟨.inl ⟨rfl, rfl⟩, hl, rfl⟩
theorem rl_map {α β : Type} {R : α → α → Prop} {Q : β → β → Prop} {x y : Rs α} {f g : α → β} (h : Rl R x y) (hf : ∀ a b, R a b → Q (f a) (g b)) : Rl Q (x.map f) (y.map g) := by
  refine ⟨?_, h.rest, h.many⟩
  rcases h.val with ⟨h1, h2⟩ | ⟨a, b, h1, h2, hR⟩
  · left; exact ⟨by show x.val.map f = none; rw [h1]; rfl, by show y.val.map g = none; rw [h2]; rfl⟩
  · right; exact ⟨f a, g b, by show x.val.map f = _; rw [h1]; rfl, by show y.val.map g = _; rw [h2]; rfl, hf a b hR⟩
theorem rl_note {α : Type} {R : α → α → Prop} {x y : Rs α} (c : Bool) {l l' : List Tk} (h : Rl R x y) : Rl R (note c l x) (note c l' y) := by
  cases c
  · exact h
  · exact ⟨h.val, h.rest, by show x.many.length + 1 = y.many.length + 1; rw [h.many]⟩
theorem isT_strip {k : Int} {s : List UInt8} {t t' : Tk} (h : strip t = strip t') : isT k s t = isT k s t' := by
  simp only [strip, Prod.mk.injEq] at h
  unfold isT; rw [h.1, h.2.2]
theorem cons_strip {l l' : List Tk} (h : l.map strip = l'.map strip) : (l = [] ∧ l' = []) ∨ ∃ t r t' r', l = t :: r ∧ l' = t' :: r' ∧ strip t = strip t' ∧ r.map strip = r'.map strip := by
  cases l with
  | nil =>
    cases l' with
    | nil => exact .inl ⟨rfl, rfl⟩
    | cons t r => simp at h
  | cons t r =>
    cases l' with
    | nil => simp at h
    | cons t' r' => simp at h; exact .inr ⟨t, r, t', r', rfl, rfl, h.1, h.2⟩
theorem map_cons {t t' : Tk} {r r' : List Tk} (h1 : strip t = strip t') (h2 : r.map strip = r'.map strip) : (t :: r).map strip = (t' :: r').map strip := by
  simp [h1, h2]
def RE (a b : Ex) : Prop := sameH a.1 b.1 = true ∧ sameF a.2 b.2 = true
def RK (a b : List Ex) : Prop := sameF (ofL a) (ofL b) = true
def RU (_ _ : Unit) : Prop := True
theorem rk_len {a b : List Ex} (h : RK a b) : a.length = b.length := by
  rcases Classical.em (a.length = b.length) with e | e
  · exact e
  · have := sameF_len (ofL a) (ofL b) (by rw [lenF_of, lenF_of]; exact e)
    unfold RK at h
    rw [this] at h; cases h
theorem rk_snoc : ∀ {a b : List Ex} {x y : Ex}, RK a b → RE x y → RK (a ++ [x]) (b ++ [y])
  | [], [], x, y, _, h => by simp [RK, ofL, nd, sameF, h.1, h.2]
  | [], _ :: _, _, _, h, _ => by simp [RK, ofL, nd, sameF] at h
  | _ :: _, [], _, _, h, _ => by simp [RK, ofL, nd, sameF] at h
  | p :: a, q :: b, x, y, h, hxy => by
    simp only [RK, ofL, nd, sameF, Bool.and_eq_true, List.cons_append] at h ⊢
    exact ⟨h.1, h.2.1, rk_snoc (a := a) (b := b) h.2.2 hxy⟩
theorem hdB_same {k : Int} {t t' : Tk} : sameH (hdB k t) (hdB k t') = true := by simp [sameH, hdB]
theorem re_two {a b c d : Ex} {k : Int} {t t' : Tk} (h1 : RE a b) (h2 : RE c d) : RE (hdB k t, ofL [a, c]) (hdB k t', ofL [b, d]) := by
  exact ⟨hdB_same, by simp [ofL, nd, sameF, h1.1, h1.2, h2.1, h2.2]⟩
theorem rl_sign {s : List UInt8} {l l' : List Tk} (h : l.map strip = l'.map strip) : Rl RU (signG s l) (signG s l') := by
  rcases cons_strip h with ⟨rfl, rfl⟩ | ⟨t, r, t', r', rfl, rfl, h1, h2⟩
  · exact rl_wrong rfl
  · show Rl RU (if isT 6 s t = true then _ else _) (if isT 6 s t' = true then _ else _)
    rw [isT_strip h1]
    split
    · exact rl_pure trivial h2
    · exact rl_wrong (map_cons h1 h2)
section
variable {fac : List Tk → Rs Ex}
theorem rl_termGo (hf : ∀ l l', l.map strip = l'.map strip → Rl RE (fac l) (fac l')) : ∀ (m : Nat) (e e' : Ex) (l l' : List Tk), RE e e' → l.map strip = l'.map strip → Rl RE (termGo fac m e l) (termGo fac m e' l')
  | 0, e, e', l, l', he, hl => rl_pure he hl
  | m + 1, e, e', l, l', he, hl => by
    rcases cons_strip hl with ⟨rfl, rfl⟩ | ⟨t, r, t', r', rfl, rfl, h1, h2⟩
    · exact rl_pure he rfl
    · rw [termGo, termGo, isT_strip h1]
      split
      · exact rl_bind (hf r r' h2) fun a b l l' hR hll => rl_termGo hf m _ _ _ _ (re_two he hR) hll
      · exact rl_pure he hl
theorem rl_term (hf : ∀ l l', l.map strip = l'.map strip → Rl RE (fac l) (fac l')) (l l' : List Tk) (hl : l.map strip = l'.map strip) : Rl RE (termG fac l) (termG fac l') :=
  rl_bind (hf l l' hl) fun a b l l' hR hll => rl_termGo hf mx a b l l' hR hll
theorem rl_exprGo (hf : ∀ l l', l.map strip = l'.map strip → Rl RE (fac l) (fac l')) : ∀ (m : Nat) (e e' : Ex) (l l' : List Tk), RE e e' → l.map strip = l'.map strip → Rl RE (exprGo fac m e l) (exprGo fac m e' l')
  | 0, e, e', l, l', he, hl => rl_pure he hl
  | m + 1, e, e', l, l', he, hl => by
    rcases cons_strip hl with ⟨rfl, rfl⟩ | ⟨t, r, t', r', rfl, rfl, h1, h2⟩
    · exact rl_pure he rfl
    · rw [exprGo, exprGo, isT_strip h1, isT_strip h1]
      split
      · exact rl_bind (hf r r' h2) fun a b l l' hR hll => rl_exprGo hf m _ _ _ _ (re_two he hR) hll
      · exact rl_pure he hl
theorem rl_expr (hf : ∀ l l', l.map strip = l'.map strip → Rl RE (fac l) (fac l')) (l l' : List Tk) (hl : l.map strip = l'.map strip) : Rl RE (exprG fac l) (exprG fac l') :=
  rl_bind (rl_term hf l l' hl) fun a b l l' hR hll => rl_exprGo (rl_term hf) mx a b l l' hR hll
theorem rl_kidsGo (hf : ∀ l l', l.map strip = l'.map strip → Rl RE (fac l) (fac l')) : ∀ (m : Nat) (e e' : List Ex) (l l' : List Tk), RK e e' → l.map strip = l'.map strip → Rl RK (kidsGo fac m e l) (kidsGo fac m e' l')
  | 0, e, e', l, l', he, hl => rl_pure he hl
  | m + 1, e, e', l, l', he, hl => by
    rcases cons_strip hl with ⟨rfl, rfl⟩ | ⟨t, r, t', r', rfl, rfl, h1, h2⟩
    · exact rl_pure he rfl
    · rw [kidsGo, kidsGo, isT_strip h1, rk_len he]
      split
      · exact rl_note _ (rl_bind (hf r r' h2) fun a b l l' hR hll => rl_kidsGo hf m _ _ _ _ (rk_snoc he hR) hll)
      · exact rl_pure he hl
theorem rl_close {α : Type} {R : α → α → Prop} {s : List UInt8} {x y : Rs α} (h : Rl R x y) : Rl R (closeG s x) (closeG s y) :=
  rl_bind h fun _ _ _ _ hR hll => rl_bind (rl_sign hll) fun _ _ _ _ _ h2 => rl_pure hR h2
theorem rl_kids (hf : ∀ l l', l.map strip = l'.map strip → Rl RE (fac l) (fac l')) (l l' : List Tk) (hl : l.map strip = l'.map strip) : Rl RK (kidsG fac l) (kidsG fac l') :=
  rl_bind (rl_sign hl) fun _ _ _ _ _ hll => rl_close (rl_bind (hf _ _ hll) fun a b _ _ hR h2 => rl_kidsGo hf mx [a] [b] _ _ (by simp [RK, ofL, nd, sameF, hR.1, hR.2]) h2)
end
theorem rl_fac : ∀ (n : Nat) (l l' : List Tk), l.map strip = l'.map strip → Rl RE (facN n l) (facN n l')
  | 0, l, l', h => rl_wrong h
  | n + 1, l, l', h => by
    rcases cons_strip h with ⟨rfl, rfl⟩ | ⟨t, r, t', r', rfl, rfl, h1, h2⟩
    · exact rl_wrong rfl
    · have hs := h1
      simp only [strip, Prod.mk.injEq] at hs
      rw [facN, facN, hs.1, isT_strip (s := [45]) h1, isT_strip (s := [40]) h1, isT_strip (s := wMin) h1, isT_strip (s := wMax) h1]
      have ih := rl_fac n
      repeat' split
      · exact rl_pure (by simp [RE, sameH, sameF, hs.2.1]) h2
      · exact rl_pure (by simp [RE, sameH, sameF, hs.2.2]) h2
      · exact rl_pure (by simp [RE, sameH, sameF, hs.2.2]) h2
      · exact rl_map (ih r r' h2) fun a b hR => ⟨hdB_same, by simp [ofL, nd, sameF, hR.1, hR.2]⟩
      · exact rl_close (rl_expr ih r r' h2)
      · exact rl_map (rl_kids (rl_expr ih) r r' h2) fun a b hR => ⟨hdB_same, hR⟩
      · exact rl_map (rl_kids (rl_expr ih) r r' h2) fun a b hR => ⟨hdB_same, hR⟩
      · exact rl_wrong h
def RB (a b : List UInt8) : Prop := a = b
def RF (a b : Fo) : Prop := sameF a b = true
def RP (a b : List UInt8 × Fo) : Prop := a.1 = b.1 ∧ sameF a.2 b.2 = true
def RI (a b : It) : Prop := a.kind = b.kind ∧ a.name = b.name ∧ sameF a.args b.args = true
def RL' (a b : List It) : Prop := sameI a b = true
theorem rl_name {l l' : List Tk} (h : l.map strip = l'.map strip) : Rl RB (nameG l) (nameG l') := by
  rcases cons_strip h with ⟨rfl, rfl⟩ | ⟨t, r, t', r', rfl, rfl, h1, h2⟩
  · exact rl_wrong rfl
  · have hs := h1
    simp only [strip, Prod.mk.injEq] at hs
    show Rl RB (if t.kind = 3 then _ else _) (if t'.kind = 3 then _ else _)
    rw [hs.1]
    split
    · exact rl_pure hs.2.2 h2
    · exact rl_wrong h
theorem rl_way {l l' : List Tk} (h : l.map strip = l'.map strip) : Rl RB (wayG l) (wayG l') := by
  rcases cons_strip h with ⟨rfl, rfl⟩ | ⟨t, r, t', r', rfl, rfl, h1, h2⟩
  · exact rl_wrong rfl
  · have hs := h1
    simp only [strip, Prod.mk.injEq] at hs
    show Rl RB (if t.kind = 4 ∧ isWayB t.text = true then pure' t.text r else _) (if t'.kind = 4 ∧ isWayB t'.text = true then pure' t'.text r' else _)
    rw [hs.1, hs.2.2]
    split
    · exact rl_pure rfl h2
    · exact rl_wrong h
section
variable {ex : List Tk → Rs Ex}
theorem rl_one (hf : ∀ l l', l.map strip = l'.map strip → Rl RE (ex l) (ex l')) {l l' : List Tk} (h : l.map strip = l'.map strip) : Rl RF (oneG ex l) (oneG ex l') :=
  rl_bind (hf l l' h) fun a b _ _ hR h2 => rl_pure (by simp [RF, ofL, nd, sameF, hR.1, hR.2]) h2
theorem rl_both (hf : ∀ l l', l.map strip = l'.map strip → Rl RE (ex l) (ex l')) {s : List UInt8} {l l' : List Tk} (h : l.map strip = l'.map strip) : Rl RF (bothG ex s l) (bothG ex s l') :=
  rl_bind (hf l l' h) fun a b _ _ hR h2 => rl_bind (rl_sign h2) fun _ _ _ _ _ h3 => rl_bind (hf _ _ h3) fun c d _ _ hR2 h4 => rl_pure (by simp [RF, ofL, nd, sameF, hR.1, hR.2, hR2.1, hR2.2]) h4
theorem rl_body (hf : ∀ l l', l.map strip = l'.map strip → Rl RE (ex l) (ex l')) (k : Int) {l l' : List Tk} (h : l.map strip = l'.map strip) : Rl RP (bodyG ex k l) (bodyG ex k l') := by
  unfold bodyG
  repeat' split
  · exact rl_bind (rl_name h) fun a b _ _ hab h2 => rl_bind (rl_sign h2) fun _ _ _ _ _ h3 => rl_bind (rl_one hf h3) fun c d _ _ hcd h4 => rl_pure ⟨hab, hcd⟩ h4
  · exact rl_bind (rl_way h) fun a b _ _ hab h2 => rl_pure ⟨hab, rfl⟩ h2
  · exact rl_bind (rl_both hf h) fun a b _ _ hab h2 => rl_pure ⟨rfl, hab⟩ h2
  · exact rl_bind (rl_both hf h) fun a b _ _ hab h2 => rl_pure ⟨rfl, hab⟩ h2
  · exact rl_bind (rl_one hf h) fun a b _ _ hab h2 => rl_pure ⟨rfl, hab⟩ h2
theorem rl_item (hf : ∀ l l', l.map strip = l'.map strip → Rl RE (ex l) (ex l')) {l l' : List Tk} (h : l.map strip = l'.map strip) : Rl RI (itemG ex l) (itemG ex l') := by
  rcases cons_strip h with ⟨rfl, rfl⟩ | ⟨t, r, t', r', rfl, rfl, h1, h2⟩
  · exact rl_wrong rfl
  · have hs := h1
    simp only [strip, Prod.mk.injEq] at hs
    show Rl RI (if t.kind = 4 ∧ itemKindB t.text ≠ 0 then (closeG [59] (bodyG ex (itemKindB t.text) r)).map (fun b => (⟨itemKindB t.text, b.1, b.2, t.pl⟩ : It)) else wrong' (t :: r)) (if t'.kind = 4 ∧ itemKindB t'.text ≠ 0 then (closeG [59] (bodyG ex (itemKindB t'.text) r')).map (fun b => (⟨itemKindB t'.text, b.1, b.2, t'.pl⟩ : It)) else wrong' (t' :: r'))
    rw [hs.1, hs.2.2]
    split
    · exact rl_map (rl_close (rl_body hf _ h2)) fun a b hab => ⟨rfl, hab.1, hab.2⟩
    · exact rl_wrong h
theorem rI_snoc : ∀ {a b : List It} {x y : It}, RL' a b → RI x y → RL' (a ++ [x]) (b ++ [y])
  | [], [], x, y, _, h => by simp [RL', sameI, h.1, h.2.1, h.2.2]
  | [], _ :: _, _, _, h, _ => by simp [RL', sameI] at h
  | _ :: _, [], _, _, h, _ => by simp [RL', sameI] at h
  | p :: a, q :: b, x, y, h, hxy => by
    simp only [RL', sameI, Bool.and_eq_true, List.cons_append] at h ⊢
    exact ⟨h.1, rI_snoc (a := a) (b := b) h.2 hxy⟩
theorem rI_len {a b : List It} (h : RL' a b) : a.length = b.length := by
  rcases Classical.em (a.length = b.length) with e | e
  · exact e
  · have := sameI_len a b e
    unfold RL' at h
    rw [this] at h; cases h
theorem rl_source (hf : ∀ l l', l.map strip = l'.map strip → Rl RE (ex l) (ex l')) : ∀ (m : Nat) (e e' : List It) (l l' : List Tk), RL' e e' → l.map strip = l'.map strip → Rl RL' (sourceGo ex m e l) (sourceGo ex m e' l')
  | 0, e, e', l, l', he, hl => rl_pure he hl
  | m + 1, e, e', l, l', he, hl => by
    rcases cons_strip hl with ⟨rfl, rfl⟩ | ⟨t, r, t', r', rfl, rfl, h1, h2⟩
    · exact rl_pure he rfl
    · have hs := h1
      simp only [strip, Prod.mk.injEq] at hs
      rw [sourceGo, sourceGo, hs.1, rI_len he]
      split
      · exact rl_pure he hl
      · exact rl_note _ (rl_bind (rl_item hf hl) fun a b l l' hR hll => rl_source hf m _ _ _ _ (rI_snoc he hR) hll)
end
theorem depW_same : ∀ {F G : Fo}, sameF F G = true → depW F = depW G
  | .nil, .nil, _ => rfl
  | .nil, .node _ _ _ _ _, h => by cases h
  | .node _ _ _ _ _, .nil, h => by cases h
  | .node _ _ _ k r, .node _ _ _ k' r', h => by
    simp only [sameF, Bool.and_eq_true] at h
    simp only [depW]
    rw [depW_same h.2.1, depW_same h.2.2]
theorem deepR_same : ∀ {a b : List It}, sameI a b = true → (deepR a).1 = (deepR b).1
  | [], [], _ => rfl
  | [], _ :: _, h => by cases h
  | _ :: _, [], h => by cases h
  | i :: r, j :: s, h => by
    simp only [sameI, Bool.and_eq_true] at h
    have h1 : deepW i = deepW j := by unfold deepW; rw [depW_same h.1.2.2]
    rw [deepR_cons, deepR_cons, h1]
    split
    · rfl
    · exact deepR_same h.2
theorem flt_same {m m' : List Int} (h : m.length = m'.length) : (flt m (0, 0)).1 = (flt m' (0, 0)).1 := by
  cases m with
  | nil =>
    cases m' with
    | nil => rfl
    | cons a r => simp at h
  | cons a r =>
    cases m' with
    | nil => simp at h
    | cons b s => rfl
/-- Tokens that are the same but for places say the same but for places. -/
theorem end_same {T M : List Tk} (h : M.map strip = T.map strip) : sameI (endW (sourceG T)).1 (endW (sourceG M)).1 = true ∧ (endW (sourceG T)).2.1 = (endW (sourceG M)).2.1 := by
  have hr := rl_source (rl_expr (rl_fac mx)) mx [] [] T M rfl h.symm
  have hx : Rl RL' (sourceG T) (sourceG M) := hr
  generalize sourceG T = x at *
  generalize sourceG M = y at *
  unfold endW
  rcases hx.val with ⟨h1, h2⟩ | ⟨a, b, h1, h2, hR⟩
  · rw [h1, h2]; exact ⟨rfl, rfl⟩
  · rw [h1, h2]
    simp only
    rw [flt_same hx.many, deepR_same hR]
    split
    · exact ⟨rfl, flt_same hx.many⟩
    · split
      · exact ⟨rfl, deepR_same hR⟩
      · exact ⟨hR, rfl⟩
end Go.Proofs.YtpeldiibjhffiaaDoor
namespace Go.Proofs.YtpeldiibjhffiaaDoor
open Go.RowKit Go.Deep

/-- An end of a list, behind tokens none of which is the end. -/
def SufN (a b : List Tk) : Prop := ∃ p, b = p ++ a ∧ ∀ t ∈ p, t.kind ≠ 1
theorem sufN_refl (a : List Tk) : SufN a a := ⟨[], rfl, by simp⟩
theorem sufN_cons {t : Tk} (r : List Tk) (h : t.kind ≠ 1) : SufN r (t :: r) := ⟨[t], rfl, by simpa using h⟩
theorem SufN.trans {a b c : List Tk} (h : SufN a b) (k : SufN b c) : SufN a c := by
  obtain ⟨p, rfl, hp⟩ := h
  obtain ⟨q, rfl, hq⟩ := k
  refine ⟨q ++ p, by simp, fun t ht => ?_⟩
  rcases List.mem_append.1 ht with h | h
  · exact hq t h
  · exact hp t h
theorem bind_sufN {α β : Type} {x : Rs α} {f : α → List Tk → Rs β} {l : List Tk} (h : SufN x.rest l) (hf : ∀ a, SufN (f a x.rest).rest x.rest) : SufN (x.bind f).rest l := by
  cases hx : x.val with
  | none => rw [bind_none _ hx]; exact h
  | some a => rw [bind_some _ hx]; exact (hf a).trans h
theorem note_sufN {α : Type} {c : Bool} {l l' : List Tk} {x : Rs α} (h : SufN x.rest l') : SufN (note c l x).rest l' := by
  unfold note; split <;> exact h
theorem sign_sufN (s : List UInt8) (l : List Tk) : SufN (signG s l).rest l := by
  cases l with
  | nil => exact sufN_refl _
  | cons t r =>
    show SufN (if isT 6 s t = true then pure' () r else wrong' (t :: r)).rest _
    split
    · rename_i h; exact sufN_cons _ (isT_kind h (by decide))
    · exact sufN_refl _
theorem close_sufN {α : Type} {s : List UInt8} {x : Rs α} {l : List Tk} (h : SufN x.rest l) : SufN (closeG s x).rest l :=
  bind_sufN h fun _ => bind_sufN (sign_sufN s _) fun _ => sufN_refl _
section
variable {fac : List Tk → Rs Ex}
theorem termGo_sufN (hf : ∀ l, SufN (fac l).rest l) : ∀ (m : Nat) (e : Ex) (l : List Tk), SufN (termGo fac m e l).rest l
  | 0, e, l => sufN_refl _
  | _ + 1, e, [] => sufN_refl _
  | m + 1, e, t :: r => by
    rw [termGo]
    split
    · rename_i h; exact (bind_sufN (hf r) fun a => termGo_sufN hf m _ _).trans (sufN_cons _ (isT_kind h (by decide)))
    · exact sufN_refl _
theorem term_sufN (hf : ∀ l, SufN (fac l).rest l) (l : List Tk) : SufN (termG fac l).rest l := bind_sufN (hf l) fun _ => termGo_sufN hf _ _ _
theorem exprGo_sufN (hf : ∀ l, SufN (fac l).rest l) : ∀ (m : Nat) (e : Ex) (l : List Tk), SufN (exprGo fac m e l).rest l
  | 0, e, l => sufN_refl _
  | _ + 1, e, [] => sufN_refl _
  | m + 1, e, t :: r => by
    rw [exprGo]
    split
    · rename_i h
      have hk : t.kind ≠ 1 := by
        rcases Bool.or_eq_true _ _ ▸ h with h | h
        · exact isT_kind h (by decide)
        · exact isT_kind h (by decide)
      exact (bind_sufN (hf r) fun a => exprGo_sufN hf m _ _).trans (sufN_cons _ hk)
    · exact sufN_refl _
theorem expr_sufN (hf : ∀ l, SufN (fac l).rest l) (l : List Tk) : SufN (exprG fac l).rest l := bind_sufN (term_sufN hf l) fun _ => exprGo_sufN (term_sufN hf) _ _ _
theorem kidsGo_sufN (hf : ∀ l, SufN (fac l).rest l) : ∀ (m : Nat) (ks : List Ex) (l : List Tk), SufN (kidsGo fac m ks l).rest l
  | 0, e, l => sufN_refl _
  | _ + 1, e, [] => sufN_refl _
  | m + 1, e, t :: r => by
    rw [kidsGo]
    split
    · rename_i h; exact (note_sufN (bind_sufN (hf r) fun a => kidsGo_sufN hf m _ _)).trans (sufN_cons _ (isT_kind h (by decide)))
    · exact sufN_refl _
theorem kids_sufN (hf : ∀ l, SufN (fac l).rest l) (l : List Tk) : SufN (kidsG fac l).rest l :=
  bind_sufN (sign_sufN _ l) fun _ => close_sufN (bind_sufN (hf _) fun _ => kidsGo_sufN hf _ _ _)
end
theorem fac_sufN : ∀ (n : Nat) (l : List Tk), SufN (facN n l).rest l
  | 0, l => sufN_refl _
  | _ + 1, [] => sufN_refl _
  | n + 1, t :: r => by
    have h := fac_sufN n
    rw [facN]
    split
    · rename_i hk; exact sufN_cons _ (by rw [hk]; decide)
    · split
      · rename_i hk; exact sufN_cons _ (by rw [hk]; decide)
      · split
        · rename_i hk; exact sufN_cons _ (by rw [hk]; decide)
        · split
          · rename_i hk; exact (h r).trans (sufN_cons _ (isT_kind hk (by decide)))
          · split
            · rename_i hk; exact (close_sufN (expr_sufN h r)).trans (sufN_cons _ (isT_kind hk (by decide)))
            · split
              · rename_i hk; exact (kids_sufN (expr_sufN h) r).trans (sufN_cons _ (isT_kind hk (by decide)))
              · split
                · rename_i hk; exact (kids_sufN (expr_sufN h) r).trans (sufN_cons _ (isT_kind hk (by decide)))
                · exact sufN_refl _
/-- What is read hangs on what is taken, and the token behind it. -/
def LocC {α : Type} (G : List Tk → Rs α) : Prop := ∀ p c x y a, (G (p ++ c :: x)).val = some a → (G (p ++ c :: x)).rest = c :: x → G (p ++ c :: y) = ⟨some a, c :: y, (G (p ++ c :: x)).many⟩
/-- What is read hangs on what is taken. -/
def Loc0 {α : Type} (G : List Tk → Rs α) : Prop := ∀ p x y a, (G (p ++ x)).val = some a → (G (p ++ x)).rest = x → G (p ++ y) = ⟨some a, y, (G (p ++ x)).many⟩
theorem Loc0.c {α : Type} {G : List Tk → Rs α} (h : Loc0 G) : LocC G := fun p c x y a h1 h2 => h p (c :: x) (c :: y) a h1 h2
def Sf {α : Type} (G : List Tk → Rs α) : Prop := ∀ l, SufN (G l).rest l
theorem loc_bind {α β : Type} {F : List Tk → Rs α} {H : α → List Tk → Rs β} (hF : LocC F) (sF : Sf F) (hH : ∀ a, LocC (H a)) (sH : ∀ a, Sf (H a)) : LocC fun l => (F l).bind (H) := by
  intro p c x y b hv hr
  cases hx : (F (p ++ c :: x)).val with
  | none =>
    have hv' : ((F (p ++ c :: x)).bind H).val = some b := hv
    rw [bind_none _ hx] at hv'; cases hv'
  | some a =>
    have hv' : ((F (p ++ c :: x)).bind H).val = some b := hv
    have hr' : ((F (p ++ c :: x)).bind H).rest = c :: x := hr
    rw [bind_pre _ hx] at hv' hr'
    obtain ⟨p1, h1, _⟩ := sF (p ++ c :: x)
    obtain ⟨p2, h2, _⟩ := sH a (F (p ++ c :: x)).rest
    have hr2 : (H a (F (p ++ c :: x)).rest).rest = c :: x := hr'
    have hv2 : (H a (F (p ++ c :: x)).rest).val = some b := hv'
    rw [hr2] at h2
    have hp : p = p1 ++ p2 := by
      rw [h2, ← List.append_assoc] at h1
      exact List.append_cancel_right h1
    subst hp
    show (F (p1 ++ p2 ++ c :: y)).bind H = ⟨some b, c :: y, ((F (p1 ++ p2 ++ c :: x)).bind H).many⟩
    rw [bind_pre _ hx]
    cases p2 with
    | nil =>
      rw [List.append_nil] at *
      have hr1 : (F (p1 ++ c :: x)).rest = c :: x := h2
      have e1 := hF p1 c x y a hx hr1
      rw [e1]
      rw [hr1] at hv2 hr2 ⊢
      have e2 := hH a [] c x y b hv2 hr2
      simp only [List.nil_append] at e2
      show (Rs.bind ⟨some a, c :: y, (F (p1 ++ c :: x)).many⟩ H) = _
      rw [bind_pre (x := ⟨some a, c :: y, (F (p1 ++ c :: x)).many⟩) H rfl]
      simp only
      rw [e2]; rfl
    | cons d p3 =>
      rw [show p1 ++ d :: p3 ++ c :: x = p1 ++ d :: (p3 ++ c :: x) by simp] at *
      rw [show p1 ++ d :: p3 ++ c :: y = p1 ++ d :: (p3 ++ c :: y) by simp]
      have hr1 : (F (p1 ++ d :: (p3 ++ c :: x))).rest = d :: (p3 ++ c :: x) := by rw [h2]; rfl
      have e1 := hF p1 d (p3 ++ c :: x) (p3 ++ c :: y) a hx hr1
      rw [e1]
      rw [hr1] at hv2 hr2 ⊢
      have e2 := hH a (d :: p3) c x y b hv2 hr2
      simp only [List.cons_append] at e2
      rw [bind_pre (x := ⟨some a, d :: (p3 ++ c :: y), (F (p1 ++ d :: (p3 ++ c :: x))).many⟩) H rfl]
      simp only
      rw [e2]; rfl
theorem loc_pure {α : Type} (a : α) : Loc0 fun l => pure' a l := by
  intro p x y b hv hr
  have hp : p = [] := by
    have hr' : p ++ x = x := hr
    have := congrArg List.length hr'
    rw [List.length_append] at this
    exact List.eq_nil_of_length_eq_zero (by omega)
  subst hp
  have hv' : some a = some b := hv
  rw [← hv']; rfl
theorem loc_map {α β : Type} {F : List Tk → Rs α} (f : α → β) (h : LocC F) : LocC fun l => (F l).map f := by
  intro p c x y b hv hr
  cases hx : (F (p ++ c :: x)).val with
  | none =>
    have hv' : (F (p ++ c :: x)).val.map f = some b := hv
    rw [hx] at hv'; cases hv'
  | some a =>
    have hv' : (F (p ++ c :: x)).val.map f = some b := hv
    rw [hx] at hv'
    have e := h p c x y a hx hr
    show (F (p ++ c :: y)).map f = _
    rw [e, ← hv']; rfl
theorem loc_sign (s : List UInt8) : Loc0 (signG s) := by
  intro p x y u hv hr
  cases p with
  | nil =>
    cases x with
    | nil => cases hv
    | cons t r =>
      have hr' : (if isT 6 s t = true then pure' () r else wrong' (t :: r)).rest = t :: r := hr
      have hv' : (if isT 6 s t = true then pure' () r else wrong' (t :: r)).val = some u := hv
      split at hr'
      · have hr2 : r = t :: r := hr'
        have := congrArg List.length hr2
        simp at this
      · rename_i h; rw [if_neg h] at hv'; cases hv'
  | cons t p =>
    have hr' : (if isT 6 s t = true then pure' () (p ++ x) else wrong' (t :: (p ++ x))).rest = x := hr
    have hv' : (if isT 6 s t = true then pure' () (p ++ x) else wrong' (t :: (p ++ x))).val = some u := hv
    split at hr'
    · rename_i h
      have hr2 : p ++ x = x := hr'
      have hp : p = [] := by
        have := congrArg List.length hr2
        rw [List.length_append] at this
        exact List.eq_nil_of_length_eq_zero (by omega)
      subst hp
      show (if isT 6 s t = true then pure' () y else _) = (⟨some u, y, (if isT 6 s t = true then pure' () x else _).many⟩ : Rs Unit)
      rw [if_pos h, if_pos h]; rfl
    · rename_i h; rw [if_neg h] at hv'; cases hv'
/-- With a sign that must stand behind it, it hangs on what is taken alone. -/
theorem loc_close {α : Type} {F : List Tk → Rs α} (s : List UInt8) (hF : LocC F) (sF : Sf F) : Loc0 fun l => closeG s (F l) := by
  intro p x y b hv hr
  have hv' : (closeG s (F (p ++ x))).val = some b := hv
  have hr' : (closeG s (F (p ++ x))).rest = x := hr
  cases hx : (F (p ++ x)).val with
  | none => unfold closeG at hv'; rw [bind_none _ hx] at hv'; cases hv'
  | some a =>
    unfold closeG at hv' hr'
    rw [bind_pre _ hx] at hv' hr'
    obtain ⟨p1, h1, _⟩ := sF (p ++ x)
    cases hl : (F (p ++ x)).rest with
    | nil => rw [hl] at hv'; cases hv'
    | cons t r =>
      rw [hl] at hv' hr' h1
      cases hi : isT 6 s t with
      | false =>
        have : ((signG s (t :: r)).bind fun _ l2 => pure' a l2).val = some b := hv'
        rw [show signG s (t :: r) = wrong' (t :: r) from by show (if isT 6 s t = true then _ else _) = _; rw [if_neg (by rw [hi]; decide)]] at this
        cases this
      | true =>
        have es : ∀ z, signG s (t :: z) = pure' () z := fun z => by show (if isT 6 s t = true then _ else _) = _; rw [if_pos hi]
        have hr2 : ((signG s (t :: r)).bind fun _ l2 => pure' a l2).rest = x := hr'
        have hv2 : ((signG s (t :: r)).bind fun _ l2 => pure' a l2).val = some b := hv'
        rw [es] at hr2 hv2
        have hrx : r = x := hr2
        have hab : a = b := Option.some.inj hv2
        subst hrx hab
        have hp : p = p1 ++ [t] := by
          rw [show p1 ++ t :: r = (p1 ++ [t]) ++ r by simp] at h1
          exact List.append_cancel_right h1
        subst hp
        rw [show p1 ++ [t] ++ r = p1 ++ t :: r by simp] at *
        have e1 := hF p1 t r y a hx hl
        show closeG s (F (p1 ++ [t] ++ y)) = ⟨some a, y, (closeG s (F (p1 ++ t :: r))).many⟩
        rw [show p1 ++ [t] ++ y = p1 ++ t :: y by simp, e1]
        unfold closeG
        rw [bind_pre (x := (⟨some a, t :: y, (F (p1 ++ t :: r)).many⟩ : Rs α)) _ rfl, bind_pre _ hx, hl]
        simp only
        rw [es, es]; rfl
end Go.Proofs.YtpeldiibjhffiaaDoor
