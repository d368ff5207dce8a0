/-
  The walk of the document's own next. The tokens of a piece of a source whose end is a line's end, in plain lists. Blanks and remarks put ahead of the tokens of a source, in plain lists.
-/
import Derived.RegionTactic
import Derived.BigRegion
import Derived.Test.YtpeldiibjhffiaaDoorG18
namespace Go.Proofs.YtpeldiibjhffiaaDoor
open Go.RowKit

theorem first_ok {S : List UInt8} {k n : Int} {t : List UInt8} {l : Nat} (h : firstA S = (k, n, t, l, 0)) : errB S = 0 ∧ kindB S = k ∧ (numB S : Int) = n ∧ textB S = t ∧ lenB S = l := by
  unfold firstA at h
  split at h
  · rename_i he
    cases h
    exact ⟨he, rfl, rfl, rfl, rfl⟩
  · rename_i he
    simp at h
    exact absurd h.2.2.2.2 he
theorem first_wrong {S : List UInt8} {z : Int} (h : firstA S = (0, 0, [], 0, z)) (hz : z ≠ 0) : errB S = z := by
  unfold firstA at h
  split at h
  · simp at h; exact absurd h.2.2.2.2.symm hz
  · simp at h; exact h
/-- What the document's next leaves. -/
def NextPost (S : List UInt8) (p : Nat) (w : World) (e : Ending) (w' : World) : Prop :=
  ∃ (k n : Int) (x : ByteArray) (y b : Int), e = .returned (.tuple #[.agg #[.int .i64 k, .int .i64 n, .string x, .int .i64 y], .int .i64 b, .int .i64 (errB S)]) ∧ (errB S = 0 → k = kindB S ∧ n = (numB S : Int) ∧ x = bs (textB S) ∧ y = (p : Int) ∧ b = ((p + lenB S : Nat) : Int)) ∧ Below w.heap.size w w'
theorem next_ok {S : List UInt8} {p : Nat} {w w' : World} {k n b : Int} {t : List UInt8} {l : Nat} (h : firstA S = (k, n, t, l, 0)) (hb : b = (p : Int) + (l : Int)) (hw : Below w.heap.size w w') :
    NextPost S p w (.returned (.tuple #[.agg #[.int .i64 k, .int .i64 n, .string (bs t), .int .i64 (p : Int)], .int .i64 b, .int .i64 0])) w' := by
  obtain ⟨h1, h2, h3, h4, h5⟩ := first_ok h
  refine ⟨k, n, bs t, p, b, by rw [h1], fun _ => ⟨h2.symm, h3.symm, by rw [h4], rfl, by rw [h5, hb]; omega⟩, hw⟩
theorem next_okx {S : List UInt8} {p : Nat} {w w' : World} {k n b : Int} {t : List UInt8} {l : Nat} {x : ByteArray} (h : firstA S = (k, n, t, l, 0)) (hx : x = bs t) (hb : b = (p : Int) + (l : Int)) (hw : Below w.heap.size w w') :
    NextPost S p w (.returned (.tuple #[.agg #[.int .i64 k, .int .i64 n, .string x, .int .i64 (p : Int)], .int .i64 b, .int .i64 0])) w' := by
  subst hx; exact next_ok h hb hw
theorem next_wrong {S : List UInt8} {p : Nat} {w w' : World} {z k n y : Int} {x : ByteArray} (h : firstA S = (0, 0, [], 0, z)) (hz : z ≠ 0) (hw : Below w.heap.size w w') :
    NextPost S p w (.returned (.tuple #[.agg #[.int .i64 k, .int .i64 n, .string x, .int .i64 y], .int .i64 0, .int .i64 z])) w' := by
  have h1 := first_wrong h hz
  exact ⟨k, n, x, y, 0, by rw [h1], fun h0 => absurd (h1.symm.trans h0) hz, hw⟩
/-- The answer and the token under way. -/
structure NxAt (w : World) (p : Nat) (W : World) : Prop where
  low : Below w.heap.size w W
  ans : W.heap[w.heap.size]? = some (.cells zero4 87 (0, 0))
  tok : W.heap[w.heap.size + 1]? = some (.cells #[.int .i64 0, .int .i64 0, .string ⟨#[]⟩, .int .i64 (p : Int)] 87 (0, 0))
theorem NxAt.next {w W W' : World} {p : Nat} (h : NxAt w p W) (hb : Below W.heap.size W W') : NxAt w p W' :=
  ⟨h.low.trans (hb.mono h.low.size), keepB h.ans hb, keepB h.tok hb⟩
theorem nxAt_start (w : World) (p : Nat) : NxAt w p ((w.alloc (.cells zero4 87 (0, 0))).alloc (.cells #[.int .i64 0, .int .i64 0, .string ⟨#[]⟩, .int .i64 (p : Int)] 87 (0, 0))) := by
  refine ⟨((Below.refl _ _).alloc (Nat.le_refl _) _).alloc (by simp) _, ?_, ?_⟩
  · have h := (Below.refl (w.alloc (.cells zero4 87 (0, 0))).heap.size (w.alloc (.cells zero4 87 (0, 0)))).alloc (Nat.le_refl _) (.cells #[.int .i64 0, .int .i64 0, .string ⟨#[]⟩, .int .i64 (p : Int)] 87 (0, 0))
    rw [h.block _ (by simp)]; exact heap_alloc_new w _
  · have h := heap_alloc_new (w.alloc (.cells zero4 87 (0, 0))) (.cells #[.int .i64 0, .int .i64 0, .string ⟨#[]⟩, .int .i64 (p : Int)] 87 (0, 0))
    simpa using h
theorem numO_dig {c : UInt8} {r : List UInt8} (h : isDig c = true) : firstA (c :: r) = numA (runB (c :: r)) := first_dig h

theorem inner_no34 (r : List UInt8) : ∀ c ∈ innerB r, c ≠ 34 := by
  intro c hc e
  subst e
  exact headB_free 34 r hc
theorem isTxt_inner (r : List UInt8) : isTxtB (innerB r) = (decide ((innerB r).length ≤ 40) && (innerB r).all inText) := by
  unfold isTxtB
  have h : (innerB r).all inText' = (innerB r).all inText := by
    rw [Bool.eq_iff_iff, List.all_eq_true, List.all_eq_true]
    constructor
    · intro h c hc
      have := h c hc
      simp only [inText', Bool.and_eq_true] at this
      exact this.1
    · intro h c hc
      simp only [inText', Bool.and_eq_true, bne_iff_ne]
      exact ⟨h c hc, inner_no34 r c hc⟩
  rw [h, Bool.and_comm]
theorem first_sign {c : UInt8} {r : List UInt8} (hp : isPart c = false) (hq : c ≠ 34) : firstA (c :: r) = if signB (c :: r) = [] then (0, 0, [], 0, 60) else signA (signB (c :: r)) := by
  by_cases hpp : c = 46 ∧ r.head? = some 46
  · have e : signB (c :: r) = [46, 46] := by rw [signB, if_pos hpp]
    rw [e, if_neg (by simp)]
    obtain ⟨rfl, h⟩ := hpp
    cases r with
    | nil => cases h
    | cons d t => simp at h; subst h; exact first_points
  · cases hm : isMark c with
    | true =>
      have e : signB (c :: r) = [c] := by rw [signB, if_neg hpp, if_pos hm]
      rw [e, if_neg (by simp)]; exact first_mark hp hq hm
    | false =>
      have e : signB (c :: r) = [] := by rw [signB, if_neg hpp, if_neg (by rw [hm]; decide)]
      rw [e, if_pos rfl]
      by_cases h46 : c = 46
      · subst h46
        exact first_point fun h => hpp ⟨rfl, h⟩
      · exact first_stray hp hq hm h46
end Go.Proofs.YtpeldiibjhffiaaDoor
namespace Go.Proofs.YtpeldiibjhffiaaDoor

/-- What stands behind is no part of a run. -/
def NP (v : List UInt8) : Prop := ∀ c r, v = c :: r → isPart c = false
theorem run_local {u v : List UInt8} (hu : u.all isPart = true) (hv : NP v) : runB (u ++ v) = u := by
  induction u with
  | nil =>
    cases v with
    | nil => rfl
    | cons c r => simp [runB, hv c r rfl]
  | cons c r ih =>
    simp only [List.all_cons, Bool.and_eq_true] at hu
    have h := ih hu.2
    unfold runB at h ⊢
    rw [List.cons_append, List.takeWhile_cons, if_pos hu.1, h]
theorem run_parts (s : List UInt8) : (runB s).all isPart = true := by
  unfold runB
  rw [List.all_eq_true]
  intro c hc
  exact List.all_eq_true.1 (List.all_takeWhile (l := s) (p := isPart)) c hc
theorem inner_local (a v : List UInt8) (ha : ∀ c ∈ a, c ≠ 34) : innerB (a ++ 34 :: v) = a := by
  induction a with
  | nil => simp [innerB]
  | cons c r ih =>
    have h := ih fun d hd => ha d (List.mem_cons_of_mem _ hd)
    have hc := ha c (List.mem_cons_self)
    unfold innerB at h ⊢
    rw [List.cons_append, List.takeWhile_cons, if_pos (by simpa using hc), h]
/-- A token is the same one, whatever stands behind it, if that does not make a run longer. -/
theorem first_local {s v : List UInt8} (hs : s ≠ []) (he : errB s = 0) (hv : ∀ c r, s = c :: r → isPart c = true → NP v) :
    errB (s.take (lenB s) ++ v) = 0 ∧ kindB (s.take (lenB s) ++ v) = kindB s ∧ numB (s.take (lenB s) ++ v) = numB s ∧ textB (s.take (lenB s) ++ v) = textB s ∧ lenB (s.take (lenB s) ++ v) = lenB s ∧ s.take (lenB s) ≠ [] := by
  have hlen := lenB_le hs he
  have hpos := lenB_pos hs
  have hne : s.take (lenB s) ≠ [] := by
    intro e
    have := congrArg List.length e
    rw [List.length_take, List.length_nil] at this
    omega
  cases s with
  | nil => exact absurd rfl hs
  | cons c r =>
    cases hp : isPart c with
    | true =>
      have hl : lenB (c :: r) = (runB (c :: r)).length := by rw [lenB, if_pos hp]
      have ht : (c :: r).take (lenB (c :: r)) = runB (c :: r) := by rw [hl, runB_take]
      have hr : runB (runB (c :: r) ++ v) = runB (c :: r) := run_local (run_parts _) (hv c r rfl hp)
      obtain ⟨d, hd⟩ : ∃ d, runB (c :: r) = c :: d := ⟨_, by unfold runB; rw [List.takeWhile_cons, if_pos hp]⟩
      rw [ht]
      refine ⟨?_, ?_, ?_, ?_, ?_, by rw [hd]; simp⟩
      all_goals rw [hd] at hr ⊢
      all_goals rw [List.cons_append] at hr ⊢
      · simp only [errB, hd, hp, if_true] at he
        simp only [errB, hr, hp, if_true]
        exact he
      · rw [kindB, hr, kindB, hd]
      · rw [numB, hr, numB, hd]
      · rw [textB, hr, textB, hd]; simp [hp]
      · rw [lenB, hr, lenB, hd]; simp [hp]
    | false =>
      have hd : isDig c = false := by
        cases hx : isDig c with
        | false => rfl
        | true => rw [dig_part hx] at hp; cases hp
      by_cases h34 : c = 34
      · subst h34
        obtain ⟨hm, hok⟩ := err_text he
        have hl : lenB (34 :: r) = (innerB r).length + 2 := by rw [lenB, if_neg (by decide), if_pos rfl]
        have ht : (34 :: r).take (lenB (34 :: r)) = 34 :: (innerB r ++ [34]) := by rw [hl, List.take_succ_cons, take_inner hm]
        have hi : innerB (innerB r ++ [34] ++ v) = innerB r := by
          rw [List.append_assoc]; exact inner_local _ _ (inner_no34 r)
        have hok2 : textOk (innerB r ++ [34] ++ v) = true := by
          unfold textOk at hok ⊢
          rw [hi]
          simp only [Bool.and_eq_true, decide_eq_true_eq] at hok ⊢
          exact ⟨by simp, hok.2⟩
        rw [ht, List.cons_append]
        refine ⟨?_, ?_, ?_, ?_, ?_, by simp⟩
        · rw [errB, if_neg (by decide), if_neg (by decide), if_pos rfl, if_pos hok2]
        · simp [kindB, hd, hp]
        · simp [numB, hd]
        · simp only [textB, hd, hp]; simp only [hi]; rfl
        · rw [hl, lenB, if_neg (by decide), if_pos rfl, hi]
      · cases hmk : isMark c with
        | true =>
          have hl : lenB (c :: r) = 1 := by simp [lenB, hp, h34, hmk]
          rw [hl]
          simp [errB, kindB, numB, textB, lenB, hp, hd, h34, hmk]
        | false =>
          rw [errB, if_neg (by rw [hd]; decide), if_neg (by rw [hp]; decide), if_neg h34, if_neg (by rw [hmk]; decide)] at he
          have hpp : c = 46 ∧ r.head? = some 46 := by
            rcases Classical.em (c = 46 ∧ r.head? = some 46) with h | h
            · exact h
            · rw [if_neg h] at he; cases he
          have hl : lenB (c :: r) = 2 := by simp [lenB, hp, h34, hmk]
          obtain ⟨rfl, h2⟩ := hpp
          cases r with
          | nil => cases h2
          | cons d r =>
            simp at h2; subst h2
            rw [hl]
            simp [errB, kindB, numB, textB, lenB, hp, hd, hmk]
theorem run_behind (s : List UInt8) : NP (s.drop (runB s).length) := by
  induction s with
  | nil => intro c r h; simp [runB] at h
  | cons d t ih =>
    unfold runB at ih ⊢
    rw [List.takeWhile_cons]
    cases hd : isPart d with
    | true => simpa using ih
    | false =>
      intro c r h
      simp at h
      rw [← h.1]; exact hd
theorem tokB_nxt {S : List UInt8} {p : Nat} (hs : S.drop p ≠ []) (he : errB (S.drop p) = 0) : tokB p (S.drop p) = (tkB (S.drop p) p :: (tokB (nxt S p) (S.drop (nxt S p))).1, (tokB (nxt S p) (S.drop (nxt S p))).2) := by
  have e1 : (S.drop p).drop (lenB (S.drop p)) = S.drop (p + lenB (S.drop p)) := by rw [List.drop_drop]
  have e2 : (S.drop p).drop (lenB (S.drop p) + skipB (S.drop (p + lenB (S.drop p)))) = S.drop (nxt S p) := by rw [List.drop_drop]; unfold nxt; rw [Nat.add_assoc]
  rw [tokB_ok hs he, e1, e2]
  rfl
section
variable (T : List UInt8)
theorem skip_app : ∀ (a : List UInt8) (m : Bool), skipGo m (a ++ 10 :: T) = if skipGo m a < a.length then skipGo m a else a.length + 1 + skipGo false T
  | [], m => by simp [skipGo]; omega
  | c :: r, m => by
    have h0 := skip_app r false
    have h1 := skip_app r true
    have h2 := skip_app r m
    have l0 := skipGo_le r false
    have l1 := skipGo_le r true
    have l2 := skipGo_le r m
    simp only [List.cons_append, skipGo, List.length_cons]
    split
    · rw [h0]; split <;> split <;> omega
    · split
      · rw [h2]; split <;> split <;> omega
      · split
        · rw [h1]; split <;> split <;> omega
        · rw [if_pos (by omega)]
theorem not_part10 : isPart 10 = false := by decide
theorem run_app (s : List UInt8) : runB (s ++ 10 :: T) = runB s := by
  induction s with
  | nil => simp [runB, not_part10]
  | cons c r ih =>
    unfold runB at ih ⊢
    rw [List.cons_append, List.takeWhile_cons, List.takeWhile_cons, ih]
theorem inner_app {r : List UInt8} (h : 34 ∈ r) : innerB (r ++ 10 :: T) = innerB r := by
  induction r with
  | nil => cases h
  | cons c r ih =>
    unfold innerB at ih ⊢
    rw [List.cons_append, List.takeWhile_cons, List.takeWhile_cons]
    by_cases hc : c = 34
    · rw [if_neg (by simp [hc]), if_neg (by simp [hc])]
    · rw [if_pos (by simp [hc]), if_pos (by simp [hc]), ih ((List.mem_cons.1 h).resolve_left fun e => hc e.symm)]
theorem inner_app10 {r : List UInt8} (h : 34 ∉ r) : 10 ∈ innerB (r ++ 10 :: T) := by
  induction r with
  | nil => simp [innerB]
  | cons c r ih =>
    have hc : c ≠ 34 := fun e => h (by simp [e])
    have := ih fun hm => h (List.mem_cons_of_mem _ hm)
    unfold innerB at this ⊢
    rw [List.cons_append, List.takeWhile_cons, if_pos (by simp [hc])]
    exact List.mem_cons_of_mem _ this
theorem text_app (r : List UInt8) : textOk (r ++ 10 :: T) = textOk r := by
  by_cases h : 34 ∈ r
  · unfold textOk
    rw [inner_app T h, decide_eq_true h, decide_eq_true (List.mem_append_left _ h)]
  · have h1 : textOk r = false := by unfold textOk; rw [decide_eq_false h]; rfl
    have h2 : (innerB (r ++ 10 :: T)).all inText = false := by
      cases hx : (innerB (r ++ 10 :: T)).all inText with
      | false => rfl
      | true => exact absurd (List.all_eq_true.1 hx 10 (inner_app10 T h)) (by decide)
    rw [h1]; unfold textOk; rw [h2]; simp
theorem err_app {s : List UInt8} (hs : s ≠ []) : errB (s ++ 10 :: T) = errB s := by
  cases s with
  | nil => exact absurd rfl hs
  | cons c r =>
    have hr := run_app T (c :: r)
    have ht := text_app T r
    have hh : ((r ++ 10 :: T).head? = some 46) ↔ (r.head? = some 46) := by
      cases r with
      | nil => simp
      | cons d r => simp
    rw [List.cons_append] at hr ⊢
    simp only [errB, hr, ht, hh]
end
def JJ (S T : List UInt8) (q : Nat) : Nat := if q < S.length then q else S.length + 1 + skipB T
theorem drop_join {S T : List UInt8} {p : Nat} (h : p ≤ S.length) : (S ++ 10 :: T).drop p = S.drop p ++ 10 :: T := by
  rw [List.drop_append_of_le_length h]
theorem skip_join {S T : List UInt8} {q : Nat} (h : q ≤ S.length) : q + skipB ((S ++ 10 :: T).drop q) = JJ S T (q + skipB (S.drop q)) := by
  rw [drop_join h]
  unfold skipB JJ
  rw [skip_app]
  have := skipGo_le (S.drop q) false
  rw [List.length_drop] at this ⊢
  split <;> split <;> first | rfl | (unfold skipB; omega) | omega
theorem nxt_join {S T : List UInt8} {p : Nat} (hp : p ≤ S.length) (hs : S.drop p ≠ []) (he : errB (S.drop p) = 0) (hl : lenB ((S ++ 10 :: T).drop p) = lenB (S.drop p)) : nxt (S ++ 10 :: T) p = JJ S T (nxt S p) := by
  have h1 := lenB_le hs he
  rw [List.length_drop] at h1
  unfold nxt
  rw [hl]
  exact skip_join (by omega)
theorem tok_join (S T : List UInt8) : ∀ (n p : Nat), S.length - p ≤ n → p ≤ S.length →
    tokB (JJ S T p) ((S ++ 10 :: T).drop (JJ S T p)) = if (tokB p (S.drop p)).2.2 = 0 then addT (tokB p (S.drop p)).1 (tokB (S.length + 1 + skipB T) (T.drop (skipB T))) else tokB p (S.drop p) := by
  intro n
  induction n with
  | zero =>
    intro p h1 h2
    have hp : p = S.length := by omega
    subst hp
    have e : (S ++ 10 :: T).drop (S.length + 1 + skipB T) = T.drop (skipB T) := by
      rw [show S ++ 10 :: T = (S ++ [10]) ++ T by simp, show S.length + 1 + skipB T = (S ++ [10]).length + skipB T by simp, List.drop_append]
      simp
    rw [List.drop_length, tokB_nil, if_pos rfl]
    unfold JJ
    rw [if_neg (by omega), e]
    simp [addT]
  | succ n ih =>
    intro p h1 h2
    by_cases hp : p = S.length
    · exact ih p (by omega) h2
    have hlt : p < S.length := by omega
    have hs : S.drop p ≠ [] := fun e => by
      have := congrArg List.length e
      rw [List.length_drop, List.length_nil] at this
      omega
    have hj : JJ S T p = p := by unfold JJ; rw [if_pos hlt]
    have hd := drop_join (T := T) h2
    have hs2 : (S ++ 10 :: T).drop p ≠ [] := by rw [hd]; simp
    have herr : errB ((S ++ 10 :: T).drop p) = errB (S.drop p) := by rw [hd]; exact err_app T hs
    rw [hj]
    by_cases he : errB (S.drop p) = 0
    · have hlen := lenB_le hs he
      have hsplit : (S ++ 10 :: T).drop p = (S.drop p).take (lenB (S.drop p)) ++ ((S.drop p).drop (lenB (S.drop p)) ++ 10 :: T) := by
        rw [hd, ← List.append_assoc, List.take_append_drop]
      have hloc := first_local (v := (S.drop p).drop (lenB (S.drop p)) ++ 10 :: T) hs he (by
        intro c r hc hpt x y hxy
        have hl : lenB (S.drop p) = (runB (S.drop p)).length := by rw [hc, lenB, if_pos hpt]
        rw [hl] at hxy
        have hb := run_behind (S.drop p)
        cases hz : (S.drop p).drop (runB (S.drop p)).length with
        | nil => rw [hz] at hxy; simp at hxy; rw [← hxy.1]; decide
        | cons d t =>
          rw [hz] at hxy
          simp at hxy
          rw [← hxy.1]
          exact hb d t hz)
      rw [← hsplit] at hloc
      obtain ⟨g1, g2, g3, g4, g5, _⟩ := hloc
      have htk : tkB ((S ++ 10 :: T).drop p) p = tkB (S.drop p) p := by unfold tkB; rw [g2, g3, g4]
      have hnx := nxt_join (T := T) h2 hs he g5
      have hgt := nxt_gt hs
      rw [tokB_nxt hs2 g1, htk, hnx, ih (nxt S p) (by omega) (nxt_le h2 hs he), tokB_nxt hs he]
      by_cases hz : (tokB (nxt S p) (S.drop (nxt S p))).2.2 = 0
      · rw [if_pos hz, if_pos hz]; rfl
      · rw [if_neg hz, if_neg hz]
    · rw [tokB_err hs2 (by rw [herr]; exact he), tokB_err hs he, herr, if_neg he]
def shiftT (d : Nat) (t : Tk) : Tk := ⟨t.kind, t.num, t.text, d + t.pl⟩
theorem tok_shift (d : Nat) : ∀ (f p : Nat) (s : List UInt8), tokGo f (d + p) s = ((tokGo f p s).1.map (shiftT d), (if (tokGo f p s).2.2 = 0 then 0 else d + (tokGo f p s).2.1), (tokGo f p s).2.2)
  | 0, p, s => by simp [tokGo]
  | f + 1, p, s => by
    by_cases hs : s = []
    · simp [tokGo, hs]
    · by_cases he : errB s = 0
      · have h := tok_shift d f (p + lenB s + skipB (s.drop (lenB s))) (s.drop (lenB s + skipB (s.drop (lenB s))))
        rw [tokGo, if_neg hs, if_neg (by simp [he]), tokGo, if_neg hs, if_neg (by simp [he])]
        simp only
        rw [show d + p + lenB s + skipB (s.drop (lenB s)) = d + (p + lenB s + skipB (s.drop (lenB s))) by omega, h]
        simp [shiftT, tkB]
      · rw [tokGo, if_neg hs, if_pos he, tokGo, if_neg hs, if_pos he]
        simp [he]
theorem tokB_shift (d p : Nat) (s : List UInt8) : tokB (d + p) s = ((tokB p s).1.map (shiftT d), (if (tokB p s).2.2 = 0 then 0 else d + (tokB p s).2.1), (tokB p s).2.2) := tok_shift d _ p s
/-- Two sources with a line's end between. -/
theorem scan_join {S T : List UInt8} (h : S.length + T.length + 1 ≤ 4000) :
    ((scanB S).2.2 ≠ 0 → (scanB (S ++ 10 :: T)).2 = (scanB S).2) ∧
    ((scanB S).2.2 = 0 → (scanB T).2.2 ≠ 0 → (scanB (S ++ 10 :: T)).2 = (S.length + 1 + (scanB T).2.1, (scanB T).2.2)) ∧
    ((scanB S).2.2 = 0 → (scanB T).2.2 = 0 → ∃ A, scanB S = (A ++ [endTk S.length], 0, 0) ∧ scanB (S ++ 10 :: T) = (A ++ (scanB T).1.map (shiftT (S.length + 1)), 0, 0)) := by
  have hk : skipB (S ++ 10 :: T) = JJ S T (skipB S) := by
    have := skip_join (S := S) (T := T) (q := 0) (Nat.zero_le _)
    simpa using this
  have hj := tok_join S T S.length (skipB S) (by omega) (skipB_le S)
  have eU : scanB (S ++ 10 :: T) = finB (S.length + (T.length + 1)) (tokB (JJ S T (skipB S)) ((S ++ 10 :: T).drop (JJ S T (skipB S)))) := by
    have hl : (S ++ 10 :: T).length = S.length + (T.length + 1) := by simp
    unfold scanB
    rw [if_neg (by rw [hl]; omega), hk, hl]
  have eS : scanB S = finB S.length (tokB (skipB S) (S.drop (skipB S))) := by unfold scanB; rw [if_neg (by omega)]
  have eT : scanB T = finB T.length (tokB (skipB T) (T.drop (skipB T))) := by unfold scanB; rw [if_neg (by omega)]
  rw [eU, eS, eT, hj]
  have hsh := tokB_shift (S.length + 1) (skipB T) (T.drop (skipB T))
  generalize tokB (skipB S) (S.drop (skipB S)) = rS at *
  generalize tokB (skipB T) (T.drop (skipB T)) = rT at *
  rw [hsh]
  obtain ⟨lS, pS, zS⟩ := rS
  obtain ⟨lT, pT, zT⟩ := rT
  unfold finB addT
  simp only
  by_cases h1 : zS = 0
  · subst h1
    by_cases h2 : zT = 0
    · subst h2
      simp only [if_true]
      refine ⟨fun h => absurd rfl h, fun _ h => absurd rfl h, fun _ _ => ⟨lS, rfl, ?_⟩⟩
      simp [endTk, shiftT]
      omega
    · simp [h2]
  · simp [h1]
end Go.Proofs.YtpeldiibjhffiaaDoor
namespace Go.Proofs.YtpeldiibjhffiaaDoor

def putsB : List (List UInt8) := [[10, 32]]
theorem put_cases {g : List UInt8} (hg : g ∈ putsB) : g = [10, 32] := by
  simpa [putsB] using hg
theorem put_len {g : List UInt8} (hg : g ∈ putsB) : 1 ≤ g.length ∧ g.length ≤ 2 := by
  rcases put_cases hg with rfl <;> decide
theorem put_skip {g : List UInt8} (hg : g ∈ putsB) (b : List UInt8) : skipGo false (g ++ b) = g.length + skipGo false b := by
  rcases put_cases hg with rfl <;> simp [skipGo, isBl] <;> omega
theorem put_end {g : List UInt8} (hg : g ∈ putsB) (m : Bool) : skipGo m g = g.length := by
  rcases put_cases hg with rfl <;> cases m <;> decide
theorem put_np {g : List UInt8} (hg : g ∈ putsB) (b : List UInt8) : NP (g ++ b) := by
  intro c r h
  rcases put_cases hg with rfl <;> (simp at h; rw [← h.1]; decide)
/-- What is skipped ahead of a token is skipped whatever stands behind. -/
theorem skip_gap : ∀ (a : List UInt8) (m : Bool) (c : UInt8) (r : List UInt8), skipGo m (a ++ c :: r) = a.length → ∀ b, skipGo m (a ++ b) = a.length + skipGo false b
  | [], m, c, r, h, b => by
    have hm : m = false := by
      cases m with
      | false => rfl
      | true =>
        simp only [List.nil_append, skipGo, List.length_nil] at h
        split at h
        · omega
        · simp at h
    subst hm
    simp
  | x :: a, m, c, r, h, b => by
    have h0 := skip_gap a false c r
    have h1 := skip_gap a true c r
    have h2 := skip_gap a m c r
    simp only [List.cons_append, skipGo, List.length_cons] at h ⊢
    split at h
    · rename_i hx
      rw [if_pos hx, h0 (by omega)]; omega
    · rename_i hx
      rw [if_neg hx]
      split at h
      · rename_i hy
        rw [if_pos hy, h2 (by omega)]; omega
      · rename_i hy
        rw [if_neg hy]
        split at h
        · rename_i hz
          rw [if_pos hz, h1 (by omega)]; omega
        · omega
theorem skip_last {g : List UInt8} (hg : g ∈ putsB) : ∀ (a : List UInt8) (m : Bool), skipGo m a = a.length → skipGo m (a ++ g) = a.length + g.length
  | [], m, _ => by simp [put_end hg]
  | x :: a, m, h => by
    have h0 := skip_last hg a false
    have h1 := skip_last hg a true
    have h2 := skip_last hg a m
    simp only [List.cons_append, skipGo, List.length_cons] at h ⊢
    split at h
    · rename_i hx
      rw [if_pos hx, h0 (by omega)]; omega
    · rename_i hx
      rw [if_neg hx]
      split at h
      · rename_i hy
        rw [if_pos hy, h2 (by omega)]; omega
      · rename_i hy
        rw [if_neg hy]
        split at h
        · rename_i hz
          rw [if_pos hz, h1 (by omega)]; omega
        · omega
theorem skip_np {s : List UInt8} (h : 0 < skipGo false s) : NP s := by
  intro c r hc
  subst hc
  simp only [skipGo] at h
  split at h
  · rename_i hx; rw [hx]; decide
  · split at h
    · rename_i hy
      have hb : isBl c = true := by simpa using hy
      simp only [isBl, Bool.or_eq_true, beq_iff_eq] at hb
      rcases hb with (rfl | rfl) | rfl <;> decide
    · split at h
      · rename_i hz; rw [hz]; decide
      · omega
/-- How the text is laid: ahead of each token what was there, and a put. -/
def outL (S : List UInt8) (g : Nat → List UInt8) : Nat → Nat → List Tk → List UInt8
  | _, fr, [] => S.drop fr
  | i, fr, t :: r => (S.drop fr).take (t.pl - fr) ++ g i ++ outL S g (i + 1) t.pl r
def Rise (S : List UInt8) : Nat → List Tk → Prop
  | _, [] => True
  | fr, t :: r => fr ≤ t.pl ∧ t.pl ≤ S.length ∧ Rise S t.pl r
theorem outL_len {S : List UInt8} {g : Nat → List UInt8} (hg : ∀ i, g i ∈ putsB) : ∀ (L : List Tk) (i fr : Nat), Rise S fr L → (outL S g i fr L).length ≤ S.length - fr + 2 * L.length
  | [], i, fr, _ => by simp [outL]
  | t :: r, i, fr, h => by
    have h1 := outL_len hg r (i + 1) t.pl h.2.2
    have h2 := put_len (hg i)
    have h3 := h.1
    have h4 := h.2.1
    simp only [outL, List.length_append, List.length_take, List.length_drop, List.length_cons]
    omega
theorem rise_of {S : List UInt8} : ∀ (L : List Tk) (fr : Nat), (∀ t ∈ L, fr ≤ t.pl ∧ t.pl ≤ S.length) → (L.Pairwise fun a b => a.pl < b.pl) → Rise S fr L
  | [], _, _, _ => trivial
  | t :: r, fr, h1, h2 => by
    obtain ⟨h3, h4⟩ := List.pairwise_cons.1 h2
    have h5 := h1 t (List.mem_cons_self)
    exact ⟨h5.1, h5.2, rise_of r t.pl (fun u hu => ⟨by have := h3 u hu; omega, (h1 u (List.mem_cons_of_mem _ hu)).2⟩) h4⟩
def strip (t : Tk) : Int × Int × List UInt8 := (t.kind, t.num, t.text)

theorem skip_zero_head {c : UInt8} {r : List UInt8} (h : skipGo false (c :: r) = 0) (r' : List UInt8) : skipGo false (c :: r') = 0 := by
  simp only [skipGo] at h ⊢
  split at h
  · omega
  · rename_i hx
    rw [if_neg hx]
    split at h
    · omega
    · rename_i hy
      rw [if_neg hy]
      split at h
      · omega
      · rename_i hz
        rw [if_neg hz]
/-- What is skipped stands behind what is skipped no more. -/
theorem skip_again : ∀ (s : List UInt8) (m : Bool), skipGo m s < s.length → skipGo false (s.drop (skipGo m s)) = 0
  | [], m, h => by simp at h
  | c :: r, m, h => by
    have h0 := skip_again r false
    have h1 := skip_again r true
    have h2 := skip_again r m
    simp only [skipGo, List.length_cons] at h ⊢
    split
    · rename_i hx; rw [if_pos hx] at h; rw [List.drop_succ_cons]; exact h0 (by omega)
    · rename_i hx
      rw [if_neg hx] at h
      split
      · rename_i hy; rw [if_pos hy] at h; rw [List.drop_succ_cons]; exact h2 (by omega)
      · rename_i hy
        rw [if_neg hy] at h
        split
        · rename_i hz; rw [if_pos hz] at h; rw [List.drop_succ_cons]; exact h1 (by omega)
        · rename_i hz
          rw [List.drop_zero, skipGo, if_neg hx, if_neg (by simp only [Bool.or_eq_true, not_or] at hy; simp [hy.2]), if_neg hz]
/-- The gap ahead of a place, a put, and what stands behind. -/
theorem skip_put {S : List UInt8} {q : Nat} {g X : List UInt8} (hg : g ∈ putsB) (hq : q ≤ S.length) (hX0 : q + skipB (S.drop q) = S.length → X = []) (hX1 : ∀ c r, S.drop (q + skipB (S.drop q)) = c :: r → ∃ r', X = c :: r') :
    skipB ((S.drop q).take (skipB (S.drop q)) ++ (g ++ X)) = skipB (S.drop q) + g.length := by
  have hle := skipB_le (S.drop q)
  have hl : ((S.drop q).take (skipB (S.drop q))).length = skipB (S.drop q) := by rw [List.length_take]; omega
  cases hd : S.drop (q + skipB (S.drop q)) with
  | nil =>
    have hlen : q + skipB (S.drop q) = S.length := by
      have := congrArg List.length hd
      rw [List.length_drop, List.length_nil] at this
      rw [List.length_drop] at hle
      omega
    have hall : (S.drop q).take (skipB (S.drop q)) = S.drop q := List.take_of_length_le (by rw [List.length_drop]; omega)
    rw [hX0 hlen, List.append_nil, hall]
    have hw : skipGo false (S.drop q) = (S.drop q).length := by
      show skipB (S.drop q) = _
      rw [List.length_drop]; omega
    show skipGo false (S.drop q ++ g) = _
    rw [skip_last hg _ false hw, ← hw]; rfl
  | cons c r =>
    obtain ⟨r', hX⟩ := hX1 c r hd
    have hsplit : S.drop q = (S.drop q).take (skipB (S.drop q)) ++ c :: r := by
      rw [← hd, ← List.drop_drop, List.take_append_drop]
    have hsk : skipGo false ((S.drop q).take (skipB (S.drop q)) ++ c :: r) = ((S.drop q).take (skipB (S.drop q))).length := by
      rw [← hsplit, hl]; rfl
    have hz : skipGo false (c :: r) = 0 := by
      have hlt : skipGo false (S.drop q) < (S.drop q).length := by
        have := congrArg List.length hd
        rw [List.length_drop, List.length_cons] at this
        show skipB (S.drop q) < _
        rw [List.length_drop]; omega
      have := skip_again (S.drop q) false hlt
      rw [List.drop_drop] at this
      have e : S.drop (q + skipGo false (S.drop q)) = c :: r := hd
      rw [e] at this; exact this
    show skipGo false _ = _
    rw [skip_gap _ false c r hsk, put_skip hg, hX, skip_zero_head hz r', hl]; omega
theorem drop_len {u v : List UInt8} {n : Nat} (h : u.length = n) (k : Nat) : (u ++ v).drop (n + k) = v.drop k := by
  rw [← h, List.drop_append]; simp
theorem blank_nil {S : List UInt8} {g : Nat → List UInt8} {f p i : Nat} (hp : p ≤ S.length) (hs : S.drop p = []) : ∀ t0 L', (tokGo f p (S.drop p)).1 ++ [endTk S.length] = t0 :: L' →
    t0.pl = p ∧ (S.drop p = [] → outL S g (i + 1) p L' = []) ∧ (∀ c r, S.drop p = c :: r → ∃ r', outL S g (i + 1) p L' = c :: r') ∧ ∀ q, (tokB q (outL S g (i + 1) p L')).2.2 = 0 ∧ (tokB q (outL S g (i + 1) p L')).1.map strip = (tokGo f p (S.drop p)).1.map strip := by
  intro t0 L' h
  rw [tokGo_nil f hs] at h ⊢
  simp at h
  obtain ⟨rfl, rfl⟩ := h
  have hpl : p = S.length := by
    have := congrArg List.length hs
    rw [List.length_drop, List.length_nil] at this
    omega
  have ho : outL S g (i + 1) p [] = [] := hs
  rw [ho]
  refine ⟨hpl.symm, fun _ => rfl, fun c r h => ?_, fun q => ⟨rfl, rfl⟩⟩
  rw [hs] at h; cases h
theorem blank_tok {S : List UInt8} {g : Nat → List UInt8} (hg : ∀ i, g i ∈ putsB) : ∀ (f p i : Nat), p ≤ S.length → (S.drop p).length ≤ f → (tokGo f p (S.drop p)).2.2 = 0 → ∀ t0 L', (tokGo f p (S.drop p)).1 ++ [endTk S.length] = t0 :: L' →
    t0.pl = p ∧ (S.drop p = [] → outL S g (i + 1) p L' = []) ∧ (∀ c r, S.drop p = c :: r → ∃ r', outL S g (i + 1) p L' = c :: r') ∧ ∀ q, (tokB q (outL S g (i + 1) p L')).2.2 = 0 ∧ (tokB q (outL S g (i + 1) p L')).1.map strip = (tokGo f p (S.drop p)).1.map strip := by
  intro f
  induction f with
  | zero =>
    intro p i hp hf _
    exact blank_nil hp (List.eq_nil_of_length_eq_zero (by omega))
  | succ f ih =>
    intro p i hp hf hz t0 L' hL
    by_cases hs : S.drop p = []
    · exact blank_nil hp hs t0 L' hL
    have he : errB (S.drop p) = 0 := by
      rcases Classical.em (errB (S.drop p) = 0) with h | h
      · exact h
      · rw [tokGo_err f hs h] at hz; exact hz
    rw [tokGo_ok f hs he] at hz hL ⊢
    simp only at hz hL ⊢
    rw [List.cons_append] at hL
    obtain ⟨rfl, rfl⟩ : t0 = tkB (S.drop p) p ∧ L' = (tokGo f (nxt S p) (S.drop (nxt S p))).1 ++ [endTk S.length] := by
      simp only [List.cons.injEq] at hL
      exact ⟨hL.1.symm, hL.2.symm⟩
    clear hL
    have hnle := nxt_le hp hs he
    have hngt := nxt_gt hs
    have hn1 := lenB_pos hs
    have hn2 := lenB_le hs he
    obtain ⟨t1, L2, hL2⟩ : ∃ t1 L2, (tokGo f (nxt S p) (S.drop (nxt S p))).1 ++ [endTk S.length] = t1 :: L2 := by
      cases hx : (tokGo f (nxt S p) (S.drop (nxt S p))).1 ++ [endTk S.length] with
      | nil => simp at hx
      | cons a b => exact ⟨a, b, rfl⟩
    obtain ⟨i1, i2, i3, i4⟩ := ih (nxt S p) (i + 1) hnle (by rw [List.length_drop] at hf ⊢; omega) hz t1 L2 hL2
    have ho : outL S g (i + 1) p ((tokGo f (nxt S p) (S.drop (nxt S p))).1 ++ [endTk S.length]) = (S.drop p).take (lenB (S.drop p)) ++ ((S.drop (p + lenB (S.drop p))).take (skipB (S.drop (p + lenB (S.drop p)))) ++ (g (i + 1) ++ outL S g (i + 1 + 1) (nxt S p) L2)) := by
      rw [hL2]
      simp only [outL]
      rw [i1, show nxt S p - p = lenB (S.drop p) + skipB (S.drop (p + lenB (S.drop p))) by unfold nxt; omega, List.take_add, List.drop_drop]
      simp only [List.append_assoc]
    rw [ho]
    generalize outL S g (i + 1 + 1) (nxt S p) L2 = X at *
    have hk := skipB_le (S.drop (p + lenB (S.drop p)))
    have hsp := skip_put (S := S) (q := p + lenB (S.drop p)) (X := X) (hg (i + 1)) (by rw [List.length_drop] at hn2; omega)
      (fun h => i2 (List.drop_eq_nil_of_le (by unfold nxt; omega))) (fun c r h => i3 c r h)
    have hgl : ((S.drop (p + lenB (S.drop p))).take (skipB (S.drop (p + lenB (S.drop p))))).length = skipB (S.drop (p + lenB (S.drop p))) := by rw [List.length_take]; omega
    have hul : ((S.drop p).take (lenB (S.drop p))).length = lenB (S.drop p) := by rw [List.length_take]; omega
    have hnp : NP ((S.drop (p + lenB (S.drop p))).take (skipB (S.drop (p + lenB (S.drop p)))) ++ (g (i + 1) ++ X)) := by
      rcases Nat.eq_zero_or_pos (skipB (S.drop (p + lenB (S.drop p)))) with h0 | h0
      · rw [h0, List.take_zero, List.nil_append]; exact put_np (hg _) _
      · have hv := skip_np h0
        intro c r hc
        cases hd : S.drop (p + lenB (S.drop p)) with
        | nil => rw [hd] at h0; simp [skipB, skipGo] at h0
        | cons d t =>
          rw [hd] at hc
          obtain ⟨k, hk⟩ : ∃ k, skipB (d :: t) = k + 1 := ⟨skipB (d :: t) - 1, by rw [hd] at h0; omega⟩
          rw [hk, List.take_succ_cons, List.cons_append] at hc
          simp only [List.cons.injEq] at hc
          rw [← hc.1]
          exact hv d t hd
    have hloc := first_local hs he (fun _ _ _ _ => hnp)
    obtain ⟨g1, g2, g3, g4, g5, g6⟩ := hloc
    generalize hv : (S.drop (p + lenB (S.drop p))).take (skipB (S.drop (p + lenB (S.drop p)))) ++ (g (i + 1) ++ X) = v at *
    have hOne : (S.drop p).take (lenB (S.drop p)) ++ v ≠ [] := by simp [g6]
    refine ⟨rfl, fun h => absurd h hs, fun c r hc => ?_, fun q => ?_⟩
    · rw [hc]
      obtain ⟨m, hm⟩ : ∃ m, lenB (c :: r) = m + 1 := ⟨lenB (c :: r) - 1, by rw [← hc]; omega⟩
      rw [hm, List.take_succ_cons]
      exact ⟨_, rfl⟩
    · have hd0 := drop_len (v := v) hul 0
      have hd1 := drop_len (v := v) hul (skipB (S.drop (p + lenB (S.drop p))) + (g (i + 1)).length)
      have hd2 : v.drop (skipB (S.drop (p + lenB (S.drop p))) + (g (i + 1)).length) = X := by
        rw [← hv, drop_len hgl, List.drop_left]
      rw [Nat.add_zero, List.drop_zero] at hd0
      rw [tokB_ok hOne g1, g5, hd0, hsp, hd1, hd2]
      have htk : strip (tkB ((S.drop p).take (lenB (S.drop p)) ++ v) q) = strip (tkB (S.drop p) p) := by
        unfold strip tkB; simp only; rw [g2, g3, g4]
      simp only
      obtain ⟨j1, j2⟩ := i4 (q + lenB (S.drop p) + (skipB (S.drop (p + lenB (S.drop p))) + (g (i + 1)).length))
      exact ⟨j1, by rw [List.map_cons, List.map_cons, htk, j2]⟩
/-- Blanks and remarks put ahead of tokens change places alone. -/
theorem scan_blanks {S : List UInt8} {g : Nat → List UInt8} (hg : ∀ i, g i ∈ putsB) (hz : (scanB S).2.2 = 0) (hl : S.length + 2 * (scanB S).1.length ≤ 4000) :
    ∃ M, scanB (outL S g 0 0 (scanB S).1) = (M, 0, 0) ∧ M.map strip = (scanB S).1.map strip ∧ (outL S g 0 0 (scanB S).1).length ≤ 4000 := by
  obtain ⟨h4, _, T, hT, hgood, hpw⟩ := scan_good hz
  have hrise : Rise S 0 (scanB S).1 := rise_of _ _ (fun t ht => by
    rw [hT] at ht
    rcases List.mem_append.1 ht with ht | ht
    · exact ⟨Nat.zero_le _, Nat.le_of_lt (hgood t ht).lt⟩
    · simp only [List.mem_singleton] at ht
      subst ht
      exact ⟨Nat.zero_le _, Nat.le_refl _⟩) hpw
  have hlen := outL_len hg (scanB S).1 0 0 hrise
  have hlen4 : (outL S g 0 0 (scanB S).1).length ≤ 4000 := by omega
  have eS : scanB S = finB S.length (tokB (skipB S) (S.drop (skipB S))) := by unfold scanB; rw [if_neg (by omega)]
  have hz2 : (tokB (skipB S) (S.drop (skipB S))).2.2 = 0 := by
    rcases Classical.em ((tokB (skipB S) (S.drop (skipB S))).2.2 = 0) with h | h
    · exact h
    · rw [eS] at hz; unfold finB at hz; rw [if_neg h] at hz; exact hz
  have eS1 : (scanB S).1 = (tokB (skipB S) (S.drop (skipB S))).1 ++ [endTk S.length] := by rw [eS]; unfold finB; rw [if_pos hz2]
  obtain ⟨t0, L', hL⟩ : ∃ t0 L', (tokB (skipB S) (S.drop (skipB S))).1 ++ [endTk S.length] = t0 :: L' := by
    cases hx : (tokB (skipB S) (S.drop (skipB S))).1 ++ [endTk S.length] with
    | nil => simp at hx
    | cons a b => exact ⟨a, b, rfl⟩
  obtain ⟨b1, b2, b3, b4⟩ := blank_tok hg (S.drop (skipB S)).length (skipB S) 0 (skipB_le S) (Nat.le_refl _) hz2 t0 L' hL
  have ho : outL S g 0 0 (scanB S).1 = (S.drop 0).take (skipB (S.drop 0)) ++ (g 0 ++ outL S g (0 + 1) (skipB S) L') := by
    rw [eS1, hL]
    simp only [outL, b1, List.drop_zero, Nat.sub_zero, List.append_assoc]
  have hsp := skip_put (S := S) (q := 0) (X := outL S g (0 + 1) (skipB S) L') (hg 0) (Nat.zero_le _)
    (fun h => b2 (List.drop_eq_nil_of_le (by simpa using Nat.le_of_eq h.symm))) (fun c r h => b3 c r (by simpa using h))
  have hgl : ((S.drop 0).take (skipB (S.drop 0))).length = skipB (S.drop 0) := by
    have := skipB_le (S.drop 0)
    rw [List.length_take]; omega
  have hd := drop_len (v := g 0 ++ outL S g (0 + 1) (skipB S) L') hgl (g 0).length
  rw [List.drop_left] at hd
  obtain ⟨j1, j2⟩ := b4 (skipB (S.drop 0) + (g 0).length)
  refine ⟨(tokB (skipB (S.drop 0) + (g 0).length) (outL S g (0 + 1) (skipB S) L')).1 ++ [endTk (outL S g 0 0 (scanB S).1).length], ?_, ?_, hlen4⟩
  · have e : scanB (outL S g 0 0 (scanB S).1) = finB (outL S g 0 0 (scanB S).1).length (tokB (skipB (outL S g 0 0 (scanB S).1)) ((outL S g 0 0 (scanB S).1).drop (skipB (outL S g 0 0 (scanB S).1)))) := by
      unfold scanB; rw [if_neg (by unfold scanB at hlen4; omega)]
    rw [e]
    have hk : skipB (outL S g 0 0 (scanB S).1) = skipB (S.drop 0) + (g 0).length := by rw [ho]; exact hsp
    have hdr : (outL S g 0 0 (scanB S).1).drop (skipB (S.drop 0) + (g 0).length) = outL S g (0 + 1) (skipB S) L' := by rw [ho]; exact hd
    rw [hk, hdr]
    unfold finB
    rw [if_pos j1]
  · rw [eS1, List.map_append, List.map_append, j2]
    rfl
end Go.Proofs.YtpeldiibjhffiaaDoor
