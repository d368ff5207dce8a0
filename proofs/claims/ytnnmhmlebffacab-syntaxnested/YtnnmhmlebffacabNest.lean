/-
  Signs and brackets, in plain lists: what a source of so many of them says.
-/
import Derived.Test.YtnnmhmlebffacabParse
namespace Go.Proofs.Ytnnmhmlebffacab
open Go.RowKit Go.Deep

/-- So many signs, one beside the other, from a place on. -/
def sg (c : UInt8) : Nat → Nat → List Tk
  | 0, _ => []
  | n + 1, p => ⟨6, 0, [c], p⟩ :: sg c n (p + 1)
theorem sg_last (c : UInt8) : ∀ (n p : Nat), sg c (n + 1) p = sg c n p ++ [⟨6, 0, [c], p + n⟩]
  | 0, p => rfl
  | n + 1, p => by
    show _ :: sg c (n + 1) (p + 1) = _
    rw [sg_last c n (p + 1)]
    show _ = _ :: (sg c n (p + 1) ++ _)
    rw [show p + 1 + n = p + (n + 1) by omega]
theorem mark_no_part {c : UInt8} (h : isMark c = true) : isPart c = false ∧ isDig c = false ∧ c ≠ 34 ∧ c ≠ 10 ∧ c ≠ 35 ∧ isBl c = false := by
  simp only [isMark, Bool.or_eq_true, beq_iff_eq] at h
  rcases h with ((((((h | h) | h) | h) | h) | h) | h) | h <;> subst h <;> decide
theorem mark_skip {c : UInt8} (h : isMark c = true) (r : List UInt8) : skipB (c :: r) = 0 := by
  obtain ⟨_, _, _, h1, h2, h3⟩ := mark_no_part h
  simp [skipB, skipGo, h1, h2, h3]
theorem tok_mark {c : UInt8} (h : isMark c = true) {r : List UInt8} (hr : skipB r = 0) (p : Nat) : tokB p (c :: r) = (⟨6, 0, [c], p⟩ :: (tokB (p + 1) r).1, (tokB (p + 1) r).2) := by
  obtain ⟨h1, h2, h3, _, _, _⟩ := mark_no_part h
  have he : errB (c :: r) = 0 := by simp [errB, h1, h2, h3, h]
  have hl : lenB (c :: r) = 1 := by simp [lenB, h1, h3, h]
  rw [tokB_ok (by simp) he, hl]
  have hk : tkB (c :: r) p = ⟨6, 0, [c], p⟩ := by simp [tkB, kindB, numB, textB, h1, h2, h3, h]
  rw [hk]
  simp [hr]
theorem tok_marks {c : UInt8} (h : isMark c = true) {r : List UInt8} (hr : skipB r = 0) : ∀ (n p : Nat), skipB (List.replicate n c ++ r) = 0 ∧ tokB p (List.replicate n c ++ r) = (sg c n p ++ (tokB (p + n) r).1, (tokB (p + n) r).2)
  | 0, p => ⟨by simpa using hr, by simp [sg]⟩
  | n + 1, p => by
    obtain ⟨h1, h2⟩ := tok_marks h hr n (p + 1)
    rw [List.replicate_succ, List.cons_append]
    refine ⟨mark_skip h _, ?_⟩
    rw [tok_mark h h1, h2, show p + 1 + n = p + (n + 1) by omega]
    simp [sg]
/-- A number of one digit, a mark behind it. -/
theorem tok_seven {c : UInt8} (h : isMark c = true) (r : List UInt8) (p : Nat) : tokB p (55 :: c :: r) = (⟨2, 7, [], p⟩ :: (tokB (p + 1) (c :: r)).1, (tokB (p + 1) (c :: r)).2) := by
  obtain ⟨h1, h2, h3, _, _, _⟩ := mark_no_part h
  have hr : runB (55 :: c :: r) = [55] := by
    unfold runB
    rw [List.takeWhile_cons, if_pos (by decide), List.takeWhile_cons, h1]; rfl
  have he : errB (55 :: c :: r) = 0 := by
    simp only [errB]
    rw [if_pos (by decide), hr, if_pos (by decide)]
  have hl : lenB (55 :: c :: r) = 1 := by
    simp only [lenB]
    rw [if_pos (by decide), hr]; rfl
  have hk : tkB (55 :: c :: r) p = ⟨2, 7, [], p⟩ := by
    have e1 : kindB (55 :: c :: r) = 2 := by simp only [kindB]; rw [if_pos (by decide)]
    have e2 : numB (55 :: c :: r) = 7 := by simp only [numB]; rw [if_pos (by decide), hr]; rfl
    have e3 : textB (55 :: c :: r) = [] := by simp only [textB]; rw [if_pos (by decide)]
    simp [tkB, e1, e2, e3]
  rw [tokB_ok (by simp) he, hl, hk]
  simp [mark_skip h]
/-- What stands ahead of the signs, and all of it. -/
def nsPre : List UInt8 := [109, 97, 116, 99, 104, 32, 49, 59, 32, 108, 101, 97, 115, 116, 32]
def nsB (a b : Nat) : List UInt8 := nsPre ++ (List.replicate a 45 ++ (List.replicate b 40 ++ 55 :: (List.replicate b 41 ++ [59])))
def nsT (a b : Nat) : List Tk := sg 45 a 15 ++ (sg 40 b (15 + a) ++ ⟨2, 7, [], 15 + a + b⟩ :: (sg 41 b (15 + a + b + 1) ++ [⟨6, 0, [59], 15 + a + b + 1 + b⟩]))
theorem pre_tok {X : List UInt8} (hX : skipB X = 0) : skipB (nsPre ++ X) = 0 ∧ tokB 0 (nsPre ++ X) = (⟨4, 0, [109, 97, 116, 99, 104], 0⟩ :: ⟨2, 1, [], 6⟩ :: ⟨6, 0, [59], 7⟩ :: ⟨4, 0, [108, 101, 97, 115, 116], 9⟩ :: (tokB 15 X).1, (tokB 15 X).2) := by
  refine ⟨rfl, ?_⟩
  have e1 : nsPre ++ X = 109 :: 97 :: 116 :: 99 :: 104 :: 32 :: 49 :: 59 :: 32 :: 108 :: 101 :: 97 :: 115 :: 116 :: 32 :: X := rfl
  rw [e1]
  rw [tokB_ok (by simp) rfl]
  show (_ :: (tokB 6 (49 :: 59 :: 32 :: 108 :: 101 :: 97 :: 115 :: 116 :: 32 :: X)).1, (tokB 6 (49 :: 59 :: 32 :: 108 :: 101 :: 97 :: 115 :: 116 :: 32 :: X)).2) = _
  rw [tokB_ok (p := 6) (by simp) rfl]
  show (_ :: _ :: (tokB 7 (59 :: 32 :: 108 :: 101 :: 97 :: 115 :: 116 :: 32 :: X)).1, (tokB 7 (59 :: 32 :: 108 :: 101 :: 97 :: 115 :: 116 :: 32 :: X)).2) = _
  rw [tokB_ok (p := 7) (by simp) rfl]
  show (_ :: _ :: _ :: (tokB 9 (108 :: 101 :: 97 :: 115 :: 116 :: 32 :: X)).1, (tokB 9 (108 :: 101 :: 97 :: 115 :: 116 :: 32 :: X)).2) = _
  rw [tokB_ok (p := 9) (by simp) rfl]
  have hs : skipB (32 :: X) = 1 := by
    show skipGo false X + 1 = 1
    have : skipGo false X = 0 := hX
    omega
  have hl : lenB (108 :: 101 :: 97 :: 115 :: 116 :: 32 :: X) = 5 := rfl
  have hd : (108 :: 101 :: 97 :: 115 :: 116 :: 32 :: X).drop 5 = 32 :: X := rfl
  rw [hl, hd, hs]
  rfl
theorem ns_scan {a b : Nat} (ha : a ≤ 300) (hb : b ≤ 300) : scanB (nsB a b) = (⟨4, 0, [109, 97, 116, 99, 104], 0⟩ :: ⟨2, 1, [], 6⟩ :: ⟨6, 0, [59], 7⟩ :: ⟨4, 0, [108, 101, 97, 115, 116], 9⟩ :: (nsT a b ++ [endTk (17 + a + b + b)]), 0, 0) := by
  have hlen : (nsB a b).length = 17 + a + b + b := by simp [nsB, nsPre]; omega
  have h59 : isMark 59 = true := by decide
  have h41 : isMark 41 = true := by decide
  have t0 : ∀ p, tokB p [59] = ([⟨6, 0, [59], p⟩], 0, 0) := fun p => by rw [tok_mark h59 rfl]; rfl
  have h4 := tok_marks h41 (mark_skip h59 []) b
  have t7 : ∀ p, tokB p (55 :: (List.replicate b 41 ++ [59])) = (⟨2, 7, [], p⟩ :: (tokB (p + 1) (List.replicate b 41 ++ [59])).1, (tokB (p + 1) (List.replicate b 41 ++ [59])).2) := fun p => by
    cases b with
    | zero => exact tok_seven h59 [] p
    | succ b => exact tok_seven h41 _ p
  have s7 : skipB (55 :: (List.replicate b 41 ++ [59])) = 0 := rfl
  have h0 := tok_marks (c := 40) (by decide) s7 b
  have h5 := tok_marks (c := 45) (by decide) (h0 0).1 a
  obtain ⟨e1, e2⟩ := pre_tok (h5 0).1
  have hT : tokB 0 (nsB a b) = (⟨4, 0, [109, 97, 116, 99, 104], 0⟩ :: ⟨2, 1, [], 6⟩ :: ⟨6, 0, [59], 7⟩ :: ⟨4, 0, [108, 101, 97, 115, 116], 9⟩ :: nsT a b, 0, 0) := by
    unfold nsB nsT
    rw [e2, (h5 15).2, (h0 (15 + a)).2, t7, (h4 (15 + a + b + 1)).2, t0]
  have hsk : skipB (nsB a b) = 0 := e1
  unfold scanB
  rw [if_neg (by omega), hsk, List.drop_zero, hT, hlen]
  simp [finB]

theorem isT_ne {k : Int} {s : List UInt8} {t : Tk} (h : t.text ≠ s) : isT k s t = false := by simp [isT, h]
theorem isT_is (c : UInt8) (p : Nat) : isT 6 [c] ⟨6, 0, [c], p⟩ = true := by simp [isT]
theorem termGo_stop {fac : List Tk → Rs Ex} {e : Ex} {t : Tk} {r : List Tk} (h : t.text ≠ [42]) : ∀ m, termGo fac m e (t :: r) = pure' e (t :: r)
  | 0 => rfl
  | m + 1 => by rw [termGo, isT_ne h]; rfl
theorem exprGo_stop {fac : List Tk → Rs Ex} {e : Ex} {t : Tk} {r : List Tk} (h1 : t.text ≠ [43]) (h2 : t.text ≠ [45]) : ∀ m, exprGo fac m e (t :: r) = pure' e (t :: r)
  | 0 => rfl
  | m + 1 => by rw [exprGo, isT_ne h1, isT_ne h2]; rfl
theorem exprG_stop {fac : List Tk → Rs Ex} {e : Ex} {t : Tk} {l r : List Tk} (hf : fac l = pure' e (t :: r)) (h0 : t.text ≠ [42]) (h1 : t.text ≠ [43]) (h2 : t.text ≠ [45]) : exprG fac l = pure' e (t :: r) := by
  unfold exprG termG
  rw [hf, pure_bind, termGo_stop h0, pure_bind, exprGo_stop h1 h2]
theorem fac_num (n p : Nat) (v : Int) (r : List Tk) : facN (n + 1) (⟨2, v, [], p⟩ :: r) = pure' (⟨1, v, [], p⟩, .nil) r := by
  rw [facN, if_pos rfl]
theorem fac_br (x : Nat) : ∀ (b n p q : Nat) (r : List Tk), b < n → facN n (sg 40 b p ++ ⟨2, 7, [], x⟩ :: (sg 41 b q ++ r)) = pure' (⟨1, 7, [], x⟩, .nil) r
  | 0, n + 1, p, q, r, _ => fac_num n x 7 r
  | b + 1, n + 1, p, q, r, h => by
    have ih := fac_br x b n (p + 1) q (⟨6, 0, [41], q + b⟩ :: r) (by omega)
    rw [sg_last 41 b q, List.append_assoc]
    show facN (n + 1) (⟨6, 0, [40], p⟩ :: (sg 40 b (p + 1) ++ _ :: (sg 41 b q ++ ⟨6, 0, [41], q + b⟩ :: r))) = _
    rw [facN, if_neg (by simp), if_neg (by simp), if_neg (by simp), isT_ne (by simp), if_neg (by decide), isT_is, if_pos rfl, exprG_stop ih (by simp) (by simp) (by simp)]
    unfold closeG
    rw [pure_bind, signG, isT_is, if_pos rfl, pure_bind]
/-- So many signs ahead of an expression. -/
def negE : Nat → Nat → Ex → Ex
  | 0, _, e => e
  | a + 1, p, e => (⟨4, 0, [], p⟩, ofL [negE a (p + 1) e])
theorem fac_neg {e : Ex} {l r : List Tk} {n : Nat} (h : facN n l = pure' e r) : ∀ (a p : Nat), facN (n + a) (sg 45 a p ++ l) = pure' (negE a p e) r
  | 0, p => h
  | a + 1, p => by
    have ih := fac_neg h a (p + 1)
    show facN (n + a + 1) (⟨6, 0, [45], p⟩ :: (sg 45 a (p + 1) ++ l)) = _
    rw [facN, if_neg (by simp), if_neg (by simp), if_neg (by simp), isT_is, if_pos rfl, ih]
    rfl
theorem neg_dep (e : Ex) (he : e.2 = .nil) : ∀ a p, depF (negE a p e).2 = a
  | 0, p => by show depF e.2 = 0; rw [he]; rfl
  | a + 1, p => by
    show depF (ofL [negE a (p + 1) e]) = a + 1
    simp only [ofL, nd, depF]
    rw [neg_dep e he a (p + 1)]
    omega
def nsE (a b : Nat) : Ex := negE a 15 (⟨1, 7, [], ((15 + a + b : Nat) : Int)⟩, .nil)
def nsI (a b : Nat) : List It := [⟨3, [], ofL [(⟨1, 1, [], 6⟩, .nil)], 0⟩, ⟨10, [], ofL [nsE a b], 9⟩]
theorem ns_expr {a b : Nat} (ha : a ≤ 300) (hb : b ≤ 300) (r : List Tk) : exprN mx (nsT a b ++ r) = pure' (nsE a b) (⟨6, 0, [59], 15 + a + b + 1 + b⟩ :: r) := by
  have h1 := fac_br (15 + a + b) b (mx - a) (15 + a) (15 + a + b + 1) (⟨6, 0, [59], 15 + a + b + 1 + b⟩ :: r) (by unfold mx; omega)
  have h2 := fac_neg h1 a 15
  rw [show mx - a + a = mx by unfold mx; omega] at h2
  unfold exprN
  refine exprG_stop (l := nsT a b ++ r) ?_ (by simp) (by simp) (by simp)
  rw [show nsT a b ++ r = sg 45 a 15 ++ (sg 40 b (15 + a) ++ (⟨2, 7, [], 15 + a + b⟩ :: (sg 41 b (15 + a + b + 1) ++ ⟨6, 0, [59], 15 + a + b + 1 + b⟩ :: r))) by simp [nsT]]
  exact h2
theorem one_item {ex : List Tk → Rs Ex} {w : List UInt8} {p q : Nat} {e : Ex} {l r : List Tk} (hw : itemKindB w = 3 ∨ itemKindB w = 10) (h : ex l = pure' e (⟨6, 0, [59], q⟩ :: r)) : itemG ex (⟨4, 0, w, p⟩ :: l) = pure' ⟨itemKindB w, [], ofL [e], (p : Int)⟩ r := by
  have hb : bodyG ex (itemKindB w) l = pure' ([], ofL [e]) (⟨6, 0, [59], q⟩ :: r) := by
    unfold bodyG oneG
    rw [h]
    rcases hw with hw | hw <;> rw [hw] <;> rfl
  rw [itemG, if_pos ⟨rfl, by show itemKindB w ≠ 0; omega⟩]
  simp only
  rw [hb]
  unfold closeG
  rw [pure_bind, signG, isT_is, if_pos rfl, pure_bind]
  rfl
theorem source_item {ex : List Tk → Rs Ex} {m : Nat} {its : List It} {t : Tk} {l r : List Tk} {i : It} (h1 : t.kind ≠ 1) (h2 : its.length < 100) (h : itemG ex (t :: l) = pure' i r) : sourceGo ex (m + 1) its (t :: l) = sourceGo ex m (its ++ [i]) r := by
  rw [sourceGo, if_neg h1, h, pure_bind]
  unfold note
  rw [if_neg (by simp; omega)]
theorem ns_source {a b : Nat} (ha : a ≤ 300) (hb : b ≤ 300) (n : Nat) : sourceG (⟨4, 0, [109, 97, 116, 99, 104], 0⟩ :: ⟨2, 1, [], 6⟩ :: ⟨6, 0, [59], 7⟩ :: ⟨4, 0, [108, 101, 97, 115, 116], 9⟩ :: (nsT a b ++ [endTk n])) = pure' (nsI a b) [endTk n] := by
  unfold sourceG
  have hm : mx = (3998 + 1 + 1) + 1 := rfl
  have e1 : ∀ l, exprN mx (⟨2, 1, [], 6⟩ :: ⟨6, 0, [59], 7⟩ :: l) = pure' (⟨1, 1, [], 6⟩, .nil) (⟨6, 0, [59], 7⟩ :: l) := fun l => by
    unfold exprN
    exact exprG_stop (fac_num 4000 6 1 _) (by simp) (by simp) (by simp)
  generalize hex : exprN mx = ex
  rw [hex] at e1
  have e2 := ns_expr ha hb [endTk n]
  rw [hex] at e2
  rw [hm, source_item (by decide) (by simp) (one_item (.inl (by decide)) (e1 _)), source_item (by decide) (by simp) (one_item (.inr (by decide)) e2)]
  rw [sourceGo]
  rfl
theorem ns_parse {a b : Nat} (ha : a ≤ 300) (hb : b ≤ 300) : parseW (nsB a b) = (if 32 ≤ a then ([], 71, 9) else (nsI a b, 0, 0)) := by
  unfold parseW
  rw [ns_scan ha hb]
  simp only
  rw [if_neg (by simp), ns_source ha hb]
  have hd : depW (nsE a b).2 = (a : Int) := by rw [depW_eq _ (by unfold nsE; rw [neg_dep _ rfl]; omega)]; unfold nsE; rw [neg_dep _ rfl]
  have h1 : deepW ⟨3, [], ofL [(⟨1, 1, [], 6⟩, .nil)], 0⟩ = false := by kernel_rfl
  have h2 : deepW ⟨10, [], ofL [nsE a b], 9⟩ = decide (32 ≤ a) := by
    unfold deepW
    simp only [ofL, nd, depW]
    rw [hd, wrap_small (by omega) (by omega)]
    rw [decide_eq_decide]
    omega
  have hR : deepR (nsI a b) = if 32 ≤ a then (71, 9) else (0, 0) := by
    unfold nsI
    rw [deepR_cons, h1, if_neg (by decide), deepR_cons, h2]
    by_cases h : 32 ≤ a
    · rw [if_pos (by simpa using h), if_pos h]
    · rw [if_neg (by simpa using h), if_neg h]; rfl
  unfold endW pure'
  simp only [flt_nil]
  rw [if_neg (by simp), hR]
  by_cases h : 32 ≤ a
  · simp [h]
  · simp [h]
theorem ns_depth {a b : Nat} (ha : a ≤ 300) : wrap64 (depW (nsE a b).2 + 1) = (a : Int) + 1 := by
  rw [depW_eq _ (by unfold nsE; rw [neg_dep _ rfl]; omega)]
  unfold nsE
  rw [neg_dep _ rfl, wrap_small (by omega) (by omega)]
end Go.Proofs.Ytnnmhmlebffacab
