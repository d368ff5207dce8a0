/-
  The text of a tree is read as its tokens, and as it. Trees that are the same but for places have one text; trees of one text are the same but for places.
-/
import Derived.Test.YtpeldiibjhffiaaDoorG27
import Derived.Test.YtpeldiibjhffiaaDoorRRa
namespace Go.Proofs.YtpeldiibjhffiaaDoor
open Go.RowKit Go.Deep

/-- The tokens of a text, blanks ahead of it and all. -/
def tz (p : Nat) (s : List UInt8) : List Tk × Nat × Int := tokB (p + skipB s) (s.drop (skipB s))
def Sn (s : List UInt8) (T : List Tk) : Prop := ∀ p, (tz p s).2.2 = 0 ∧ (tz p s).1.map strip = T.map strip
theorem Sn_nil : Sn [] [] := fun _ => ⟨rfl, rfl⟩
theorem skipB_blank {c : UInt8} (hc : isBl c = true) (s : List UInt8) : skipB (c :: s) = skipB s + 1 := by
  unfold skipB
  rw [skipGo]
  split
  · rfl
  · rw [if_pos (by simp [hc])]
theorem Sn_blank {c : UInt8} {s : List UInt8} {T : List Tk} (hc : isBl c = true) (h : Sn s T) : Sn (c :: s) T := fun p => by
  have e : tz p (c :: s) = tz (p + 1) s := by
    unfold tz
    rw [skipB_blank hc, List.drop_succ_cons, show p + (skipB s + 1) = p + 1 + skipB s from by omega]
  rw [e]
  exact h (p + 1)
theorem skip_none {s : List UInt8} (h : errB s = 0) : skipB s = 0 := by
  cases s with
  | nil => rfl
  | cons c r =>
    unfold skipB
    rw [skipGo]
    have h10 : ¬ c = 10 := by rintro rfl; simp [errB, isDig, isPart, isSmall, isCap, isMark] at h
    have h35 : ¬ c = 35 := by rintro rfl; simp [errB, isDig, isPart, isSmall, isCap, isMark] at h
    have hb : ¬ (false || isBl c) = true := by
      intro hb
      simp only [isBl, Bool.false_or, Bool.or_eq_true, beq_iff_eq] at hb
      rcases hb with (rfl | rfl) | rfl <;> simp [errB, isDig, isPart, isSmall, isCap, isMark] at h
    rw [if_neg h10, if_neg hb, if_neg h35]
theorem tz_tok {p : Nat} {s : List UInt8} (hs : s ≠ []) (he : errB s = 0) : tz p s = (tkB s p :: (tz (p + lenB s) (s.drop (lenB s))).1, (tz (p + lenB s) (s.drop (lenB s))).2) := by
  unfold tz
  rw [skip_none he, Nat.add_zero, List.drop_zero, tokB_ok hs he, List.drop_drop]
theorem Sn_tok {x s : List UInt8} {T : List Tk} {k n : Int} {t : List UInt8} (hx : x ≠ []) (he : errB (x ++ s) = 0) (hl : lenB (x ++ s) = x.length) (hk : kindB (x ++ s) = k) (hn : ((numB (x ++ s) : Nat) : Int) = n) (ht : textB (x ++ s) = t) (h : Sn s T) : Sn (x ++ s) (tk k n t :: T) := fun p => by
  rw [tz_tok (by simp [hx]) he, hl, List.drop_left]
  refine ⟨(h _).1, ?_⟩
  rw [List.map_cons, List.map_cons, (h _).2]
  have : strip (tkB (x ++ s) p) = strip (tk k n t) := by
    simp only [strip, tkB, tk, hk, hn, ht]
  rw [this]
theorem Sn_mark {c : UInt8} {s : List UInt8} {T : List Tk} (hc : isMark c = true) (h : Sn s T) : Sn (c :: s) (sg [c] :: T) := by
  have hd : isDig c = false ∧ isPart c = false ∧ ¬ c = 34 := by
    simp only [isMark, Bool.or_eq_true, beq_iff_eq] at hc
    rcases hc with ((((((rfl | rfl) | rfl) | rfl) | rfl) | rfl) | rfl) | rfl <;> decide
  exact Sn_tok (x := [c]) (by simp) (by simp [errB, hd, hc]) (by simp [lenB, hd, hc]) (by simp [kindB, hd]) (by simp [numB, hd]) (by simp [textB, hd, hc]) h
theorem Sn_dots {s : List UInt8} {T : List Tk} (h : Sn s T) : Sn (46 :: 46 :: s) (sg [46, 46] :: T) := by
  exact Sn_tok (x := [46, 46]) (by simp) (by simp [errB, isDig, isPart, isSmall, isCap, isMark]) (by simp [lenB, isDig, isPart, isSmall, isCap, isMark]) (by simp [kindB, isDig, isPart, isSmall, isCap]) (by simp [numB, isDig]) (by simp [textB, isDig, isPart, isSmall, isCap, isMark]) h
/-- No run goes on here. -/
def bd (s : List UInt8) : Prop := ∀ c r, s = c :: r → isPart c = false
theorem run_bd {w s : List UInt8} (hw : ∀ c ∈ w, isPart c = true) (hb : bd s) : runB (w ++ s) = w := by
  unfold runB
  rw [List.takeWhile_append_of_pos hw]
  cases s with
  | nil => simp
  | cons c r => rw [List.takeWhile_cons, hb c r rfl]; simp
theorem small_part {c : UInt8} (h : isSmall c = true) : isPart c = true := by simp [isPart, h]
theorem small_dig {c : UInt8} (h : isSmall c = true) : isDig c = false := by
  simp only [isSmall, Bool.and_eq_true, decide_eq_true_eq] at h
  simp only [isDig, Bool.and_eq_false_iff, decide_eq_false_iff_not]
  omega
theorem Sn_run {c : UInt8} {v s : List UInt8} {T : List Tk} {k : Int} (hc : isSmall c = true) (hv : ∀ d ∈ v, isPart d = true) (hok : (wordB (c :: v) || nameB (c :: v)) = true) (hk : (if wordB (c :: v) then (4 : Int) else 3) = k) (hb : bd s) (h : Sn s T) : Sn ((c :: v) ++ s) (tk k 0 (c :: v) :: T) := by
  have hr : runB ((c :: v) ++ s) = c :: v := run_bd (fun d hd => by rcases List.mem_cons.1 hd with rfl | hd; exact small_part hc; exact hv d hd) hb
  have h1 := small_part hc
  have h2 := small_dig hc
  refine Sn_tok (x := c :: v) (by simp) ?_ ?_ ?_ ?_ ?_ h
  · rw [List.cons_append, errB, ← List.cons_append, hr, h2, h1, hok]; rfl
  · rw [List.cons_append, lenB, ← List.cons_append, hr, h1]; rfl
  · rw [List.cons_append, kindB, ← List.cons_append, hr, h2, h1, ← hk]; rfl
  · rw [List.cons_append, numB, h2]; rfl
  · rw [List.cons_append, textB, ← List.cons_append, hr, h2, h1]; rfl
theorem words_small : ∀ w ∈ wordsB, w ≠ [] ∧ w.all isSmall = true := by decide
theorem Sn_word {w s : List UInt8} {T : List Tk} (hw : wordB w = true) (hb : bd s) (h : Sn s T) : Sn (w ++ s) (tk 4 0 w :: T) := by
  have h1 := words_small w (by simpa [wordB] using hw)
  cases w with
  | nil => exact absurd rfl h1.1
  | cons c v =>
    simp only [List.all_cons, Bool.and_eq_true] at h1
    exact Sn_run h1.2.1 (fun d hd => small_part (List.all_eq_true.1 h1.2.2 d hd)) (by simp [hw]) (by simp [hw]) hb h
theorem Sn_name {w s : List UInt8} {T : List Tk} (hw : nameB w = true) (hb : bd s) (h : Sn s T) : Sn (w ++ s) (tk 3 0 w :: T) := by
  have hw2 := hw
  unfold nameB at hw2
  simp only [Bool.and_eq_true, decide_eq_true_eq, Bool.not_eq_true'] at hw2
  cases w with
  | nil => simp at hw2
  | cons c v =>
    have h3 := hw2.2.2.2
    simp only [lettersB, Bool.and_eq_true] at h3
    refine Sn_run h3.1 (fun d hd => ?_) (by simp [hw]) (by simp [hw2.1]) hb h
    have h4 := List.all_eq_true.1 h3.2 d hd
    simp only [restOk, Bool.or_eq_true, beq_iff_eq] at h4
    unfold isPart
    rcases h4 with (h4 | h4) | h4 <;> simp [h4]
theorem dig_byte {n : Nat} (h : n < 10) : isDig (UInt8.ofNat (48 + n)) = true ∧ (UInt8.ofNat (48 + n)).toNat - 48 = n := by
  have : (UInt8.ofNat (48 + n)).toNat = 48 + n := by rw [UInt8.toNat_ofNat']; omega
  simp only [isDig, this, Bool.and_eq_true, decide_eq_true_eq]
  omega
theorem decT_small {n : Nat} (h : n < 10) : Lib.decDigits n = [UInt8.ofNat (48 + n)] := by rw [Lib.decDigits, dif_pos h]
theorem decT_big {n : Nat} (h : ¬ n < 10) : Lib.decDigits n = Lib.decDigits (n / 10) ++ [UInt8.ofNat (48 + n % 10)] := by rw [Lib.decDigits, dif_neg h]
theorem dec_all (n : Nat) : ∀ c ∈ Lib.decDigits n, isDig c = true := by
  induction n using Nat.strongRecOn with
  | ind n ih =>
    intro c hc
    by_cases h : n < 10
    · rw [decT_small h] at hc
      rw [List.mem_singleton.1 hc]
      exact (dig_byte h).1
    · rw [decT_big h] at hc
      rcases List.mem_append.1 hc with h1 | h1
      · exact ih (n / 10) (by omega) c h1
      · rw [List.mem_singleton.1 h1]
        exact (dig_byte (by omega)).1
theorem num_append : ∀ (x y : List UInt8) (a m : Nat), numGo a x = some m → numGo a (x ++ y) = numGo m y
  | [], y, a, m, h => by simp [numGo] at h; subst h; rfl
  | c :: x, y, a, m, h => by
    rw [numGo] at h
    rw [List.cons_append, numGo]
    split at h
    · rename_i h1
      split at h
      · cases h
      · rename_i h2
        rw [if_pos h1, if_neg h2]
        exact num_append x y _ _ h
    · cases h
theorem dec_num (n : Nat) (hn : n ≤ maxC) : numGo 0 (Lib.decDigits n) = some n := by
  induction n using Nat.strongRecOn with
  | ind n ih =>
    have step : ∀ a d, d < 10 → 10 * a + d ≤ maxC → numGo a [UInt8.ofNat (48 + d)] = some (10 * a + d) := fun a d hd hm => by
      rw [numGo, (dig_byte hd).1, (dig_byte hd).2, if_pos rfl, if_neg (by omega)]
      rfl
    by_cases h : n < 10
    · rw [decT_small h, step 0 n h (by omega)]
      simp
    · rw [decT_big h, num_append _ _ _ _ (ih (n / 10) (by omega) (by omega)), step _ _ (by omega) (by omega)]
      congr 1
      omega
theorem dec_some (n : Nat) : ∃ c r, Lib.decDigits n = c :: r := by
  cases h : Lib.decDigits n with
  | cons c r => exact ⟨c, r, rfl⟩
  | nil =>
    by_cases h1 : n < 10
    · rw [decT_small h1] at h; cases h
    · rw [decT_big h1] at h; simp at h
theorem dec_head (n : Nat) (h1 : 1 ≤ n) : (Lib.decDigits n).head? ≠ some 48 := by
  induction n using Nat.strongRecOn with
  | ind n ih =>
    by_cases h : n < 10
    · rw [decT_small h]
      intro e
      have e2 : UInt8.ofNat (48 + n) = 48 := by simpa using e
      have := (dig_byte h).2
      rw [e2] at this
      simp at this
      omega
    · rw [decT_big h]
      obtain ⟨c, r, e⟩ := dec_some (n / 10)
      have := ih (n / 10) (by omega) (by omega)
      rw [e] at this ⊢
      simpa using this
theorem dec_numO (n : Nat) (hn : n ≤ maxC) : numO (Lib.decDigits n) = some n := by
  unfold numO
  rw [if_neg, dec_num n hn]
  intro h
  by_cases h0 : n = 0
  · subst h0
    rw [decT_small (by omega)] at h
    simp at h
  · exact dec_head n (by omega) h.2
theorem Sn_num {n : Nat} {s : List UInt8} {T : List Tk} (hn : n ≤ maxC) (hb : bd s) (h : Sn s T) : Sn (Lib.decDigits n ++ s) (tk 2 n [] :: T) := by
  have hr : runB (Lib.decDigits n ++ s) = Lib.decDigits n := run_bd (fun d hd => dig_part (dec_all n d hd)) hb
  have ho := dec_numO n hn
  have hall := dec_all n
  obtain ⟨c, r, e⟩ := dec_some n
  rw [e] at hr ho hall ⊢
  have h1 := hall c (by simp)
  refine Sn_tok (x := c :: r) (by simp) ?_ ?_ ?_ ?_ ?_ h
  · rw [List.cons_append, errB, ← List.cons_append, hr, h1, ho]; rfl
  · rw [List.cons_append, lenB, ← List.cons_append, hr, dig_part h1]; rfl
  · rw [List.cons_append, kindB, h1]; rfl
  · rw [List.cons_append, numB, ← List.cons_append, hr, h1, ho]; rfl
  · rw [List.cons_append, textB, h1]; rfl
theorem inner_of {t s : List UInt8} (h : ∀ c ∈ t, c ≠ 34) : innerB (t ++ 34 :: s) = t := by
  unfold innerB
  rw [List.takeWhile_append_of_pos (fun c hc => by simpa using h c hc)]
  simp
theorem Sn_text {t s : List UInt8} {T : List Tk} (ht : txB t = true) (h : Sn s T) : Sn ((34 :: (t ++ [34])) ++ s) (tk 5 0 t :: T) := by
  rw [← tx_is] at ht
  unfold isTxtB at ht
  simp only [Bool.and_eq_true, decide_eq_true_eq, List.all_eq_true] at ht
  have h1 : ∀ c ∈ t, inText c = true ∧ c ≠ 34 := fun c hc => by
    have := ht.1 c hc
    simp only [inText', Bool.and_eq_true, bne_iff_ne, ne_eq] at this
    exact this
  have e : (34 :: (t ++ [34])) ++ s = 34 :: (t ++ 34 :: s) := by simp
  have hi : innerB (t ++ 34 :: s) = t := inner_of fun c hc => (h1 c hc).2
  have hok : textOk (t ++ 34 :: s) = true := by
    unfold textOk
    rw [hi]
    simp only [Bool.and_eq_true, decide_eq_true_eq, List.all_eq_true]
    exact ⟨by simp, ht.2, fun c hc => (h1 c hc).1⟩
  have hd : isDig 34 = false ∧ isPart 34 = false := by decide
  refine Sn_tok (x := 34 :: (t ++ [34])) (by simp) ?_ ?_ ?_ ?_ ?_ h
  · rw [e, errB, hd.1, hd.2, hok]; rfl
  · rw [e, lenB, hd.2, hi]; simp
  · rw [e, kindB, hd.1, hd.2]; rfl
  · rw [e, numB, hd.1]; rfl
  · rw [e, textB, hd.1, hd.2, hi]; rfl
/-- A text whose tokens are these, whatever stands behind it. -/
def Ok (x : List UInt8) (y : List Tk) : Prop := ∀ s T, bd s → Sn s T → Sn (x ++ s) (y ++ T)
def AL : List Kt → List Kz → Prop
  | [], [] => True
  | x :: r, y :: q => (x.1 = y.1 ∧ Ok x.2 y.2) ∧ AL r q
  | _, _ => False
theorem AL_get : ∀ {ks : List Kt} {qs : List Kz} (i : Nat), AL ks qs → (kt ks i).1 = (kz qs i).1 ∧ Ok (kt ks i).2 (kz qs i).2
  | [], [], i, _ => by
    have h1 : kt [] i = (0, []) := by cases i <;> rfl
    have h2 : kz [] i = (0, []) := by cases i <;> rfl
    rw [h1, h2]
    exact ⟨rfl, fun _ _ _ h => h⟩
  | [], _ :: _, _, h => by cases h
  | _ :: _, [], _, h => by cases h
  | x :: ks, y :: qs, 0, h => h.1
  | x :: ks, y :: qs, i + 1, h => AL_get (ks := ks) (qs := qs) i h.2
theorem bd_mark {c : UInt8} {s : List UInt8} (h : isPart c = false) : bd (c :: s) := fun d r e => by cases e; exact h
theorem ok_br (asked : Int) {x : Kt} {y : Kz} (hk : x.1 = y.1) (h : Ok x.2 y.2) : Ok (brB asked x) (brT asked y) := by
  unfold brB brT
  rw [hk]
  split
  · exact h
  · intro s T hb hs
    have h1 := Sn_mark (c := 40) rfl (h (41 :: s) (sg [41] :: T) (bd_mark rfl) (Sn_mark (c := 41) rfl hs))
    simpa using h1
theorem ok_all {sep : List UInt8} {st : Tk} (h1 : ∀ s T, Sn s T → Sn (sep ++ s) (st :: T)) (h2 : ∀ s, bd (sep ++ s)) : ∀ (ks : List Kt) (qs : List Kz) (b : Bool) (s : List UInt8) (T : List Tk), AL ks qs → bd s → Sn s T →
    Sn (allB sep b ks ++ s) (allT st b qs ++ T) ∧ (b = false → bd (allB sep b ks ++ s))
  | [], [], b, s, T, _, hb, hs => by simp only [allB, allT, List.nil_append]; exact ⟨hs, fun _ => hb⟩
  | [], _ :: _, _, _, _, h, _, _ => by cases h
  | _ :: _, [], _, _, _, h, _, _ => by cases h
  | x :: ks, y :: qs, b, s, T, h, hb, hs => by
    obtain ⟨h3, h4⟩ := ok_all h1 h2 ks qs false s T h.2 hb hs
    have h5 := h.1.2 _ _ (h4 rfl) h3
    cases b with
    | true =>
      refine ⟨?_, fun h => by cases h⟩
      simpa [allB, allT] using h5
    | false =>
      have h6 := h1 _ _ h5
      refine ⟨by simpa [allB, allT] using h6, fun _ => ?_⟩
      have h7 := h2 (x.2 ++ (allB sep false ks ++ s))
      simpa [allB] using h7
theorem comma_ok (s : List UInt8) (T : List Tk) (h : Sn s T) : Sn ([44, 32] ++ s) (sg [44] :: T) := Sn_mark (c := 44) rfl (Sn_blank (c := 32) rfl h)
theorem dots_ok (s : List UInt8) (T : List Tk) (h : Sn s T) : Sn ([32, 46, 46, 32] ++ s) (sg [46, 46] :: T) := Sn_blank (c := 32) rfl (Sn_dots (Sn_blank (c := 32) rfl h))
theorem ok_many {w : List UInt8} (hw : wordB w = true) {ks : List Kt} {qs : List Kz} (h : AL ks qs) : Ok (w ++ (40 :: (allB [44, 32] true ks ++ [41]))) (tk 4 0 w :: sg [40] :: (allT (sg [44]) true qs ++ [sg [41]])) := fun s T hb hs => by
  have h1 := (ok_all comma_ok (fun _ => bd_mark rfl) ks qs true (41 :: s) (sg [41] :: T) h (bd_mark rfl) (Sn_mark (c := 41) rfl hs)).1
  have h2 := Sn_word hw (bd_mark (c := 40) rfl) (Sn_mark (c := 40) rfl h1)
  simpa using h2
theorem ok_two {k : Int} (hk : k = 5 ∨ k = 6 ∨ k = 7) {a b : Int} {x x' : Kt} {y y' : Kz} (h1 : x.1 = y.1 ∧ Ok x.2 y.2) (h2 : x'.1 = y'.1 ∧ Ok x'.2 y'.2) : Ok (brB a x ++ ([32] ++ (sgnB k ++ [32]) ++ brB b x')) (brT a y ++ (sg (sgnB k) :: brT b y')) := fun s T hb hs => by
  have h3 := ok_br b h2.1 h2.2 s T hb hs
  have h4 : Sn (32 :: (sgnB k ++ (32 :: (brB b x' ++ s)))) (sg (sgnB k) :: (brT b y' ++ T)) := by
    refine Sn_blank (c := 32) rfl ?_
    rcases hk with rfl | rfl | rfl
    · exact Sn_mark (c := 43) rfl (Sn_blank (c := 32) rfl h3)
    · exact Sn_mark (c := 45) rfl (Sn_blank (c := 32) rfl h3)
    · exact Sn_mark (c := 42) rfl (Sn_blank (c := 32) rfl h3)
  have h5 := ok_br a h1.1 h1.2 _ _ (bd_mark (c := 32) rfl) h4
  simpa using h5
theorem ok_ex {h : Hd} {n : Nat} (hh : hdRight h n = true) {ks : List Kt} {qs : List Kz} (hal : AL ks qs) : Ok (exB h ks) (exT h qs) := by
  unfold hdRight at hh
  unfold exB exT
  by_cases c1 : h.kind = 1
  · rw [if_pos c1] at hh ⊢
    rw [if_pos c1]
    simp only [Bool.and_eq_true, decide_eq_true_eq] at hh
    intro s T hb hs
    have h1 := Sn_num (n := h.num.toNat) (by unfold maxC; omega) hb hs
    rw [show ((h.num.toNat : Nat) : Int) = h.num from by omega] at h1
    exact h1
  rw [if_neg c1] at hh ⊢
  rw [if_neg c1]
  by_cases c2 : h.kind = 2
  · rw [if_pos c2] at hh ⊢
    rw [if_pos c2]
    simp only [Bool.and_eq_true, decide_eq_true_eq] at hh
    exact fun s T hb hs => Sn_name hh.2.1 hb hs
  rw [if_neg c2] at hh ⊢
  rw [if_neg c2]
  by_cases c3 : h.kind = 3
  · rw [if_pos c3] at hh ⊢
    rw [if_pos c3]
    simp only [Bool.and_eq_true, decide_eq_true_eq] at hh
    exact fun s T hb hs => Sn_text hh.2.1 hs
  rw [if_neg c3] at hh ⊢
  rw [if_neg c3]
  by_cases c4 : h.kind = 4
  · rw [if_pos c4, if_pos c4]
    intro s T hb hs
    have h0 := AL_get 0 hal
    exact Sn_mark (c := 45) rfl (ok_br 2 h0.1 h0.2 s T hb hs)
  rw [if_neg c4] at hh
  rw [if_neg c4, if_neg c4]
  by_cases c8 : h.kind = 8
  · rw [if_pos c8, if_pos c8]
    have := ok_many (w := wMin) rfl hal
    exact this
  rw [if_neg c8, if_neg c8]
  by_cases c9 : h.kind = 9
  · rw [if_pos c9, if_pos c9]
    have := ok_many (w := wMax) rfl hal
    exact this
  rw [if_neg c9, if_neg c9]
  have c5 : h.kind = 5 ∨ h.kind = 6 ∨ h.kind = 7 := by
    split at hh
    · assumption
    · split at hh
      · omega
      · cases hh
  exact ok_two c5 (AL_get 0 hal) (AL_get 1 hal)
theorem al_right : ∀ (F : Fo) (d : Nat), rgtF d F = true → AL (txF F) (tkF F)
  | .nil, _, _ => trivial
  | .node _ _ h k r, d, hr => by
    simp only [rgtF, Bool.and_eq_true, decide_eq_true_eq] at hr
    exact ⟨⟨rfl, ok_ex hr.2.1 (al_right k (d - 1) hr.2.2.1)⟩, al_right r d hr.2.2.2⟩
theorem it_ok {i : It} (hi : itRight i = true) {s : List UInt8} {T : List Tk} (hs : Sn s T) : Sn (itB i ++ s) (itT i ++ T) := by
  have hal := al_right i.args 32 (it_args hi)
  have hs2 : Sn (59 :: 10 :: s) (sg [59] :: T) := Sn_mark (c := 59) rfl (Sn_blank (c := 10) rfl hs)
  have hall : ∀ b, Sn (allB (signI i.kind) b (txF i.args) ++ (59 :: 10 :: s)) (allT (sepT i.kind) b (tkF i.args) ++ (sg [59] :: T)) := fun b => by
    unfold signI sepT
    split
    · exact (ok_all dots_ok (fun _ => bd_mark rfl) _ _ b _ _ hal (bd_mark rfl) hs2).1
    · exact (ok_all comma_ok (fun _ => bd_mark rfl) _ _ b _ _ hal (bd_mark rfl) hs2).1
  have hA := hall true
  have key : ∀ X Y, (∀ s T, bd s → Sn s T → Sn (X ++ s) (Y ++ T)) → True := fun _ _ _ => trivial
  unfold itB itT headI headT
  unfold itRight at hi
  by_cases c1 : i.kind = 1
  · rw [if_pos c1] at hi ⊢
    rw [if_pos c1]
    simp only [Bool.and_eq_true, decide_eq_true_eq] at hi
    have h1 := Sn_word (w := wLet) rfl (bd_mark (c := 32) rfl) (Sn_blank (c := 32) rfl (Sn_name hi.1 (bd_mark (c := 32) rfl) (Sn_blank (c := 32) rfl (Sn_mark (c := 61) rfl (Sn_blank (c := 32) rfl hA)))))
    simpa [wLet] using h1
  rw [if_neg c1] at hi ⊢
  rw [if_neg c1]
  by_cases c7 : i.kind = 7
  · rw [if_pos c7] at hi ⊢
    rw [if_pos c7]
    simp only [Bool.and_eq_true, decide_eq_true_eq] at hi
    obtain ⟨hw, hl⟩ := hi
    have hword : wordB i.name = true := by
      simp only [isWayB, Bool.or_eq_true, decide_eq_true_eq] at hw
      rcases hw with ((h | h) | h) | h <;> rw [h] <;> decide
    have hn := len_none hl
    rw [hn]
    have h1 := Sn_word (w := wMode) rfl (bd_mark (c := 32) rfl) (Sn_blank (c := 32) rfl (Sn_word hword (bd_mark (c := 59) rfl) hs2))
    simpa [wMode, txF, tkF, allB, allT] using h1
  rw [if_neg c7] at hi ⊢
  rw [if_neg c7]
  have hword : wordB (wordI i.kind) = true := by
    have : i.kind = 2 ∨ i.kind = 3 ∨ i.kind = 4 ∨ i.kind = 5 ∨ i.kind = 6 ∨ i.kind = 8 ∨ i.kind = 9 ∨ i.kind = 10 := by
      split at hi
      · omega
      · split at hi
        · omega
        · cases hi
    rcases this with h | h | h | h | h | h | h | h <;> rw [h] <;> decide
  have h1 := Sn_word hword (bd_mark (c := 32) rfl) (Sn_blank (c := 32) rfl hA)
  simpa using h1
theorem tree_ok : ∀ (L : List It), L.all itRight = true → Sn (treeB L) (L.flatMap itT)
  | [], _ => Sn_nil
  | i :: L, h => by
    simp only [List.all_cons, Bool.and_eq_true] at h
    have := it_ok h.1 (tree_ok L h.2)
    simpa [treeB, List.flatMap_cons] using this
theorem sameI_iff : ∀ (L M : List It), sameI L M = true ↔ L.map zI = M.map zI
  | [], [] => by simp [sameI]
  | [], _ :: _ => by simp [sameI]
  | _ :: _, [] => by simp [sameI]
  | i :: L, j :: M => by
    have h1 := sameI_iff L M
    have h2 := sameF_iff i.args j.args
    simp only [sameI, Bool.and_eq_true, decide_eq_true_eq, h1, h2, List.map_cons, List.cons.injEq, zI, It.mk.injEq, and_true]
theorem zI_zI (L : List It) : (L.map zI).map zI = L.map zI := by
  rw [List.map_map]
  refine List.map_congr_left fun i _ => ?_
  simp [zI, zF_zF]
/-- What is read of a text whose tokens are those of a right tree. -/
theorem read_back {S : List UInt8} {L : List It} (hL : treeRight L = true) (hlen : S.length ≤ 4000) (hS : Sn S (L.flatMap itT)) : (parseW S).2.1 = 0 ∧ sameI (parseW S).1 L = true := by
  have h0 := hS 0
  unfold tz at h0
  rw [Nat.zero_add] at h0
  have e : scanB S = ((tokB (skipB S) (S.drop (skipB S))).1 ++ [endTk S.length], 0, 0) := by
    unfold scanB
    rw [if_neg (by omega)]
    unfold finB
    rw [if_pos h0.1]
  unfold parseW
  rw [e, if_neg (by simp)]
  have h1 : ((tokB (skipB S) (S.drop (skipB S))).1 ++ [endTk S.length]).map strip = (L.flatMap itT ++ [endTk S.length]).map strip := by
    rw [List.map_append, List.map_append, h0.2]
  obtain ⟨h2, h3⟩ := end_same h1
  rw [end_read hL] at h2 h3
  refine ⟨h3.symm, ?_⟩
  rw [sameI_iff] at h2 ⊢
  rw [← h2, zI_zI]
theorem print_back {L : List It} (hL : treeRight L = true) (hlen : (treeB L).length ≤ 4000) : (parseW (treeB L)).2.1 = 0 ∧ sameI (parseW (treeB L)).1 L = true := by
  refine read_back hL hlen (tree_ok L ?_)
  unfold treeRight at hL
  simp only [Bool.and_eq_true] at hL
  exact hL.2
end Go.Proofs.YtpeldiibjhffiaaDoor
namespace Go.Proofs.YtpeldiibjhffiaaDoor
open Go.RowKit Go.Deep

theorem len_z : ∀ F : Fo, lenF (zF F) = lenF F
  | .nil => rfl
  | .node _ _ h k r => by simp [zF, nd, lenF, len_z r]
theorem tx_z : ∀ F : Fo, txF (zF F) = txF F
  | .nil => rfl
  | .node _ _ h k r => by
    simp only [zF, nd, txF, tx_z k, tx_z r]
    rfl
theorem rgt_z : ∀ (F : Fo) (d : Nat), rgtF d (zF F) = rgtF d F
  | .nil, _ => rfl
  | .node _ _ h k r, d => by
    simp only [zF, nd, rgtF, rgt_z k, rgt_z r, len_z]
    rfl
theorem itB_z (i : It) : itB (zI i) = itB i := by
  unfold itB
  rw [show (zI i).args = zF i.args from rfl, tx_z]
  rfl
theorem itR_z (i : It) : itRight (zI i) = itRight i := by
  unfold itRight
  rw [show (zI i).args = zF i.args from rfl, rgt_z, len_z]
  rfl
theorem treeB_z (L : List It) : treeB (L.map zI) = treeB L := by
  induction L with
  | nil => rfl
  | cons i L ih =>
    unfold treeB at ih ⊢
    rw [List.map_cons, List.flatMap_cons, List.flatMap_cons, itB_z, ih]
theorem treeR_z (L : List It) : treeRight (L.map zI) = treeRight L := by
  have : ∀ L : List It, (L.map zI).all itRight = L.all itRight := fun L => by
    induction L with
    | nil => rfl
    | cons i L ih => rw [List.map_cons, List.all_cons, List.all_cons, itR_z, ih]
  unfold treeRight
  rw [List.length_map, this]
theorem printB_z (L : List It) : printB (L.map zI) = printB L := by
  unfold printB
  rw [treeR_z, treeB_z]
theorem printB_same {L M : List It} (h : sameI L M = true) : printB L = printB M := by
  rw [← printB_z L, ← printB_z M, (sameI_iff _ _).1 h]
theorem printB_ok {L : List It} {S : List UInt8} (h : printB L = (S, 0)) : treeRight L = true ∧ S = treeB L ∧ S.length ≤ 4000 := by
  unfold printB at h
  split at h
  · rename_i hr
    split at h
    · rename_i hl
      have : treeB L = S := by simpa using h
      subst this
      exact ⟨hr, rfl, hl⟩
    · simp at h
  · simp at h
theorem print_read {L : List It} {S : List UInt8} (h : printB L = (S, 0)) : (parseW S).2.1 = 0 ∧ sameI (parseW S).1 L = true ∧ printB (parseW S).1 = (S, 0) := by
  obtain ⟨h1, rfl, h3⟩ := printB_ok h
  obtain ⟨h4, h5⟩ := print_back h1 h3
  exact ⟨h4, h5, by rw [printB_same h5]; exact h⟩
theorem print_twice {L M : List It} {S : List UInt8} (h : printB L = (S, 0)) (h' : printB M = (S, 0)) : sameI L M = true := by
  have h1 := (print_read h).2.1
  have h2 := (print_read h').2.1
  rw [sameI_iff] at h1 h2 ⊢
  rw [← h1, h2]
end Go.Proofs.YtpeldiibjhffiaaDoor
