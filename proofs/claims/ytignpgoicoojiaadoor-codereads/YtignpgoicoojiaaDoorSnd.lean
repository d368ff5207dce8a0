/-
  What is read was written so; bytes one of which is another one are no code's.
-/
import Derived.Test.YtignpgoicoojiaaDoorCpl
import Derived.Test.YtignpgoicoojiaaDoorRdI
namespace Go.Proofs.YtignpgoicoojiaaDoor
open Go.RowKit

theorem nextR_bad (t : List UInt8) (i : Nat) : nextR t (i, true) = (0, (i, true)) := by rw [nextR, if_pos (by simp)]
theorem nextR_snd {t : List UInt8} {i : Nat} (hi : i ≤ t.length) (h : (nextR t (i, false)).2.2 = false) : t.drop i = (nextR t (i, false)).1 :: t.drop (i + 1) ∧ (nextR t (i, false)).2 = (i + 1, false) ∧ i + 1 ≤ t.length := by
  by_cases he : i = t.length
  · rw [nextR, if_pos (by simp [he])] at h; cases h
  · have hlt : i < t.length := by omega
    rw [nextR, if_neg (by simp; exact he)]
    refine ⟨?_, rfl, hlt⟩
    rw [List.drop_eq_getElem_cons hlt, List.getD, List.getElem?_eq_getElem hlt]; rfl
theorem numGo_bad (t : List UInt8) : ∀ (f k n i : Nat), (numGo t f k n (i, true)).2.2 = true
  | 0, _, _, _ => rfl
  | f + 1, k, n, i => by
    rw [numGo_end (by rw [nextR_bad]; show ¬ 128 ≤ (0 : UInt8).toNat; decide), nextR_bad]; rfl
theorem byte_hi {x : UInt8} (h : 128 ≤ x.toNat) : UInt8.ofNat (x.toNat % 128 + 128) = x := by
  have h2 := UInt8.toNat_lt x
  rw [show x.toNat % 128 + 128 = x.toNat by omega, UInt8.ofNat_toNat]
theorem numGo_snd {t : List UInt8} : ∀ (f k n i : Nat), i ≤ t.length → (numGo t f k n (i, false)).2.2 = false → ∃ m, t.drop i = digs m ++ t.drop (numGo t f k n (i, false)).2.1 ∧ (0 < k → 0 < m) ∧ (numGo t f k n (i, false)).1 = hlv (n + m * 128 ^ k) ∧ (numGo t f k n (i, false)).2.1 ≤ t.length
  | 0, k, n, i, _, h => by cases h
  | f + 1, k, n, i, hi, h => by
    by_cases hx : 128 ≤ (nextR t (i, false)).1.toNat
    · rw [numGo_go hx] at h ⊢
      have hw : (nextR t (i, false)).2.2 = false := by
        cases e : (nextR t (i, false)).2.2 with
        | false => rfl
        | true =>
          have : (nextR t (i, false)).2 = ((nextR t (i, false)).2.1, true) := by rw [← e]
          rw [this, numGo_bad] at h; cases h
      obtain ⟨d1, d2, d3⟩ := nextR_snd hi hw
      rw [d2] at h ⊢
      obtain ⟨m, e1, e2, e3, e4⟩ := numGo_snd f (k + 1) _ (i + 1) d3 h
      have hm := e2 (by omega)
      have hb := UInt8.toNat_lt (nextR t (i, false)).1
      refine ⟨(nextR t (i, false)).1.toNat % 128 + 128 * m, ?_, fun _ => by omega, ?_, e4⟩
      · rw [digs_big (by omega), show ((nextR t (i, false)).1.toNat % 128 + 128 * m) % 128 = (nextR t (i, false)).1.toNat % 128 by omega, show ((nextR t (i, false)).1.toNat % 128 + 128 * m) / 128 = m by omega, byte_hi hx, d1, e1]
        rfl
      · rw [e3, Nat.pow_succ]
        congr 1
        rw [Nat.add_mul, Nat.add_assoc]
        congr 2
        rw [Nat.mul_comm 128 m, Nat.mul_assoc, Nat.mul_comm 128]
    · rw [numGo_end hx] at h ⊢
      simp only [Bool.or_eq_false_iff] at h
      obtain ⟨d1, d2, d3⟩ := nextR_snd hi h.1
      have hxl : (nextR t (i, false)).1.toNat < 128 := by omega
      refine ⟨(nextR t (i, false)).1.toNat, ?_, fun hk => ?_, ?_, ?_⟩
      · rw [digs_small hxl, UInt8.ofNat_toNat, d2]
        exact d1
      · have := h.2
        simp [hk] at this
        exact Nat.pos_of_ne_zero (fun e => this (by simpa using e))
      · rw [Nat.mod_eq_of_lt hxl]
      · rw [d2]; exact d3
theorem numR_snd {t : List UInt8} {s : Sr} (hi : s.1 ≤ t.length) (h : (numR t s).2.2 = false) : s.2 = false ∧ t.drop s.1 = numB (numR t s).1 ++ t.drop (numR t s).2.1 ∧ (numR t s).2.1 ≤ t.length := by
  obtain ⟨i, w⟩ := s
  cases w with
  | true => rw [numR, numGo_bad] at h; cases h
  | false =>
    obtain ⟨m, e1, _, e3, e4⟩ := numGo_snd 9 0 0 i hi h
    refine ⟨rfl, ?_, e4⟩
    show t.drop i = numB (numGo t 9 0 0 (i, false)).1 ++ t.drop (numGo t 9 0 0 (i, false)).2.1
    rw [e3, numB, dbl_hlv]
    simpa using e1
theorem numR_stick {t : List UInt8} {s : Sr} (h : s.2 = true) : (numR t s).2.2 = true := by
  obtain ⟨i, w⟩ := s
  simp only at h
  subst h
  exact numGo_bad t 9 0 0 i
theorem numsR_stick {t : List UInt8} : ∀ {n : Nat} {s : Sr}, s.2 = true → (numsR t n s).2.2 = true
  | 0, _, h => h
  | n + 1, _, h => numsR_stick (n := n) (numR_stick h)
theorem qdR_stick {t : List UInt8} {s : Sr} (h : s.2 = true) : (qdR t s).2.2 = true := numR_stick (numR_stick (numR_stick (numR_stick h)))
theorem qsR_stick {t : List UInt8} : ∀ {n : Nat} {s : Sr}, s.2 = true → (qsR t n s).2.2 = true
  | 0, _, h => h
  | n + 1, _, h => qsR_stick (n := n) (qdR_stick h)
theorem upR_stick {t : List UInt8} {m : Int} {s : Sr} (h : s.2 = true) : (upR t m s).2.2 = true := by
  rw [upR, if_pos (.inl (numR_stick h))]
theorem numsR_snd {t : List UInt8} : ∀ {n : Nat} {s : Sr}, s.1 ≤ t.length → (numsR t n s).2.2 = false → s.2 = false ∧ t.drop s.1 = numsB (numsR t n s).1 ++ t.drop (numsR t n s).2.1 ∧ (numsR t n s).2.1 ≤ t.length
  | 0, s, hi, h => ⟨h, by simp [numsR, numsB], hi⟩
  | n + 1, s, hi, h => by
    rw [numsR] at h ⊢
    simp only at h ⊢
    by_cases h1 : (numR t s).2.2 = false
    · obtain ⟨a1, a2, a3⟩ := numR_snd hi h1
      obtain ⟨b1, b2, b3⟩ := numsR_snd a3 h
      exact ⟨a1, by rw [a2, b2, numsB_cons, List.append_assoc], b3⟩
    · exfalso
      have h2 := numsR_stick (t := t) (n := n) (s := (numR t s).2) (by simpa using h1)
      rw [h2] at h; cases h
theorem not_true {b : Bool} (h : ¬ b = false) : b = true := by cases b with | true => rfl | false => exact absurd rfl h
theorem qdR_snd {t : List UInt8} {s : Sr} (hi : s.1 ≤ t.length) (h : (qdR t s).2.2 = false) : s.2 = false ∧ t.drop s.1 = numsB (q4 (qdR t s).1) ++ t.drop (qdR t s).2.1 ∧ (qdR t s).2.1 ≤ t.length := by
  simp only [qdR] at h ⊢
  obtain ⟨a, ha⟩ : ∃ a, numR t s = a := ⟨_, rfl⟩
  rw [ha] at h ⊢
  obtain ⟨b, hb⟩ : ∃ b, numR t a.2 = b := ⟨_, rfl⟩
  rw [hb] at h ⊢
  obtain ⟨c, hc⟩ : ∃ c, numR t b.2 = c := ⟨_, rfl⟩
  rw [hc] at h ⊢
  obtain ⟨d, hd⟩ : ∃ d, numR t c.2 = d := ⟨_, rfl⟩
  rw [hd] at h ⊢
  have w3 : c.2.2 = false := by
    cases e : c.2.2 with
    | false => rfl
    | true => have := numR_stick (t := t) e; rw [hd, h] at this; cases this
  have w2 : b.2.2 = false := by
    cases e : b.2.2 with
    | false => rfl
    | true => have := numR_stick (t := t) e; rw [hc, w3] at this; cases this
  have w1 : a.2.2 = false := by
    cases e : a.2.2 with
    | false => rfl
    | true => have := numR_stick (t := t) e; rw [hb, w2] at this; cases this
  obtain ⟨p1, p2, p3⟩ := numR_snd hi (by rw [ha]; exact w1)
  rw [ha] at p2 p3
  obtain ⟨q1, q2, q3⟩ := numR_snd p3 (by rw [hb]; exact w2)
  rw [hb] at q2 q3
  obtain ⟨r1, r2, r3⟩ := numR_snd q3 (by rw [hc]; exact w3)
  rw [hc] at r2 r3
  obtain ⟨u1, u2, u3⟩ := numR_snd r3 (by rw [hd]; exact h)
  rw [hd] at u2 u3
  exact ⟨p1, by rw [p2, q2, r2, u2]; simp [numsB, q4], u3⟩
theorem qsR_snd {t : List UInt8} : ∀ {n : Nat} {s : Sr}, s.1 ≤ t.length → (qsR t n s).2.2 = false → s.2 = false ∧ t.drop s.1 = qsB (qsR t n s).1 ++ t.drop (qsR t n s).2.1 ∧ (qsR t n s).2.1 ≤ t.length
  | 0, s, hi, h => ⟨h, by simp [qsR, qsB], hi⟩
  | n + 1, s, hi, h => by
    rw [qsR] at h ⊢
    simp only at h ⊢
    by_cases h1 : (qdR t s).2.2 = false
    · obtain ⟨a1, a2, a3⟩ := qdR_snd hi h1
      obtain ⟨b1, b2, b3⟩ := qsR_snd a3 h
      exact ⟨a1, by rw [a2, b2, qsB_cons, List.append_assoc], b3⟩
    · exfalso
      have h2 := qsR_stick (t := t) (n := n) (s := (qdR t s).2) (not_true h1)
      rw [h2] at h; cases h
theorem upR_snd {t : List UInt8} {m : Int} {s : Sr} (hi : s.1 ≤ t.length) (h : (upR t m s).2.2 = false) : s.2 = false ∧ t.drop s.1 = numB ((upR t m s).1 : Int) ++ t.drop (upR t m s).2.1 ∧ (upR t m s).2.1 ≤ t.length := by
  by_cases hc : (numR t s).2.2 = true ∨ (numR t s).1 < 0 ∨ m < (numR t s).1
  · rw [upR, if_pos hc] at h; cases h
  · rw [upR, if_neg hc] at h ⊢
    simp only at h ⊢
    obtain ⟨a1, a2, a3⟩ := numR_snd hi h
    refine ⟨a1, ?_, a3⟩
    rw [show (((numR t s).1.toNat : Nat) : Int) = (numR t s).1 by omega]
    exact a2
theorem expR_snd {t u : List UInt8} {s : Sr} (h : (expR t u s).2 = false) : s.2 = false ∧ t.drop s.1 = u ++ t.drop (expR t u s).1 ∧ (s.1 ≤ t.length → (expR t u s).1 ≤ t.length) := by
  by_cases hc : s.2 = true ∨ t.length - s.1 < u.length
  · rw [expR, if_pos hc] at h; cases h
  · rw [expR, if_neg hc] at h ⊢
    simp only [decide_eq_false_iff_not, Decidable.not_not] at h ⊢
    refine ⟨by cases e : s.2 with | false => rfl | true => exact absurd (.inl e) hc, ?_, fun _ => by omega⟩
    rw [← List.drop_drop]
    conv => lhs; rw [← List.take_append_drop u.length (t.drop s.1), h]
theorem codeR_snd {t : List UInt8} {s : Sr} (hi : s.1 ≤ t.length) (h : (codeR t s).2.2 = false) : s.2 = false ∧ t.drop s.1 = bodyB (codeR t s).1 ++ t.drop (codeR t s).2.1 ∧ (codeR t s).2.1 ≤ t.length := by
  simp only [codeR] at h ⊢
  obtain ⟨l, hl⟩ : ∃ a, upR t 20 s = a := ⟨_, rfl⟩
  rw [hl] at h ⊢
  obtain ⟨hd, hhd⟩ : ∃ a, numsR t 5 l.2 = a := ⟨_, rfl⟩
  rw [hhd] at h ⊢
  obtain ⟨tb, htb⟩ : ∃ a, numsR t (l.1 * l.1) hd.2 = a := ⟨_, rfl⟩
  rw [htb] at h ⊢
  obtain ⟨kn, hkn⟩ : ∃ a, upR t 100 tb.2 = a := ⟨_, rfl⟩
  rw [hkn] at h ⊢
  obtain ⟨ks, hks⟩ : ∃ a, numsR t kn.1 kn.2 = a := ⟨_, rfl⟩
  rw [hks] at h ⊢
  obtain ⟨cn, hcn⟩ : ∃ a, upR t 1000 ks.2 = a := ⟨_, rfl⟩
  rw [hcn] at h ⊢
  obtain ⟨cs, hcs⟩ : ∃ a, qsR t cn.1 cn.2 = a := ⟨_, rfl⟩
  rw [hcs] at h ⊢
  obtain ⟨an, han⟩ : ∃ a, upR t 160 cs.2 = a := ⟨_, rfl⟩
  rw [han] at h ⊢
  obtain ⟨ar, har⟩ : ∃ a, qsR t an.1 an.2 = a := ⟨_, rfl⟩
  rw [har] at h ⊢
  have w8 : an.2.2 = false := by
    cases e : an.2.2 with
    | false => rfl
    | true => have := qsR_stick (t := t) (n := an.1) e; rw [har, h] at this; cases this
  have w7 : cs.2.2 = false := by
    cases e : cs.2.2 with
    | false => rfl
    | true => have := upR_stick (t := t) (m := 160) e; rw [han, w8] at this; cases this
  have w6 : cn.2.2 = false := by
    cases e : cn.2.2 with
    | false => rfl
    | true => have := qsR_stick (t := t) (n := cn.1) e; rw [hcs, w7] at this; cases this
  have w5 : ks.2.2 = false := by
    cases e : ks.2.2 with
    | false => rfl
    | true => have := upR_stick (t := t) (m := 1000) e; rw [hcn, w6] at this; cases this
  have w4 : kn.2.2 = false := by
    cases e : kn.2.2 with
    | false => rfl
    | true => have := numsR_stick (t := t) (n := kn.1) e; rw [hks, w5] at this; cases this
  have w3 : tb.2.2 = false := by
    cases e : tb.2.2 with
    | false => rfl
    | true => have := upR_stick (t := t) (m := 100) e; rw [hkn, w4] at this; cases this
  have w2 : hd.2.2 = false := by
    cases e : hd.2.2 with
    | false => rfl
    | true => have := numsR_stick (t := t) (n := l.1 * l.1) e; rw [htb, w3] at this; cases this
  have w1 : l.2.2 = false := by
    cases e : l.2.2 with
    | false => rfl
    | true => have := numsR_stick (t := t) (n := 5) e; rw [hhd, w2] at this; cases this
  obtain ⟨a1, a2, a3⟩ := upR_snd (m := 20) hi (by rw [hl]; exact w1)
  rw [hl] at a2 a3
  obtain ⟨_, b2, b3⟩ := numsR_snd (n := 5) a3 (by rw [hhd]; exact w2)
  have b4 := numsR_len t 5 l.2
  rw [hhd] at b2 b3 b4
  obtain ⟨_, c2, c3⟩ := numsR_snd (n := l.1 * l.1) b3 (by rw [htb]; exact w3)
  rw [htb] at c2 c3
  obtain ⟨_, d2, d3⟩ := upR_snd (m := 100) c3 (by rw [hkn]; exact w4)
  rw [hkn] at d2 d3
  obtain ⟨_, e2, e3⟩ := numsR_snd (n := kn.1) d3 (by rw [hks]; exact w5)
  have e4 := numsR_len t kn.1 kn.2
  rw [hks] at e2 e3 e4
  obtain ⟨_, f2, f3⟩ := upR_snd (m := 1000) e3 (by rw [hcn]; exact w6)
  rw [hcn] at f2 f3
  obtain ⟨_, g2, g3⟩ := qsR_snd (n := cn.1) f3 (by rw [hcs]; exact w7)
  have g4 := qsR_len t cn.1 cn.2
  rw [hcs] at g2 g3 g4
  obtain ⟨_, i2, i3⟩ := upR_snd (m := 160) g3 (by rw [han]; exact w8)
  rw [han] at i2 i3
  obtain ⟨_, j2, j3⟩ := qsR_snd (n := an.1) i3 (by rw [har]; exact h)
  have j4 := qsR_len t an.1 an.2
  rw [har] at j2 j3 j4
  refine ⟨a1, ?_, j3⟩
  obtain ⟨h0, h1, h2, h3, h4, hf⟩ := five b4
  rw [a2, b2, c2, d2, e2, f2, g2, i2, j2]
  simp only [bodyB, hf, e4, g4, j4]
  simp [numsB]
theorem codeR_stick {t : List UInt8} {s : Sr} (h : s.2 = true) : (codeR t s).2.2 = true := by
  simp only [codeR]
  exact qsR_stick (upR_stick (qsR_stick (upR_stick (numsR_stick (upR_stick (numsR_stick (numsR_stick (upR_stick h))))))))
theorem sealR_snd {t : List UInt8} (h : (sealR t).2.2 = false) : t = textB (sealR t).1 := by
  simp only [sealR] at h ⊢
  obtain ⟨e1, he1⟩ : ∃ a, expR t markB (0, false) = a := ⟨_, rfl⟩
  rw [he1] at h ⊢
  obtain ⟨c, hc⟩ : ∃ a, codeR t e1 = a := ⟨_, rfl⟩
  rw [hc] at h ⊢
  obtain ⟨e3, he3⟩ : ∃ a, expR t (checkB (t.take c.2.1)) c.2 = a := ⟨_, rfl⟩
  rw [he3] at h
  rw [Bool.or_eq_false_iff, decide_eq_false_iff_not] at h
  have hw : (expR t (checkB (t.take c.2.1)) c.2).2 = false := by rw [he3]; exact h.1
  obtain ⟨p1, p2, _⟩ := expR_snd hw
  rw [he3] at p2
  have hcw : (codeR t e1).2.2 = false := by rw [hc]; exact p1
  have hew : e1.2 = false := by
    cases e : e1.2 with
    | false => rfl
    | true => rw [codeR_stick e] at hcw; cases hcw
  obtain ⟨_, q2, q3⟩ := expR_snd (t := t) (u := markB) (s := (0, false)) (by rw [he1]; exact hew)
  rw [he1] at q2 q3
  obtain ⟨_, r2, _⟩ := codeR_snd (q3 (Nat.zero_le _)) hcw
  rw [hc] at r2
  have h0 : t = markB ++ t.drop e1.1 := q2
  have h1 : t = (markB ++ bodyB c.1) ++ t.drop c.2.1 := h0.trans (by rw [r2, List.append_assoc])
  have ht : t.take c.2.1 = markB ++ bodyB c.1 := List.append_cancel_right ((List.take_append_drop c.2.1 t).trans h1)
  have h2 : t.drop e3.1 = [] := List.drop_eq_nil_of_le (by omega)
  exact h1.trans (by rw [p2, ht, h2, List.append_nil]; rfl)
theorem decA_cases (t : List UInt8) : decA t = (noCd, 150) ∨ ∃ c, decA t = (c, 0) ∧ rightB c = true ∧ t = textB c := by
  by_cases h : (sealR t).2.2 = true ∨ rightB (sealR t).1 = false
  · exact .inl (by rw [decA, if_pos h])
  · have h1 : (sealR t).2.2 = false := by
      cases e : (sealR t).2.2 with
      | false => rfl
      | true => exact absurd (.inl e) h
    have h2 : rightB (sealR t).1 = true := not_true (fun e => h (.inr e))
    exact .inr ⟨(sealR t).1, by rw [decA, if_neg h], h2, sealR_snd h1⟩
/-- Too short, too long. -/
theorem dec_tail {c : Cd} (hc : Rt c) {t : List UInt8} {r s : List UInt8} (hl : r.length ≠ s.length) (h : t ++ r = textB c ++ s) : decA t = (noCd, 150) := by
  rcases decA_cases t with e | ⟨d, e, hr, ht⟩
  · exact e
  · exfalso
    rw [ht] at h
    unfold textB at h
    simp only [List.append_assoc] at h
    have h2 := (body_inj (rt_of hr) hc (List.append_cancel_left h)).2
    have h3 := congrArg List.length h2
    simp [checkB, ck4] at h3
    exact hl h3
theorem dec_short {c : Cd} (hc : Rt c) {n : Nat} (hn : n < (textB c).length) : decA ((textB c).take n) = (noCd, 150) :=
  dec_tail hc (r := (textB c).drop n) (s := []) (by simp; omega) (by rw [List.take_append_drop, List.append_nil])
theorem dec_long {c : Cd} (hc : Rt c) (x : UInt8) : decA (textB c ++ [x]) = (noCd, 150) :=
  dec_tail hc (r := []) (s := [x]) (by simp) (by simp)
/-- The first sum of the check. -/
def sumN : List UInt8 → Nat
  | [] => 0
  | x :: l => x.toNat + sumN l
theorem ckGo_sum : ∀ (l : List UInt8) (a b : Nat), (ckGo a b l).1 % 65521 = (a + sumN l) % 65521
  | [], a, b => rfl
  | x :: l, a, b => by
    rw [ckGo, ckGo_sum l, sumN]; omega
theorem sumN_append : ∀ (l k : List UInt8), sumN (l ++ k) = sumN l + sumN k
  | [], k => by simp [sumN]
  | x :: l, k => by rw [List.cons_append, sumN, sumN, sumN_append l k]; omega
theorem sumN_set : ∀ (l : List UInt8) (k : Nat) (x y : UInt8), l[k]? = some x → sumN (l.set k y) + x.toNat = sumN l + y.toNat
  | [], k, x, y, h => by simp at h
  | z :: l, 0, x, y, h => by
    simp at h; subst h
    simp only [List.set_cons_zero, sumN]; omega
  | z :: l, k + 1, x, y, h => by
    have := sumN_set l k x y (by simpa using h)
    simp only [List.set_cons_succ, sumN]; omega
theorem ck4_fst {p q : Nat × Nat} (hp : p.1 < 65521) (hq : q.1 < 65521) (h : ck4 p = ck4 q) : p.1 = q.1 := by
  simp only [ck4, List.cons.injEq] at h
  have h1 := ofNat_inj (by omega) (by omega) h.1
  have h2 := ofNat_inj (by omega) (by omega) h.2.1
  omega
theorem check_fst {P Q : List UInt8} (h : checkB P = checkB Q) : (1 + sumN P) % 65521 = (1 + sumN Q) % 65521 := by
  have l1 := ckGo_lt P 1 0 (by decide) (by decide)
  have l2 := ckGo_lt Q 1 0 (by decide) (by decide)
  have h4 : (ckGo 1 0 P).1 = (ckGo 1 0 Q).1 := ck4_fst l1.1 l2.1 h
  rw [← ckGo_sum P 1 0, ← ckGo_sum Q 1 0, h4]
theorem turn_core {P Q : List UInt8} {k : Nat} {x y : UInt8} (hl : Q.length = P.length) (hx : (P ++ checkB P)[k]? = some x) (hy : y ≠ x) (ht : (P ++ checkB P).set k y = Q ++ checkB Q) : False := by
  have hk : k < (P ++ checkB P).length := (List.getElem?_eq_some_iff.1 hx).1
  by_cases hkp : k < P.length
  · rw [List.set_append_left _ _ hkp] at ht
    obtain ⟨h2, h3⟩ := List.append_inj ht (by rw [List.length_set]; exact hl.symm)
    rw [List.getElem?_append_left hkp] at hx
    have s1 := check_fst h3
    have s3 := sumN_set P k x y hx
    rw [h2] at s3
    have b1 := UInt8.toNat_lt x
    have b2 := UInt8.toNat_lt y
    have : y.toNat = x.toNat := by omega
    exact hy (UInt8.toNat_inj.1 this)
  · have ht0 := ht
    rw [List.set_append_right _ _ (by omega)] at ht
    obtain ⟨h2, h3⟩ := List.append_inj ht hl.symm
    rw [← h2] at ht0
    have h6 := congrArg (·[k]?) ht0
    simp only [List.getElem?_set_self hk] at h6
    rw [hx] at h6
    exact hy (Option.some.inj h6)
/-- One byte that is another one. -/
theorem dec_turned {c : Cd} {k : Nat} {x y : UInt8} (hx : (textB c)[k]? = some x) (hy : y ≠ x) : decA ((textB c).set k y) = (noCd, 150) := by
  rcases decA_cases ((textB c).set k y) with e | ⟨d, e, hr, ht⟩
  · exact e
  · exfalso
    have hlen : (textB d).length = (textB c).length := by rw [← ht]; simp
    have hP : (markB ++ bodyB d).length = (markB ++ bodyB c).length := by
      simp [textB, checkB, ck4] at hlen ⊢; omega
    unfold textB at hx ht
    exact turn_core hP hx hy ht
end Go.Proofs.YtignpgoicoojiaaDoor
