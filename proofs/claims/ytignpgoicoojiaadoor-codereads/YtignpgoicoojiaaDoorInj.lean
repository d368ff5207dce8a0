/-
  Unlike codes have unlike bytes.
-/
import Derived.Test.YtignpgoicoojiaaDoorWrG
namespace Go.Proofs.YtignpgoicoojiaaDoor
open Go.RowKit

theorem ofNat_inj {a b : Nat} (ha : a < 256) (hb : b < 256) (h : UInt8.ofNat a = UInt8.ofNat b) : a = b := by
  have := congrArg UInt8.toNat h
  rw [UInt8.toNat_ofNat', UInt8.toNat_ofNat'] at this
  omega
theorem digs_inj : ∀ (f m n : Nat) (r s : List UInt8), m < f → digs m ++ r = digs n ++ s → m = n ∧ r = s
  | 0, m, n, r, s, h, _ => by omega
  | f + 1, m, n, r, s, hf, h => by
    by_cases hm : m < 128
    · by_cases hn : n < 128
      · rw [digs_small hm, digs_small hn] at h
        simp only [List.cons_append, List.nil_append, List.cons.injEq] at h
        exact ⟨ofNat_inj (by omega) (by omega) h.1, h.2⟩
      · rw [digs_small hm, digs_big hn] at h
        simp only [List.cons_append, List.nil_append, List.cons.injEq] at h
        have := ofNat_inj (by omega) (by omega) h.1
        omega
    · by_cases hn : n < 128
      · rw [digs_big hm, digs_small hn] at h
        simp only [List.cons_append, List.nil_append, List.cons.injEq] at h
        have := ofNat_inj (by omega) (by omega) h.1
        omega
      · rw [digs_big hm, digs_big hn] at h
        simp only [List.cons_append, List.cons.injEq] at h
        have h1 := ofNat_inj (by omega) (by omega) h.1
        obtain ⟨h2, h3⟩ := digs_inj f (m / 128) (n / 128) r s (by omega) h.2
        exact ⟨by omega, h3⟩
theorem numB_inj {a b : Int} {r s : List UInt8} (h : numB a ++ r = numB b ++ s) : a = b ∧ r = s := by
  obtain ⟨h1, h2⟩ := digs_inj (dbl a + 1) _ _ _ _ (by omega) h
  exact ⟨by rw [← hlv_dbl a, h1, hlv_dbl], h2⟩
theorem numsB_cons (a : Int) (l : List Int) : numsB (a :: l) = numB a ++ numsB l := rfl
theorem numsB_inj : ∀ {l k : List Int} {r s : List UInt8}, l.length = k.length → numsB l ++ r = numsB k ++ s → l = k ∧ r = s
  | [], [], r, s, _, h => ⟨rfl, h⟩
  | [], _ :: _, _, _, h, _ => by simp at h
  | _ :: _, [], _, _, h, _ => by simp at h
  | a :: l, b :: k, r, s, hl, h => by
    rw [numsB_cons, numsB_cons, List.append_assoc, List.append_assoc] at h
    obtain ⟨h1, h2⟩ := numB_inj h
    obtain ⟨h3, h4⟩ := numsB_inj (by simpa using hl) h2
    exact ⟨by rw [h1, h3], h4⟩
theorem qsB_cons (q : Qd) (l : List Qd) : qsB (q :: l) = numsB (q4 q) ++ qsB l := rfl
theorem q4_inj {p q : Qd} (h : q4 p = q4 q) : p = q := by
  obtain ⟨a, b, c, d⟩ := p
  obtain ⟨a2, b2, c2, d2⟩ := q
  simp only [q4, List.cons.injEq] at h
  obtain ⟨rfl, rfl, rfl, rfl, _⟩ := h
  rfl
theorem qsB_inj : ∀ {l k : List Qd} {r s : List UInt8}, l.length = k.length → qsB l ++ r = qsB k ++ s → l = k ∧ r = s
  | [], [], r, s, _, h => ⟨rfl, h⟩
  | [], _ :: _, _, _, h, _ => by simp at h
  | _ :: _, [], _, _, h, _ => by simp at h
  | a :: l, b :: k, r, s, hl, h => by
    rw [qsB_cons, qsB_cons, List.append_assoc, List.append_assoc] at h
    obtain ⟨h1, h2⟩ := numsB_inj (by rfl) h
    obtain ⟨h3, h4⟩ := qsB_inj (by simpa using hl) h2
    exact ⟨by rw [q4_inj h1, h3], h4⟩
/-- Bodies are read off in one way. -/
theorem body_inj {c d : Cd} (hc : Rt c) (hd : Rt d) {r s : List UInt8} (h : bodyB c ++ r = bodyB d ++ s) : c = d ∧ r = s := by
  obtain ⟨a1, a2, a3, a4, a5, a6, a7, a8, a9, a10⟩ := c
  obtain ⟨b1', b2', b3', b4', b5', b6', b7', b8', b9', b10⟩ := d
  simp only [bodyB, List.append_assoc] at h
  have p1 := numsB_inj (by rfl) h
  have p1a := p1.1
  simp only [List.cons.injEq] at p1a
  obtain ⟨e1, e2, e3, e4, e5, e6, _⟩ := p1a
  subst e1 e2 e3 e4 e5 e6
  have p2 := numsB_inj (by have e1 := hc.tlen; have e2 := hd.tlen; simp only at e1 e2; omega) p1.2
  have e7 := p2.1
  subst e7
  have p3 := numsB_inj (by rfl) p2.2
  have l3 : a8.length = b8'.length := by have := p3.1; simp only [List.cons.injEq, Int.natCast_inj] at this; exact this.1
  have p4 := numsB_inj l3 p3.2
  have e8 := p4.1
  subst e8
  have p5 := numsB_inj (by rfl) p4.2
  have l5 : a9.length = b9'.length := by have := p5.1; simp only [List.cons.injEq, Int.natCast_inj] at this; exact this.1
  have p6 := qsB_inj l5 p5.2
  have e9 := p6.1
  subst e9
  have p7 := numsB_inj (by rfl) p6.2
  have l7 : a10.length = b10.length := by have := p7.1; simp only [List.cons.injEq, Int.natCast_inj] at this; exact this.1
  have p8 := qsB_inj l7 p7.2
  have e10 := p8.1
  subst e10
  exact ⟨rfl, p8.2⟩
theorem text_inj {c d : Cd} (hc : Rt c) (hd : Rt d) (h : textB c = textB d) : c = d := by
  unfold textB at h
  rw [List.append_assoc, List.append_assoc] at h
  exact (body_inj hc hd (List.append_cancel_left h)).1
theorem text_iff {c d : Cd} (hc : Rt c) (hd : Rt d) : textB c = textB d ↔ c = d := ⟨text_inj hc hd, fun h => by rw [h]⟩
end Go.Proofs.YtignpgoicoojiaaDoor
