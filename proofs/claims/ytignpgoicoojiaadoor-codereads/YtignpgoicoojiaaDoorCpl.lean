/-
  What is written is read as it was.
-/
import Derived.Test.YtignpgoicoojiaaDoorInj
import Derived.Test.YtignpgoicoojiaaDoorRdB
namespace Go.Proofs.YtignpgoicoojiaaDoor
open Go.RowKit

theorem drop_add {t a r : List UInt8} {i : Nat} (h : t.drop i = a ++ r) : t.drop (i + a.length) = r := by
  rw [← List.drop_drop, h, List.drop_left]
theorem nextR_ok {t r : List UInt8} {x : UInt8} {i : Nat} (h : t.drop i = x :: r) : nextR t (i, false) = (x, (i + 1, false)) := by
  have hlt : i < t.length := by
    by_cases hi : i < t.length
    · exact hi
    · rw [List.drop_eq_nil_of_le (by omega)] at h; cases h
  have hx : t[i]? = some x := by
    have := congrArg (·[0]?) h
    simpa using this
  rw [nextR, if_neg (by simp; omega), List.getD, hx]; rfl
theorem drop_one {t r : List UInt8} {x : UInt8} {i : Nat} (h : t.drop i = x :: r) : t.drop (i + 1) = r := drop_add (a := [x]) h
theorem toNat_of {m : Nat} (h : m < 256) : (UInt8.ofNat m).toNat = m := by
  rw [UInt8.toNat_ofNat']; omega
theorem pow_split (m P : Nat) : m % 128 * P + m / 128 * (P * 128) = m * P := by
  have h : m / 128 * (P * 128) = m / 128 * 128 * P := by rw [Nat.mul_comm P 128, Nat.mul_assoc]
  rw [h, ← Nat.add_mul, show m % 128 + m / 128 * 128 = m by omega]
theorem numGo_ok {t : List UInt8} : ∀ (f m k n i : Nat) (r : List UInt8), m < 128 ^ (f + 1) → (0 < k → 0 < m) → t.drop i = digs m ++ r → numGo t (f + 1) k n (i, false) = (hlv (n + m * 128 ^ k), (i + (digs m).length, false))
  | f, m, k, n, i, r, hm, hk, h => by
    by_cases hs : m < 128
    · rw [digs_small hs] at h ⊢
      have hn := nextR_ok h
      have ht := toNat_of (m := m) (by omega)
      rw [numGo_end (by rw [hn]; show ¬ 128 ≤ (UInt8.ofNat m).toNat; rw [ht]; omega), hn]
      simp only [ht, Nat.mod_eq_of_lt hs, Bool.false_or, List.length_cons, List.length_nil]
      have hb : (decide (m = 0) && decide (0 < k)) = false := by
        by_cases h0 : 0 < k
        · have := hk h0; simp; omega
        · simp [h0]
      rw [hb]
    · rw [digs_big hs] at h ⊢
      have hn := nextR_ok h
      have ht := toNat_of (m := m % 128 + 128) (by omega)
      match f, hm with
      | 0, hm => exact absurd hm (by omega)
      | f + 1, hm =>
        rw [numGo_go (by rw [hn]; show 128 ≤ (UInt8.ofNat (m % 128 + 128)).toNat; rw [ht]; omega), hn]
        simp only [ht]
        rw [numGo_ok f (m / 128) (k + 1) _ (i + 1) r (by rw [Nat.pow_succ] at hm; omega) (fun _ => by omega) (drop_one h)]
        have e : (m % 128 + 128) % 128 = m % 128 := by omega
        rw [e, Nat.pow_succ, Nat.add_assoc, pow_split]
        simp only [List.length_cons]
        rw [show i + 1 + (digs (m / 128)).length = i + ((digs (m / 128)).length + 1) by omega]
theorem numR_ok {t r : List UInt8} {z : Int} {i : Nat} (hz : okN z) (h : t.drop i = numB z ++ r) : numR t (i, false) = (z, (i + (numB z).length, false)) := by
  have hm := dbl_le hz
  rw [numR, numGo_ok 8 (dbl z) 0 0 i r (by omega) (fun h => absurd h (by omega)) h]
  simp only [Nat.pow_zero, Nat.mul_one, Nat.zero_add]
  rw [hlv_dbl]; rfl
theorem numsR_ok {t : List UInt8} : ∀ {l : List Int} {r : List UInt8} {i : Nat}, (∀ z ∈ l, okN z) → t.drop i = numsB l ++ r → numsR t l.length (i, false) = (l, (i + (numsB l).length, false))
  | [], r, i, _, _ => rfl
  | z :: l, r, i, hz, h => by
    rw [numsB_cons, List.append_assoc] at h
    rw [List.length_cons, numsR, numR_ok (hz z (by simp)) h]
    simp only
    rw [numsR_ok (fun y hy => hz y (by simp [hy])) (drop_add h), numsB_cons, List.length_append]
    simp only [Nat.add_assoc]
theorem qdR_ok {t r : List UInt8} {q : Qd} {i : Nat} (hz : ∀ z ∈ q4 q, okN z) (h : t.drop i = numsB (q4 q) ++ r) : qdR t (i, false) = (q, (i + (numsB (q4 q)).length, false)) := by
  obtain ⟨a, b, c, d⟩ := q
  have h1 : t.drop i = numB a ++ (numB b ++ (numB c ++ (numB d ++ r))) := by simpa [numsB, q4] using h
  have p1 := numR_ok (hz a (by simp [q4])) h1
  have h2 := drop_add h1
  have p2 := numR_ok (hz b (by simp [q4])) h2
  have h3 := drop_add h2
  have p3 := numR_ok (hz c (by simp [q4])) h3
  have h4 := drop_add h3
  have p4 := numR_ok (hz d (by simp [q4])) h4
  have hl : (numsB (q4 (a, b, c, d))).length = (numB a).length + ((numB b).length + ((numB c).length + (numB d).length)) := by simp [numsB, q4]
  simp only [qdR, p1, p2, p3, p4]
  refine Prod.ext rfl (Prod.ext ?_ rfl)
  simp only
  omega
theorem qsR_ok {t : List UInt8} : ∀ {l : List Qd} {r : List UInt8} {i : Nat}, (∀ q ∈ l, ∀ z ∈ q4 q, okN z) → t.drop i = qsB l ++ r → qsR t l.length (i, false) = (l, (i + (qsB l).length, false))
  | [], r, i, _, _ => rfl
  | q :: l, r, i, hz, h => by
    rw [qsB_cons, List.append_assoc] at h
    rw [List.length_cons, qsR, qdR_ok (hz q (by simp)) h]
    simp only
    rw [qsR_ok (fun y hy => hz y (by simp [hy])) (drop_add h), qsB_cons, List.length_append]
    simp only [Nat.add_assoc]
theorem upR_ok {t r : List UInt8} {n : Nat} {most : Int} {i : Nat} (hn : (n : Int) ≤ most) (hm : n ≤ 1000) (h : t.drop i = numB (n : Int) ++ r) : upR t most (i, false) = (n, (i + (numB (n : Int)).length, false)) := by
  have hk : okN (n : Int) := by unfold okN; omega
  rw [upR, numR_ok hk h, if_neg (by simp; omega)]
  simp
theorem expR_ok {t u r : List UInt8} {i : Nat} (h : t.drop i = u ++ r) : expR t u (i, false) = (i + u.length, false) := by
  have hl : u.length ≤ t.length - i := by
    have := congrArg List.length h
    simp at this; omega
  rw [expR, if_neg (by simp; omega), h, List.take_left]
  simp
theorem codeR_ok {t r : List UInt8} {c : Cd} {i : Nat} (hc : Rt c) (h : t.drop i = bodyB c ++ r) : codeR t (i, false) = (c, (i + (bodyB c).length, false)) := by
  obtain ⟨a1, a2, a3, a4, a5, a6, tb, ks, cs, ar⟩ := c
  obtain ⟨hh, htl, h1, h2, h3, h4, h6, htb, hks, hcs, har⟩ := hc
  simp only at hh htl h1 h2 h3 h4 h6 htb hks hcs har
  obtain ⟨L, rfl⟩ : ∃ L : Nat, a1 = (L : Int) := ⟨a1.toNat, by omega⟩
  have hLL : tb.length = L * L := by
    have : ((tb.length : Nat) : Int) = ((L * L : Nat) : Int) := by rw [htl]; simp
    omega
  have e0 : t.drop i = numB (L : Int) ++ (numsB [a2, a3, a4, a5, a6] ++ (numsB tb ++ (numB (ks.length : Int) ++ (numsB ks ++ (numB (cs.length : Int) ++ (qsB cs ++ (numB (ar.length : Int) ++ (qsB ar ++ r)))))))) := by
    rw [h]; simp [bodyB, numsB]
  have p0 := upR_ok (most := 20) (by omega) (by omega) e0
  have e1 := drop_add e0
  have p1 := numsR_ok (fun z hz => h6 z (List.mem_cons_of_mem _ hz)) e1
  have e2 := drop_add e1
  have p2 := numsR_ok htb e2
  have e3 := drop_add e2
  have p3 := upR_ok (most := 100) (by omega) (by omega) e3
  have e4 := drop_add e3
  have p4 := numsR_ok hks e4
  have e5 := drop_add e4
  have p5 := upR_ok (most := 1000) (by omega) (by omega) e5
  have e6 := drop_add e5
  have p6 := qsR_ok (fun q hq z hz => by have := (hcs q hq).2 z hz; unfold okN; omega) e6
  have e7 := drop_add e6
  have p7 := upR_ok (most := 160) (by omega) (by omega) e7
  have e8 := drop_add e7
  have p8 := qsR_ok (fun q hq z hz => by have := har q hq z hz; unfold okN; omega) e8
  have p1' : numsR t 5 (i + (numB (L : Int)).length, false) = _ := p1
  simp only [codeR, p0, p1', ← hLL, p2, p3, p4, p5, p6, p7, p8]
  refine Prod.ext rfl (Prod.ext ?_ rfl)
  simp [bodyB, numsB]
  omega
theorem sealR_ok {c : Cd} (hc : Rt c) : sealR (textB c) = (c, ((textB c).length, false)) := by
  have h0 : (textB c).drop 0 = markB ++ (bodyB c ++ checkB (markB ++ bodyB c)) := by simp [textB]
  have p0 := expR_ok h0
  have h1 := drop_add h0
  have p1 := codeR_ok hc h1
  have h2 := drop_add h1
  have h2' : (textB c).drop (0 + markB.length + (bodyB c).length) = checkB (markB ++ bodyB c) ++ [] := by rw [h2]; simp
  have p2 := expR_ok h2'
  have ht : (textB c).take (0 + markB.length + (bodyB c).length) = markB ++ bodyB c := by
    rw [textB, Nat.zero_add, ← List.length_append, List.take_left]
  have hl : 0 + markB.length + (bodyB c).length + (checkB (markB ++ bodyB c)).length = (textB c).length := by simp [textB]; omega
  simp only [sealR, p0, p1, ht, p2, hl]
  simp
theorem decA_ok {c : Cd} (hr : rightB c = true) : decA (textB c) = (c, 0) := by
  rw [decA, sealR_ok (rt_of hr), if_neg (by simp [hr])]
end Go.Proofs.YtignpgoicoojiaaDoor
