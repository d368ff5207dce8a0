/-
  The document's Decode, plain; it tells what the program's tells.
-/
import Derived.Test.YtignpgoicoojiaaDoorRfB
import Derived.Test.YtignpgoicoojiaaDoorSnd
namespace Go.Proofs.YtignpgoicoojiaaDoor
open Go.RowKit
def qdOf (l : List Int) : Qd := (l.getD 0 0, l.getD 1 0, l.getD 2 0, l.getD 3 0)
def rqs (t : List UInt8) : Nat → Nat → List Qd × Nat
  | 0, i => ([], i)
  | n + 1, i => (qdOf (rnums t 4 i).1 :: (rqs t n (rnums t 4 i).2).1, (rqs t n (rnums t 4 i).2).2)
theorem rqs_len (t : List UInt8) : ∀ (n i : Nat), (rqs t n i).1.length = n
  | 0, _ => rfl
  | n + 1, i => by rw [rqs]; simp [rqs_len t n]
theorem rqs_succ (t : List UInt8) : ∀ (n i : Nat), rqs t (n + 1) i = ((rqs t n i).1 ++ [qdOf (rnums t 4 (rqs t n i).2).1], (rnums t 4 (rqs t n i).2).2)
  | 0, i => rfl
  | n + 1, i => by
    rw [rqs, rqs_succ t n]
    rfl
theorem rqs_le (t : List UInt8) : ∀ (n i : Nat), (rqs t n i).2 ≤ i + 36 * n
  | 0, _ => Nat.le_refl _
  | n + 1, i => by
    rw [rqs]
    have h1 := rnums_le t 4 i
    have h2 := rqs_le t n (rnums t 4 i).2
    simp only; omega
theorem rqs_ok {t : List UInt8} : ∀ {l : List Qd} {r : List UInt8} {i : Nat}, (∀ q ∈ l, ∀ z ∈ q4 q, okN z) → t.drop i = qsB l ++ r → rqs t l.length i = (l, i + (qsB l).length)
  | [], r, i, _, _ => rfl
  | q :: l, r, i, hz, h => by
    rw [qsB_cons, List.append_assoc] at h
    have h4 : rnums t 4 i = (q4 q, i + (numsB (q4 q)).length) := rnums_ok (l := q4 q) (hz q (by simp)) h
    rw [List.length_cons, rqs, h4]
    simp only
    rw [rqs_ok (fun y hy => hz y (by simp [hy])) (drop_add h), qsB_cons, List.length_append]
    simp only [Nat.add_assoc]
    rfl
/-- The code that the document's Decode makes of the bytes. -/
def rhead (t : List UInt8) : List Int × Nat := rnums t 6 4
def rtab (t : List UInt8) : List Int × Nat := rnums t (cntR ((rhead t).1.getD 0 0 * (rhead t).1.getD 0 0) 400) (rhead t).2
def rks (t : List UInt8) : List Int × Nat := rnums t (cntR (rnum t (rtab t).2).1 100) (rnum t (rtab t).2).2
def rcs (t : List UInt8) : List Qd × Nat := rqs t (cntR (rnum t (rks t).2).1 1000) (rnum t (rks t).2).2
def ras (t : List UInt8) : List Qd × Nat := rqs t (cntR (rnum t (rcs t).2).1 160) (rnum t (rcs t).2).2
def rcode (t : List UInt8) : Cd := ⟨(rhead t).1.getD 0 0, (rhead t).1.getD 1 0, (rhead t).1.getD 2 0, (rhead t).1.getD 3 0, (rhead t).1.getD 4 0, (rhead t).1.getD 5 0, (rtab t).1, (rks t).1, (rcs t).1, (ras t).1⟩
def rdec (t : List UInt8) : Cd × Int :=
  if (rhead t).1.getD 0 0 < 2 ∨ 20 < (rhead t).1.getD 0 0 then (noCd, 150) else if rightB (rcode t) = true ∧ textB (rcode t) = t then (rcode t, 0) else (noCd, 150)
theorem rcode_ok {c : Cd} (hc : Rt c) : rcode (textB c) = c := by
  obtain ⟨a1, a2, a3, a4, a5, a6, tb, ks, cs, ar⟩ := c
  obtain ⟨hh, htl, h1, h2, h3, h4, h6, htb, hks, hcs, har⟩ := hc
  simp only at hh htl h1 h2 h3 h4 h6 htb hks hcs har
  obtain ⟨t, ht⟩ : ∃ t, textB ⟨a1, a2, a3, a4, a5, a6, tb, ks, cs, ar⟩ = t := ⟨_, rfl⟩
  have e0 : t.drop 4 = numsB [a1, a2, a3, a4, a5, a6] ++ (numsB tb ++ (numB (ks.length : Int) ++ (numsB ks ++ (numB (cs.length : Int) ++ (qsB cs ++ (numB (ar.length : Int) ++ (qsB ar ++ checkB (markB ++ bodyB ⟨a1, a2, a3, a4, a5, a6, tb, ks, cs, ar⟩)))))))) := by
    rw [← ht, textB, List.append_assoc, show (4 : Nat) = markB.length from rfl, List.drop_left]
    simp [bodyB, numsB]
  rw [ht]
  have p1 : rhead t = _ := rnums_ok h6 e0
  have e2 := drop_add e0
  have hLL : cntR (a1 * a1) 400 = tb.length := by rw [← htl]; exact cntR_of h1
  have p2 : rtab t = rnums t (cntR (a1 * a1) 400) (rhead t).2 := by rw [rtab, p1]; rfl
  rw [hLL, p1, rnums_ok htb e2] at p2
  have e3 := drop_add e2
  have ok3 : okN (ks.length : Int) := by unfold okN; omega
  have p3 := rnum_ok ok3 e3
  have e4 := drop_add e3
  have p4 : rks t = rnums t (cntR (rnum t (rtab t).2).1 100) (rnum t (rtab t).2).2 := rfl
  rw [p2, p3, cntR_of h2, rnums_ok hks e4] at p4
  have e5 := drop_add e4
  have ok5 : okN (cs.length : Int) := by unfold okN; omega
  have p5 := rnum_ok ok5 e5
  have e6 := drop_add e5
  have p6 : rcs t = rqs t (cntR (rnum t (rks t).2).1 1000) (rnum t (rks t).2).2 := rfl
  rw [p4, p5, cntR_of h3, rqs_ok (fun q hq z hz => by have := (hcs q hq).2 z hz; unfold okN; omega) e6] at p6
  have e7 := drop_add e6
  have ok7 : okN (ar.length : Int) := by unfold okN; omega
  have p7 := rnum_ok ok7 e7
  have e8 := drop_add e7
  have p8 : ras t = rqs t (cntR (rnum t (rcs t).2).1 160) (rnum t (rcs t).2).2 := rfl
  rw [p6, p7, cntR_of h4, rqs_ok (fun q hq z hz => by have := har q hq z hz; unfold okN; omega) e8] at p8
  rw [rcode, p1, p2, p4, p6, p8]
  rfl
theorem rdec_is (t : List UInt8) : rdec t = decA t := by
  rcases decA_cases t with h | ⟨c, h, hr, ht⟩
  · rw [h, rdec]
    split
    · rfl
    · split
      · rename_i hc
        have := decA_ok hc.1
        rw [hc.2, h] at this
        have h2 : (150 : Int) = 0 := congrArg Prod.snd this
        exact absurd h2 (by decide)
      · rfl
  · have hc := rcode_ok (rt_of hr)
    rw [← ht] at hc
    have hl : (rhead t).1.getD 0 0 = c.letters := congrArg Cd.letters hc
    have hh := (rt_of hr).head
    rw [h, rdec, if_neg (by rw [hl]; omega), hc, if_pos ⟨hr, ht.symm⟩]
end Go.Proofs.YtignpgoicoojiaaDoor
