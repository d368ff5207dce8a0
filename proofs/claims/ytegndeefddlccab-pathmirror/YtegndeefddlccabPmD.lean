/-
  Rows and columns exchanged, with numbers of 64 bits: what the two models say.
-/
import Derived.Test.YtegndeefddlccabPmC
import Derived.Test.YtegndeefddlccabPxO
namespace Go.Proofs.Ytegndeefddlccab
open Go.RowKit

def mirW (m : Md) : Md := { m with subst := mirS m.letters.toNat m.subst, lo := wrap64 (-m.hi), hi := wrap64 (-m.lo) }
theorem wf_bd {n : Int} (h : (Lit.int .i64 n).wf = true) : -9223372036854775808 ≤ n ∧ n ≤ 9223372036854775807 := by
  simp [Lit.wf, IntKind.min, IntKind.max, IntKind.signed, IntKind.bits] at h
  omega
theorem mirW_eq {m : Md} (h1 : -9223372036854775808 < m.hi ∧ m.hi ≤ 9223372036854775807) (h2 : -9223372036854775808 < m.lo ∧ m.lo ≤ 9223372036854775807) : mirW m = mirM m := by
  unfold mirW mirM
  rw [show wrap64 (-m.hi) = -m.hi by unfold wrap64; omega, show wrap64 (-m.lo) = -m.lo by unfold wrap64; omega]
theorem not_right {m : Md} (h : m.lo = -9223372036854775808 ∨ m.hi = -9223372036854775808) : rightM m = false := by
  have hb : bandB m = false := by
    unfold bandB
    split
    · rw [show fromB (-72057594037927936) [m.lo, m.hi] = false by
        unfold fromB
        rcases h with h | h <;> simp [h]]
      rfl
    · rcases h with h | h <;> simp [h]
  unfold rightM numbersB
  rw [hb, Bool.and_false, Bool.and_false]
theorem refE_no {m : Md} (h : rightM m = false) (xs ys : List Int) : refE m xs ys = 110 := by
  unfold refE
  rw [if_neg (by rw [h]; decide)]
theorem mirW_all {m : Md} (xs ys : List Int) (cols : List UInt8) (h : m.subst.length = m.letters.toNat * m.letters.toNat) (hm : m.mode = 1) (hlo : -1099511627776 ≤ m.lo) (wlo : (Lit.int .i64 m.lo).wf = true) (whi : (Lit.int .i64 m.hi).wf = true) :
    refE (mirW m) ys xs = refE m xs ys ∧ (decide (refE (mirW m) ys xs = 0) && allowsB (mirW m) ys.length xs.length ⟨0, 0, cols.map mirC⟩) = (decide (refE m xs ys = 0) && allowsB m xs.length ys.length ⟨0, 0, cols⟩) ∧
      scE (mirW m) ys xs ⟨0, 0, cols.map mirC⟩ = scE m xs ys ⟨0, 0, cols⟩ ∧ scV (mirW m) ys xs ⟨0, 0, cols.map mirC⟩ = scV m xs ys ⟨0, 0, cols⟩ := by
  have b1 := wf_bd wlo
  have b2 := wf_bd whi
  by_cases hh : m.hi = -9223372036854775808
  · have r1 : rightM m = false := not_right (.inr hh)
    have r2 : rightM (mirW m) = false := not_right (.inl (by show wrap64 (-m.hi) = _; rw [hh]; unfold wrap64; omega))
    have e1 := refE_no r1 xs ys
    have e2 := refE_no r2 ys xs
    have s1 := sc_err (p := ⟨0, 0, cols⟩) (show refE m xs ys ≠ 0 by rw [e1]; decide)
    have s2 := sc_err (p := ⟨0, 0, cols.map mirC⟩) (show refE (mirW m) ys xs ≠ 0 by rw [e2]; decide)
    rw [s1.1, s1.2, s2.1, s2.2, e1, e2]
    exact ⟨rfl, rfl, rfl, rfl⟩
  · rw [mirW_eq (by omega) (by omega)]
    have s := mir_score (xs := xs) (ys := ys) (cols := cols) h hm
    refine ⟨mir_ref h xs ys, ?_, s.1, s.2⟩
    rw [mir_ref h xs ys, mir_allows hm]
set_option maxRecDepth 20000 in
theorem md_wf {H : Type} {enc : TypeId × Value → H} {W : World} {m : Md} {sa : Option Addr} {sn sc : Nat} {ga : Option Addr} {gn gc : Nat} {d : DataW H} {p : List MemPlace} (h : DataW.Trod enc Try.prog W 0 (fun _ => true) true 25 (.agg (mdCells m sa sn sc ga gn gc)) d p) :
    (Lit.int .i64 m.lo).wf = true ∧ (Lit.int .i64 m.hi).wf = true := by
  obtain ⟨fuel, hf⟩ := h
  have hf2 : DataW.trod enc Try.prog W 0 (fun _ => true) true fuel 25 [.int .i64 m.letters, .slice sa sn sc, .slice ga gn gc, .int .i64 m.mode, .bool m.banded, .int .i64 m.lo, .int .i64 m.hi, .int .i64 m.front, .int .i64 m.back, .int .i64 m.least] = some (d, p) := hf
  obtain ⟨xs, k, hk, hxy, _, hxl, hg⟩ := DataW.trod_struct Try.underlying25 hf2
  have g5 := hg 5 _ rfl
  have g6 := hg 6 _ rfl
  match xs, hxl with
  | [y0, y1, y2, y3, y4, y5, y6, y7, y8, y9], _ =>
    simp [c3] at g5 g6
    obtain ⟨s5, e5, _, z5⟩ := DataW.trod_int Try.underlying3 g5
    obtain ⟨s6, e6, _, z6⟩ := DataW.trod_int Try.underlying3 g6
    simp at e5 e6
    subst e5 e6
    exact ⟨z5, z6⟩
end Go.Proofs.Ytegndeefddlccab
