/-
  The walk of the document's Right.
-/
import Derived.Test.YtegndeefddlccaaBdC
namespace Go.Proofs.Ytegndeefddlccaa
open Go.RowKit

theorem decB {p : Prop} [Decidable p] {b : Bool} (h : p ↔ b = true) : decide p = b := by
  cases b
  · rw [decide_eq_false_iff_not, h]; simp
  · rw [decide_eq_true_iff, h]

set_option maxHeartbeats 1000000 in
theorem rightR_shape (m : Md) (sa : Option Addr) (sn sc : Nat) (ga : Option Addr) (gn gc : Nat) (w : World) (h : MdAt w m sa sn ga gn) (hS : shapeR m.letters sn m.mode = true) :
    Calls Try.prog 50 #[.agg (mdCells m sa sn sc ga gn gc)] w fun e w' => e = .returned (.bool (rightM m)) ∧ Below w.heap.size w w' := by
  have hE := rightR_eq m h.subst.length h.gaps.length
  rw [hS, Bool.true_and] at hE
  have hsn := h.subst.short
  unfold maxLen at hsn
  have HM : Hid (MdAt w m sa sn ga gn) := h
  clear h
  have hS' := of_decide_eq_true hS
  clear hS
  have hr1 : ∃ r, fromB (-72057594037927936) m.subst = r := ⟨_, rfl⟩
  have hr2 : ∃ r, fromB (-72057594037927936) [m.least, m.lo, m.hi] = r := ⟨_, rfl⟩
  have hr3 : ∃ r, fromB 0 [m.front, m.back] = r := ⟨_, rfl⟩
  have hr4 : ∃ r, (gapsB m.gaps && decide (gn ≤ 4)) = r := ⟨_, rfl⟩
  obtain ⟨r1, hr1⟩ := hr1
  obtain ⟨r2, hr2⟩ := hr2
  obtain ⟨r3, hr3⟩ := hr3
  obtain ⟨r4, hr4⟩ := hr4
  have HE : Hid (rightM m = (r1 && r2 && r3 && r4 && (if m.banded then decide (m.lo ≤ m.hi) else decide (m.lo = 0 ∧ m.hi = 0)))) := by
    rw [hr1, hr2, hr3, hr4] at hE
    exact hE
  have H1 : Hid (fromB (-72057594037927936) m.subst = r1) := hr1
  have H2 : Hid (fromB (-72057594037927936) [m.least, m.lo, m.hi] = r2) := hr2
  have H3 : Hid (fromB 0 [m.front, m.back] = r3) := hr3
  have H4 : Hid ((gapsB m.gaps && decide (gn ≤ 4)) = r4) := hr4
  clear hr1 hr2 hr3 hr4 hE
  obtain ⟨L, su, gp, mo, bd, lo, hi, fr, bk, le⟩ := m
  simp only at hS'
  obtain ⟨a1, a2, a3, a4, a5⟩ := hS'
  have hsq := sq_bd a1 a2
  have b3 : ((sn : Int) != L * L) = false := by simp [a3]
  have b1 : ¬ L < 2 := by omega
  have b2 : ¬ 20 < L := by omega
  have b4 : ¬ mo < 1 := by omega
  have b5 : ¬ 4 < mo := by omega
  clear a3
  rw [show mdCells ⟨L, su, gp, mo, bd, lo, hi, fr, bk, le⟩ sa sn sc ga gn gc = #[.int .i64 L, .slice sa sn sc, .slice ga gn gc, .int .i64 mo, .bool bd, .int .i64 lo, .int .i64 hi, .int .i64 fr, .int .i64 bk, .int .i64 le] from rfl]
  go_enter Try.func50, Try.ntmps50
  go_wp2_with fail
  refine (within_calls (-72057594037927936) _ _ _ su _ (HM.out.subst.below ((Below.refl _ _).alloc (Nat.le_refl _) _))).mono ?_
  rintro e w1 ⟨rfl, rfl⟩
  rw [H1.out]
  go_wp2_with fail
  refine (within_calls (-72057594037927936) _ _ _ [le, lo, hi] _ (three_new _ le lo hi _ (by simp))).mono ?_
  rintro e w1 ⟨rfl, rfl⟩
  have e2 : fromB (-72057594037927936) [le, lo, hi] = r2 := H2.out
  rw [e2]
  clear e2
  go_wp2_with fail
  refine (within_calls 0 _ _ _ [fr, bk] _ (two_new _ fr bk _ (by simp))).mono ?_
  rintro e w1 ⟨rfl, rfl⟩
  have e3 : fromB 0 [fr, bk] = r3 := H3.out
  rw [e3]
  clear e3
  go_wp2_with fail
  refine (gapsR_calls _ _ _ gp _ (HM.out.gaps.below ((((Below.refl _ _).alloc (Nat.le_refl _) _).alloc (by simp) _).alloc (by simp; omega) _))).mono ?_
  rintro e w1 ⟨rfl, hb⟩
  have e4 : (gapsB gp && decide (gn ≤ 4)) = r4 := H4.out
  rw [e4]
  clear e4
  have HX : Hid (Bx w #[.int .i64 L, .slice sa sn sc, .slice ga gn gc, .int .i64 mo, .bool bd, .int .i64 lo, .int .i64 hi, .int .i64 fr, .int .i64 bk, .int .i64 le] w1) := (((Bx.start w _).alloc _).alloc _).next hb
  clear hb
  have c4 := HX.out.cell 4 (.bool bd) rfl
  have c5 := HX.out.cell 5 (.int .i64 lo) rfl
  have c6 := HX.out.cell 6 (.int .i64 hi) rfl
  clear H1 H2 H3 H4 HM
  cases bd
  · by_cases h0 : lo = 0
    · subst h0
      have hb : ((0 : Int) == 0) = true := rfl
      have HB : Hid ((hi == 0) = decide (hi = 0)) := beq0 hi
      cases r1 <;> cases r2 <;> cases r3 <;> cases r4 <;> (go_wp2; go_ret; exact ⟨ret_bool (by rw [HE.out]; simp [beq0]), HX.out.low⟩)
    · have hb : (lo == 0) = false := by simpa using h0
      cases r1 <;> cases r2 <;> cases r3 <;> cases r4 <;> (go_wp2; go_ret; exact ⟨ret_bool (by rw [HE.out]; simp [h0]), HX.out.low⟩)
  · cases r1 <;> cases r2 <;> cases r3 <;> cases r4 <;> (go_wp2; go_ret; exact ⟨ret_bool (by rw [HE.out]; simp), HX.out.low⟩)

set_option maxHeartbeats 1000000 in
theorem rightR_none (m : Md) (sa : Option Addr) (sn sc : Nat) (ga : Option Addr) (gn gc : Nat) (w : World) (h : MdAt w m sa sn ga gn) (hS : shapeR m.letters sn m.mode = false) :
    Calls Try.prog 50 #[.agg (mdCells m sa sn sc ga gn gc)] w fun e w' => e = .returned (.bool (rightM m)) ∧ Below w.heap.size w w' := by
  have hE := rightR_eq m h.subst.length h.gaps.length
  rw [hS, Bool.false_and] at hE
  have hsn := h.subst.short
  unfold maxLen at hsn
  clear h
  have hS' := of_decide_eq_false hS
  clear hS
  generalize rightM m = r at hE
  subst hE
  obtain ⟨L, su, gp, mo, bd, lo, hi, fr, bk, le⟩ := m
  simp only at hS'
  rw [show mdCells ⟨L, su, gp, mo, bd, lo, hi, fr, bk, le⟩ sa sn sc ga gn gc = #[.int .i64 L, .slice sa sn sc, .slice ga gn gc, .int .i64 mo, .bool bd, .int .i64 lo, .int .i64 hi, .int .i64 fr, .int .i64 bk, .int .i64 le] from rfl]
  by_cases a1 : L < 2
  · clear hS'
    go_enter Try.func50, Try.ntmps50
    go_wp2
    go_ret
    exact ⟨rfl, (Below.refl _ _).alloc (Nat.le_refl _) _⟩
  by_cases a2 : 20 < L
  · clear hS'
    go_enter Try.func50, Try.ntmps50
    go_wp2
    go_ret
    exact ⟨rfl, (Below.refl _ _).alloc (Nat.le_refl _) _⟩
  have hsq := sq_bd (a := L) (by omega) (by omega)
  by_cases a3 : (sn : Int) = L * L
  · have b3 : ((sn : Int) != L * L) = false := by simp [a3]
    by_cases a4 : mo < 1
    · clear hS' a3
      go_enter Try.func50, Try.ntmps50
      go_wp2
      go_ret
      exact ⟨rfl, (Below.refl _ _).alloc (Nat.le_refl _) _⟩
    · have a5 : 4 < mo := by
        by_cases h : 4 < mo
        · exact h
        · exact absurd ⟨by omega, by omega, a3, by omega, by omega⟩ hS'
      clear hS' a3
      go_enter Try.func50, Try.ntmps50
      go_wp2
      go_ret
      exact ⟨rfl, (Below.refl _ _).alloc (Nat.le_refl _) _⟩
  · have b3 : ((sn : Int) != L * L) = true := by simp [a3]
    clear hS' a3
    go_enter Try.func50, Try.ntmps50
    go_wp2
    go_ret
    exact ⟨rfl, (Below.refl _ _).alloc (Nat.le_refl _) _⟩
theorem rightR_calls (m : Md) (sa : Option Addr) (sn sc : Nat) (ga : Option Addr) (gn gc : Nat) (w : World) (h : MdAt w m sa sn ga gn) :
    Calls Try.prog 50 #[.agg (mdCells m sa sn sc ga gn gc)] w fun e w' => e = .returned (.bool (rightM m)) ∧ Below w.heap.size w w' := by
  cases hS : shapeR m.letters sn m.mode
  · exact rightR_none m sa sn sc ga gn gc w h hS
  · exact rightR_shape m sa sn sc ga gn gc w h hS
end Go.Proofs.Ytegndeefddlccaa
