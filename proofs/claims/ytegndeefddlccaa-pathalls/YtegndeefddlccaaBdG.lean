/-
  The walks of Most and Range, and of the document's.
-/
import Derived.Test.YtegndeefddlccaaBdF
namespace Go.Proofs.Ytegndeefddlccaa
open Go.RowKit

def mostPost (m : Md) (w : World) (e : Ending) (w' : World) : Prop :=
  e = .returned (.tuple #[.int .i64 (if rightM m then most (wid m) else 0), .int .i64 (if rightM m then 0 else 110)]) ∧ Below w.heap.size w w'
def ranE (m : Md) (r c : Int) : Int := if rightM m then (if r < 0 ∨ c < 0 then 1 else if most (wid m) < max r c then 170 else 0) else 110
def ranL (m : Md) (r c : Int) : Int := if ranE m r c = 0 then -(r + c + 2) * wid m else 0
def ranH (m : Md) (r c : Int) : Int := if ranE m r c = 0 then min r c * wid m else 0
def ranPost (m : Md) (r c : Int) (w : World) (e : Ending) (w' : World) : Prop :=
  e = .returned (.tuple #[.int .i64 (ranL m r c), .int .i64 (ranH m r c), .int .i64 (ranE m r c)]) ∧ Below w.heap.size w w'

theorem most_mul (w : Int) (h1 : 1 ≤ w) (h2 : w ≤ 144115188075855872) : (most w + 2) * w ≤ 576460752303423488 := by
  have h3 : most w + 2 ≤ 576460752303423488 / w := by unfold most; omega
  have h4 := Int.mul_le_mul_of_nonneg_right h3 (show 0 ≤ w by omega)
  have h5 := Int.ediv_mul_le 576460752303423488 (show w ≠ 0 by omega)
  omega
theorem ran_bd {w r c : Int} (h1 : 1 ≤ w) (h2 : w ≤ 144115188075855872) (hr : 0 ≤ r) (hc : 0 ≤ c) (h : max r c ≤ most w) :
    (-1152921504606846976 ≤ -(r + c + 2) * w ∧ -(r + c + 2) * w ≤ 0) ∧ (0 ≤ r * w ∧ r * w ≤ 576460752303423488) ∧ (0 ≤ c * w ∧ c * w ≤ 576460752303423488) := by
  have h3 := most_mul w h1 h2
  have h4 := Int.mul_le_mul_of_nonneg_right (show r ≤ most w + 2 by omega) (show 0 ≤ w by omega)
  have h5 := Int.mul_le_mul_of_nonneg_right (show c ≤ most w + 2 by omega) (show 0 ≤ w by omega)
  have h6 := Int.mul_le_mul_of_nonneg_right (show r + c + 2 ≤ 2 * (most w + 2) by omega) (show 0 ≤ w by omega)
  have h7 : 2 * (most w + 2) * w = 2 * ((most w + 2) * w) := Int.mul_assoc 2 _ _
  have h8 : 0 ≤ (r + c + 2) * w := Int.mul_nonneg (by omega) (by omega)
  have h9 : -(r + c + 2) * w = -((r + c + 2) * w) := Int.neg_mul _ _
  have h10 : 0 ≤ r * w := Int.mul_nonneg hr (by omega)
  have h11 : 0 ≤ c * w := Int.mul_nonneg hc (by omega)
  omega

set_option maxHeartbeats 400000 in
theorem most_calls (m : Md) (sa : Option Addr) (sn sc : Nat) (ga : Option Addr) (gn gc : Nat) (w : World) (h : MdAt w m sa sn ga gn) :
    Calls Try.prog 43 #[.agg (mdCells m sa sn sc ga gn gc)] w fun e w' => mostPost m w e w' := by
  have HM : Hid (MdAt w m sa sn ga gn) := h
  clear h
  have hr : ∃ r, rightM m = r := ⟨_, rfl⟩
  obtain ⟨r, hr⟩ := hr
  have HR : Hid (rightM m = r) := hr
  clear hr
  rw [show mdCells m sa sn sc ga gn gc = #[.int .i64 m.letters, .slice sa sn sc, .slice ga gn gc, .int .i64 m.mode, .bool m.banded, .int .i64 m.lo, .int .i64 m.hi, .int .i64 m.front, .int .i64 m.back, .int .i64 m.least] from rfl]
  go_enter Try.func43, Try.ntmps43
  go_wp2_with fail
  refine (widest_model m sa sn sc ga gn gc _ (HM.out.below ((Below.refl _ _).alloc (Nat.le_refl _) _))).mono ?_
  rintro e w1 ⟨rfl, hb⟩
  rw [HR.out]
  have HB : Hid (Below w.heap.size w w1) := ((Bx.start w (mdCells m sa sn sc ga gn gc)).next hb).low
  clear hb
  cases r
  · go_wp2
    go_ret2
    unfold mostPost
    rw [HR.out]
    exact ⟨rfl, HB.out⟩
  · have hw := (rightM_out HR.out).wid
    have HP : Hid (∀ w' , mostPost m w (.returned (.tuple #[.int .i64 (most (wid m)), .int .i64 0])) w' ↔ Below w.heap.size w w') := by
      intro w'
      unfold mostPost
      rw [HR.out]
      exact ⟨fun h => h.2, fun h => ⟨rfl, h⟩⟩
    generalize wid m = v at *
    rw [if_pos rfl, if_pos rfl]
    go_wp2_with (go_at_call 63; refine (mostOf_calls v _ hw.1 hw.2).mono ?_; rintro e w' ⟨rfl, rfl⟩)
    go_ret2
    exact (HP.out _).2 HB.out
set_option maxHeartbeats 400000 in
theorem mostR_calls (m : Md) (sa : Option Addr) (sn sc : Nat) (ga : Option Addr) (gn gc : Nat) (w : World) (h : MdAt w m sa sn ga gn) :
    Calls Try.prog 52 #[.agg (mdCells m sa sn sc ga gn gc)] w fun e w' => mostPost m w e w' := by
  have HM : Hid (MdAt w m sa sn ga gn) := h
  clear h
  have hr : ∃ r, rightM m = r := ⟨_, rfl⟩
  obtain ⟨r, hr⟩ := hr
  have HR : Hid (rightM m = r) := hr
  clear hr
  rw [show mdCells m sa sn sc ga gn gc = #[.int .i64 m.letters, .slice sa sn sc, .slice ga gn gc, .int .i64 m.mode, .bool m.banded, .int .i64 m.lo, .int .i64 m.hi, .int .i64 m.front, .int .i64 m.back, .int .i64 m.least] from rfl]
  go_enter Try.func52, Try.ntmps52
  go_wp2_with fail
  refine (widestR_model m sa sn sc ga gn gc _ (HM.out.below ((Below.refl _ _).alloc (Nat.le_refl _) _))).mono ?_
  rintro e w1 ⟨rfl, hb⟩
  rw [HR.out]
  have HB : Hid (Below w.heap.size w w1) := ((Bx.start w (mdCells m sa sn sc ga gn gc)).next hb).low
  clear hb
  cases r
  · go_wp2
    go_ret2
    unfold mostPost
    rw [HR.out]
    exact ⟨rfl, HB.out⟩
  · have hw := (rightM_out HR.out).wid
    have HP : Hid (∀ w' z, z = most (wid m) → Below w.heap.size w w' → mostPost m w (.returned (.tuple #[.int .i64 z, .int .i64 0])) w') := by
      intro w' z hz hb
      unfold mostPost
      rw [HR.out, hz]
      exact ⟨rfl, hb⟩
    generalize wid m = v at *
    rw [if_pos rfl, if_pos rfl]
    obtain ⟨h1, h2⟩ := hw
    have h3 : ¬ v = 0 := by omega
    have h4 : 4 ≤ 576460752303423488 / v := (Int.le_ediv_iff_mul_le (by omega)).2 (by omega)
    have h5 : 576460752303423488 / v ≤ 576460752303423488 := Int.ediv_le_self _ (by omega)
    go_wp2
    all_goals
      go_ret2
      exact HP.out _ _ (by unfold most; omega) HB.out
end Go.Proofs.Ytegndeefddlccaa
