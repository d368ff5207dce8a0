/-
  The walks of the document's Gaps and Right.
-/
import Derived.Test.YtegndeefddlccaaBdB
import Derived.BigRegion
import Derived.Deep.RegionHeld3
namespace Go.Proofs.Ytegndeefddlccaa
open Go.RowKit

theorem IntsAt.drew {w : World} {ao : Option Addr} {len : Nat} {zs : List Int} (h : IntsAt w ao len zs) : IntsAt w.drew ao len zs := ⟨h.length, h.short, h.cells⟩
theorem cell_alloc_old {W : World} {o : Obj} {p : Addr} {v : Value} (h : W.cell? p = some v) : (W.alloc o).cell? p = some v := by
  rw [((Below.refl W.heap.size W).alloc (Nat.le_refl _) o).cell (World.block_lt_of_cell? W p h)]
  exact h
set_option maxHeartbeats 400000 in
theorem gapsR_calls (ao : Option Addr) (len cap : Nat) (l : List (Int × Int)) (w : World) (h : GpsAt w ao len l) :
    Calls Try.prog 25 #[.slice ao len cap] w fun e w' => e = .returned (.bool (gapsB l && decide (len ≤ 4))) ∧ Below w.heap.size w w' := by
  have hg := h.short
  unfold maxLen at hg
  have HM : Hid (GpsAt w ao len l) := h
  clear h
  go_enter Try.func25, Try.ntmps25
  go_wp2
  go_loopw [3, 4] (fun i _ wr => ∃ k : Nat, k ≤ len ∧ i = .int .i64 k ∧ (∀ j (g : Int × Int), j < k → l[j]? = some g → fromB 0 [g.1, g.2] = true) ∧ Below w.heap.size w wr) (fun i _ _ => len - (intOf i).toNat)
  case atStart => exact ⟨0, Nat.zero_le _, rfl, fun j g hj => by omega, Below.refl _ _⟩
  case round =>
    obtain ⟨k, hk, rfl, hall, hbx⟩ := hrel
    have HA : Hid (∀ j (g : Int × Int), j < k → l[j]? = some g → fromB 0 [g.1, g.2] = true) := hall
    have HX : Hid (Below w.heap.size w wr) := hbx
    clear hall hbx
    by_cases hlt : k < len
    · obtain ⟨g, hgk⟩ := get_lt (l := l) (k := k) (by rw [HM.out.length]; exact hlt)
      obtain ⟨b, off, rfl, hcs⟩ := (HM.out.below HX.out).cells (by omega)
      obtain ⟨c1, c2⟩ := hcs k g hgk
      have HG : Hid (l[k]? = some g) := hgk
      clear hcs hgk
      obtain ⟨a, x⟩ := g
      simp only at c1 c2
      generalize hr : fromB 0 [a, x] = r
      have HR : Hid (fromB 0 [a, x] = r) := hr
      clear hr
      go_wp2_with fail
      have HX2 : Hid (Below w.heap.size w (wr.alloc (.cells #[.int .i64 a, .int .i64 x] 3)).drew) := (HX.out.alloc HX.out.size _).drew
      have hA : ∀ (W : World) o, W.cell? ⟨b, off + k * 2, none⟩ = some (.int .i64 a) → (W.alloc o).cell? ⟨b, off + k * 2, none⟩ = some (.int .i64 a) := fun W o h => cell_alloc_old h
      have hX : ∀ (W : World) o, W.cell? ⟨b, off + k * 2 + 1, none⟩ = some (.int .i64 x) → (W.alloc o).cell? ⟨b, off + k * 2 + 1, none⟩ = some (.int .i64 x) := fun W o h => cell_alloc_old h
      have HC : Hid (Calls Try.prog 42 #[.slice (some ⟨wr.heap.size, 0, none⟩) 2 2, .int .i64 0] (wr.alloc (.cells #[.int .i64 a, .int .i64 x] 3)).drew fun e w' => e = .returned (.bool r) ∧ (wr.alloc (.cells #[.int .i64 a, .int .i64 x] 3)).drew = w') := by
        rw [← HR.out]
        exact within_calls 0 _ _ _ [a, x] _ (two_new wr a x _ rfl).drew
      go_region_held3 (fun W => W.cell? ⟨b, off + k * 2, none⟩ = some (.int .i64 a) ∧ W.cell? ⟨b, off + k * 2 + 1, none⟩ = some (.int .i64 x)) (first | with_reducible assumption | exact ⟨by assumption, by assumption⟩ | exact ⟨hA _ _ (by assumption), hX _ _ (by assumption)⟩) (first
        | (go_at_call 42; with_reducible refine (HC.out).mono ?_; rintro e w' ⟨rfl, rfl⟩))
      cases r
      · go_wp2
        go_ret
        exact ⟨ret_bool (by rw [gapsB_bad k _ HG.out HR.out]; rfl), HX2.out⟩
      · go_wp2
        go_roundw
        case rel =>
          refine ⟨k + 1, by omega, by go_num, ?_, HX2.out⟩
          intro j g hj hjg
          by_cases e : j = k
          · subst e; rw [HG.out] at hjg; cases hjg; exact HR.out
          · exact HA.out j g (by omega) hjg
        case measure => simp [intOf]; omega
    · have HGs : Hid (gapsB l = true) := gapsB_all (fun j g hj => HA.out j g (by have := (List.getElem?_eq_some_iff.1 hj).1; rw [HM.out.length] at this; omega) hj)
      go_wp2
      go_ret
      exact ⟨ret_bool (by rw [HGs.out]; simp; omega), HX.out⟩

def shapeR (L : Int) (sn : Nat) (mo : Int) : Bool := decide (2 ≤ L ∧ L ≤ 20 ∧ (sn : Int) = L * L ∧ 1 ≤ mo ∧ mo ≤ 4)
theorem fromB_three (least a b c : Int) : fromB least [a, b, c] = (fromB least [a] && fromB least [b, c]) := by
  simp [fromB]
theorem fromB_zero : fromB (-72057594037927936) [0, 0] = true := by decide
theorem rightR_eq (m : Md) {sn gn : Nat} (h1 : m.subst.length = sn) (h2 : m.gaps.length = gn) :
    rightM m = (shapeR m.letters sn m.mode && (fromB (-72057594037927936) m.subst && fromB (-72057594037927936) [m.least, m.lo, m.hi] && fromB 0 [m.front, m.back] && (gapsB m.gaps && decide (gn ≤ 4)) && (if m.banded then decide (m.lo ≤ m.hi) else decide (m.lo = 0 ∧ m.hi = 0)))) := by
  have hS : shapeB m = (shapeR m.letters sn m.mode && decide (gn ≤ 4)) := by
    unfold shapeB shapeR
    rw [h1, h2, ← Bool.decide_and]
    congr 1
    apply propext
    constructor
    · rintro ⟨a, b, c, d, e, f⟩; exact ⟨⟨a, b, c, e, f⟩, d⟩
    · rintro ⟨⟨a, b, c, e, f⟩, d⟩; exact ⟨a, b, c, d, e, f⟩
  unfold rightM numbersB bandB
  rw [hS, fromB_three]
  generalize shapeR m.letters sn m.mode = q1
  generalize decide (gn ≤ 4) = q2
  generalize gapsB m.gaps = q3
  generalize fromB 0 [m.front, m.back] = q4
  generalize fromB (-72057594037927936) [m.least] = q5
  generalize fromB (-72057594037927936) m.subst = q6
  cases hb : m.banded
  · by_cases h0 : m.lo = 0 ∧ m.hi = 0
    · rw [h0.1, h0.2, fromB_zero]
      revert q1 q2 q3 q4 q5 q6; decide
    · have e : decide (m.lo = 0 ∧ m.hi = 0) = false := by simpa using h0
      rw [e]
      generalize decide (m.lo ≤ m.hi) = q8
      generalize fromB (-72057594037927936) [m.lo, m.hi] = q7
      revert q1 q2 q3 q4 q5 q6 q7 q8; decide
  · generalize fromB (-72057594037927936) [m.lo, m.hi] = q7
    generalize decide (m.lo ≤ m.hi) = q8
    generalize decide (m.lo = 0 ∧ m.hi = 0) = q9
    revert q9 q1 q2 q3 q4 q5 q6 q7 q8; decide
end Go.Proofs.Ytegndeefddlccaa
