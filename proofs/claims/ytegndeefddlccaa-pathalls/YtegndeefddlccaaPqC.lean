/-
  The document's worth.
-/
import Derived.Test.YtegndeefddlccaaPqB
import Derived.Test.YtegndeefddlccaaPxC
import Derived.BigQuiet
namespace Go.Proofs.Ytegndeefddlccaa
open Go.RowKit

theorem S2.drewN {w : World} {mc pc : Array Value} {wr : World} (h : S2 w mc pc wr) (n : Nat) : S2 w mc pc (wr.drewN n) := ⟨⟨h.low.os, h.low.tape, h.low.output, h.low.size, h.low.block⟩, h.box, h.p⟩
theorem leastB_le (k : Int) : ∀ (l : List (Int × Int)) (g : Int × Int), g ∈ l → leastB k l ≤ lineB k g := by
  have mono : ∀ (l : List (Int × Int)) (a b : Int), a ≤ b → l.foldl (fun a g => min a (lineB k g)) a ≤ b := by
    intro l
    induction l with
    | nil => intro a b h; exact h
    | cons g l ih => intro a b h; exact ih _ _ (by show min a (lineB k g) ≤ b; omega)
  have key : ∀ (l : List (Int × Int)) (a : Int) (g : Int × Int), g ∈ l → l.foldl (fun a g => min a (lineB k g)) a ≤ lineB k g := by
    intro l
    induction l with
    | nil => intro a g h; cases h
    | cons x l ih =>
      intro a g h
      rcases List.mem_cons.1 h with rfl | h
      · exact mono l _ _ (by show min a (lineB k g) ≤ _; omega)
      · exact ih _ _ h
  exact fun l g h => key l _ g h
theorem least_small {m : Md} (hr : rightM m = true) (hg : m.gaps ≠ []) {n : Int} (h1 : 1 ≤ n) (h2 : n ≤ most (wid m)) : leastB n m.gaps ≤ 2305843009213693952 := by
  have hR := rightM_out hr
  have hw := hR.wid
  obtain ⟨g, hg⟩ := List.exists_mem_of_ne_nil _ hg
  have hb := hR.gap g hg
  have hwd : g.1 + g.2 ≤ wid m := by
    have := widG_mem m.gaps (wid0 m) g hg
    exact this
  have hm := most_mul (wid m) hw.1 hw.2
  have h3 : n * wid m ≤ most (wid m) * wid m := Int.mul_le_mul_of_nonneg_right h2 (by omega)
  have h4 : (most (wid m) + 2) * wid m = most (wid m) * wid m + 2 * wid m := by rw [Int.add_mul]
  have h5 : n * (g.1 + g.2) ≤ n * wid m := Int.mul_le_mul_of_nonneg_left hwd (by omega)
  have h6 : n * (g.1 + g.2) = n * g.1 + g.2 * n := by rw [Int.mul_add, Int.mul_comm n g.2]
  have h7 : g.1 ≤ n * g.1 := by
    have : 1 * g.1 ≤ n * g.1 := Int.mul_le_mul_of_nonneg_right h1 hb.1.1
    omega
  have h8 : g.1 + g.2 * n ≤ 2305843009213693952 := by omega
  have := leastB_le n m.gaps g hg
  rw [lineB_near h8] at this
  omega
theorem cost_is {m : Md} (hr : rightM m = true) (hg : m.gaps ≠ []) {n : Int} (h1 : 1 ≤ n) (h2 : n ≤ most (wid m)) : costV n m.gaps = leastB n m.gaps := by
  have hR := rightM_out hr
  have hw := hR.wid
  have hmo := most_bd _ hw.1 hw.2
  exact (costE_ok ⟨h1, by omega, hg, hR.few, hR.gaps⟩ (least_small hr hg h1 h2)).2

end Go.Proofs.Ytegndeefddlccaa
