/-
  What a gap costs, in plain numbers; the walks of line, leastLine, areNumbers, Cost; letters.
-/
import Derived.Test.YtegndeefddlccaaBdG
import Derived.Test.YtegndeefddlccaaPhA
import Derived.BigQuiet
namespace Go.Proofs.Ytegndeefddlccaa
open Go.RowKit

def lineB (k : Int) (g : Int × Int) : Int := if g.1 + g.2 * k ≤ 2305843009213693952 then g.1 + g.2 * k else 2305843009213693953
def leastB (k : Int) (l : List (Int × Int)) : Int := l.foldl (fun a g => min a (lineB k g)) 2305843009213693953
def costE (k : Int) (l : List (Int × Int)) : Int := if 1 ≤ k ∧ k ≤ 65536 ∧ l ≠ [] ∧ l.length ≤ 4 ∧ gapsB l = true then (if leastB k l ≤ 2305843009213693952 then 0 else 93) else 1
def costV (k : Int) (l : List (Int × Int)) : Int := if costE k l = 0 then leastB k l else 0
theorem line_test {a x k : Int} (hk : 1 ≤ k) (ha : 0 ≤ a) (ha2 : a ≤ 72057594037927936) : ((2305843009213693952 - a).tdiv k < x) ↔ 2305843009213693952 < a + x * k := by
  rw [Int.tdiv_eq_ediv_of_nonneg (by omega), Int.ediv_lt_iff_lt_mul (by omega)]
  omega
theorem min2' (ts : Array TypeId) (t : TypeId) (a b : Int) (W : World) : (Builtin.min_ ts t #[.int .i64 a, .int .i64 b]).run Try.prog W = .ok (.int .i64 (min a b)) W := by
  rw [Go.run_min_int2]
  congr 2
  split <;> omega
theorem below_drewN {B : Nat} {w1 w2 : World} (h : Below B w1 w2) (n : Nat) : Below B w1 (w2.drewN n) := ⟨h.os, h.tape, h.output, h.size, h.block⟩
set_option maxHeartbeats 1000000 in
theorem line_calls (k a x : Int) (w : World) (hk : 1 ≤ k) (ha : 0 ≤ a) (ha2 : a ≤ 72057594037927936) (hx : 0 ≤ x) :
    Calls Try.prog 41 #[.int .i64 k, .agg #[.int .i64 a, .int .i64 x]] w fun e w' => e = .returned (.int .i64 (lineB k (a, x))) ∧ Below w.heap.size w w' := by
  have ht := line_test (x := x) hk ha ha2
  have hxk : 0 ≤ x * k := Int.mul_nonneg hx (by omega)
  have hk0 : k ≠ 0 := by omega
  have hk1 : k ≠ -1 := by omega
  have HL : Hid (lineB k (a, x) = if a + x * k ≤ 2305843009213693952 then a + x * k else 2305843009213693953) := rfl
  generalize lineB k (a, x) = r at *
  have hq0 : 0 ≤ (2305843009213693952 - a).tdiv k ∧ (2305843009213693952 - a).tdiv k ≤ 2305843009213693952 := by
    rw [Int.tdiv_eq_ediv_of_nonneg (by omega)]
    exact ⟨Int.ediv_nonneg (by omega) (by omega), Int.le_trans (Int.ediv_le_self _ (by omega)) (by omega)⟩
  generalize hq : (2305843009213693952 - a).tdiv k = q at *
  by_cases h : 2305843009213693952 < a + x * k
  · have hd : decide (q < x) = true := decide_eq_true (ht.2 h)
    have HR : Hid (r = 2305843009213693953) := by have := HL.out; rw [if_neg (by omega)] at this; exact this
    clear ht HL
    go_enter Try.func41, Try.ntmps41
    go_wp2
    go_quiet (fail)
    go_wp2
    go_ret
    exact ⟨ret_int HR.out.symm, below_drewN (bl1 _ _) _⟩
  · have hd : decide (q < x) = false := decide_eq_false (fun e => h (ht.1 e))
    have HR : Hid (r = a + x * k) := by have := HL.out; rw [if_pos (by omega)] at this; exact this
    clear ht HL
    go_enter Try.func41, Try.ntmps41
    go_wp2
    go_quiet (fail)
    go_wp2
    go_ret
    exact ⟨ret_int (by rw [HR.out]), below_drewN (bl1 _ _) _⟩

theorem leastB_snoc {k : Int} {l : List (Int × Int)} {j : Nat} {g : Int × Int} (h : l[j]? = some g) : leastB k (l.take (j + 1)) = min (leastB k (l.take j)) (lineB k g) := by
  have hj := (List.getElem?_eq_some_iff.1 h).1
  have he := (List.getElem?_eq_some_iff.1 h).2
  rw [List.take_succ_eq_append_getElem hj, he]
  simp [leastB]
set_option maxHeartbeats 1000000 in
theorem leastLine_calls (k : Int) (ao : Option Addr) (len cap : Nat) (l : List (Int × Int)) (w : World) (h : GpsAt w ao len l) (hk : 1 ≤ k) (hg : gapsB l = true) :
    Calls Try.prog 24 #[.int .i64 k, .slice ao len cap] w fun e w' => e = .returned (.int .i64 (leastB k l)) ∧ Below w.heap.size w w' := by
  have hs := h.short
  unfold maxLen at hs
  have HM : Hid (GpsAt w ao len l) := h
  have HG : Hid (gapsB l = true) := hg
  have hmn := min2'
  clear h hg
  go_enter Try.func24, Try.ntmps24
  go_wp2
  go_loopw [5, 10] (fun v i wr => ∃ j : Nat, j ≤ len ∧ i = .int .i64 j ∧ v = .int .i64 (leastB k (l.take j)) ∧ Below w.heap.size w wr) (fun _ i _ => len - (intOf i).toNat)
  case atStart => exact ⟨0, Nat.zero_le _, rfl, rfl, Below.refl _ _⟩
  case round =>
    obtain ⟨j, hj, rfl, rfl, hb⟩ := hrel
    have HX : Hid (Below w.heap.size w wr) := hb
    clear hb
    by_cases hlt : j < len
    · obtain ⟨g, hgk⟩ := get_lt (l := l) (k := j) (by rw [HM.out.length]; exact hlt)
      obtain ⟨b, off, rfl, hcs⟩ := (HM.out.below HX.out).cells (by omega)
      obtain ⟨c1, c2⟩ := hcs j g hgk
      have hr := gapsB_get HG.out j g hgk
      have HS : Hid (leastB k (l.take (j + 1)) = min (leastB k (l.take j)) (lineB k g)) := leastB_snoc hgk
      clear hcs hgk
      obtain ⟨a, x⟩ := g
      simp only at c1 c2 hr
      generalize leastB k (l.take j) = v at *
      have HX2 : Hid (Below w.heap.size w (wr.alloc (.cells #[.int .i64 a, .int .i64 x] 50))) := HX.out.alloc HX.out.size _
      go_wp2_with (go_at_call 41; refine (line_calls k a x _ hk hr.1.1 hr.1.2 hr.2.1).mono ?_; rintro e w1 ⟨rfl, hb1⟩; generalize lineB k (a, x) = ln at *)
      go_roundw
      case rel =>
        exact ⟨j + 1, by omega, by go_num, by rw [HS.out], HX2.out.trans (hb1.mono HX2.out.size)⟩
      case measure => simp [intOf]; omega
    · have hE : l.take j = l := List.take_of_length_le (by rw [HM.out.length]; omega)
      rw [hE]
      go_wp2
      go_ret
      exact ⟨rfl, HX.out⟩
set_option maxHeartbeats 1000000 in
theorem areNumbersP_calls (ao : Option Addr) (len cap : Nat) (l : List (Int × Int)) (w : World) (h : GpsAt w ao len l) :
    Calls Try.prog 23 #[.slice ao len cap] w fun e w' => e = .returned (.bool (gapsB l)) ∧ Below w.heap.size w w' := by
  have hs := h.short
  unfold maxLen at hs
  have HM : Hid (GpsAt w ao len l) := h
  clear h
  go_enter Try.func23, Try.ntmps23
  go_wp2
  go_loopw [7] (fun i wr => ∃ j : Nat, j ≤ len ∧ i = .int .i64 j ∧ (∀ q (g : Int × Int), q < j → l[q]? = some g → fromB 0 [g.1, g.2] = true) ∧ Below w.heap.size w wr) (fun i _ => len - (intOf i).toNat)
  case atStart => exact ⟨0, Nat.zero_le _, rfl, fun q g hq => by omega, Below.refl _ _⟩
  case round =>
    obtain ⟨j, hj, rfl, hall, hb⟩ := hrel
    have HX : Hid (Below w.heap.size w wr) := hb
    have HA : Hid (∀ q (g : Int × Int), q < j → l[q]? = some g → fromB 0 [g.1, g.2] = true) := hall
    clear hb hall
    by_cases hlt : j < len
    · obtain ⟨g, hgk⟩ := get_lt (l := l) (k := j) (by rw [HM.out.length]; exact hlt)
      obtain ⟨b, off, rfl, hcs⟩ := (HM.out.below HX.out).cells (by omega)
      obtain ⟨c1, c2⟩ := hcs j g hgk
      have HG : Hid (l[j]? = some g) := hgk
      clear hcs hgk
      obtain ⟨a, x⟩ := g
      simp only at c1 c2
      have HX2 : Hid (Below w.heap.size w (wr.alloc (.cells #[.int .i64 a, .int .i64 x] 50))) := HX.out.alloc HX.out.size _
      have hmn := fun ts t W => min2' ts t a x W
      have hmx := fun ts t W => max2' ts t a x W
      by_cases h1 : min a x < 0
      · have hf : fromB 0 [a, x] = false := by rw [fromB_two]; exact decide_eq_false (by omega)
        have HB : Hid (gapsB l = false) := gapsB_bad j _ HG.out hf
        generalize min a x = mn at *
        go_wp2
        go_ret
        exact ⟨ret_bool HB.out.symm, HX2.out⟩
      · by_cases h2 : 72057594037927936 < max a x
        · have hf : fromB 0 [a, x] = false := by rw [fromB_two]; exact decide_eq_false (by omega)
          have HB : Hid (gapsB l = false) := gapsB_bad j _ HG.out hf
          generalize min a x = mn at *
          generalize max a x = mx at *
          go_wp2
          go_ret
          exact ⟨ret_bool HB.out.symm, HX2.out⟩
        · have HF : Hid (fromB 0 [a, x] = true) := by
            have : fromB 0 [a, x] = true := by rw [fromB_two]; exact decide_eq_true (by omega)
            exact this
          generalize min a x = mn at *
          generalize max a x = mx at *
          go_wp2
          go_roundw
          case rel =>
            refine ⟨j + 1, by omega, by go_num, ?_, HX2.out⟩
            intro q g hq hqg
            by_cases e : q = j
            · subst e; rw [HG.out] at hqg; cases hqg; exact HF.out
            · exact HA.out q g (by omega) hqg
          case measure => simp [intOf]; omega
    · have HGs : Hid (gapsB l = true) := gapsB_all (fun q g hq => HA.out q g (by have := (List.getElem?_eq_some_iff.1 hq).1; rw [HM.out.length] at this; omega) hq)
      go_wp2
      go_ret
      exact ⟨ret_bool HGs.out.symm, HX.out⟩

theorem costE_bad {k : Int} {l : List (Int × Int)} (h : ¬ (1 ≤ k ∧ k ≤ 65536 ∧ l ≠ [] ∧ l.length ≤ 4 ∧ gapsB l = true)) : costE k l = 1 ∧ costV k l = 0 := by
  have e : costE k l = 1 := by unfold costE; rw [if_neg h]
  exact ⟨e, by unfold costV; rw [e]; rfl⟩
theorem costE_ok {k : Int} {l : List (Int × Int)} (h : 1 ≤ k ∧ k ≤ 65536 ∧ l ≠ [] ∧ l.length ≤ 4 ∧ gapsB l = true) (h2 : leastB k l ≤ 2305843009213693952) : costE k l = 0 ∧ costV k l = leastB k l := by
  have e : costE k l = 0 := by unfold costE; rw [if_pos h, if_pos h2]
  exact ⟨e, by unfold costV; rw [e]; rfl⟩
theorem costE_far {k : Int} {l : List (Int × Int)} (h : 1 ≤ k ∧ k ≤ 65536 ∧ l ≠ [] ∧ l.length ≤ 4 ∧ gapsB l = true) (h2 : 2305843009213693952 < leastB k l) : costE k l = 93 ∧ costV k l = 0 := by
  have e : costE k l = 93 := by unfold costE; rw [if_pos h, if_neg (by omega)]
  exact ⟨e, by unfold costV; rw [e]; rfl⟩
theorem ret_two {a b c d : Int} (h1 : a = b) (h2 : c = d) : Ending.returned (.tuple #[.int .i64 a, .int .i64 c]) = .returned (.tuple #[.int .i64 b, .int .i64 d]) := by rw [h1, h2]
set_option maxHeartbeats 1000000 in
theorem cost_calls (k : Int) (ao : Option Addr) (len cap : Nat) (l : List (Int × Int)) (w : World) (h : GpsAt w ao len l) :
    Calls Try.prog 10 #[.int .i64 k, .slice ao len cap] w fun e w' => e = .returned (.tuple #[.int .i64 (costV k l), .int .i64 (costE k l)]) ∧ Below w.heap.size w w' := by
  have hs := h.short
  have hle := h.length
  unfold maxLen at hs
  have HM : Hid (GpsAt w ao len l) := h
  clear h
  have HB : Hid (¬ (1 ≤ k ∧ k ≤ 65536 ∧ l ≠ [] ∧ l.length ≤ 4 ∧ gapsB l = true) → costE k l = 1 ∧ costV k l = 0) := costE_bad
  by_cases h1 : k < 1
  · go_enter Try.func10, Try.ntmps10
    go_wp2
    go_ret2
    have := HB.out (by omega)
    exact ⟨ret_two this.2.symm this.1.symm, Below.refl _ _⟩
  by_cases h2 : 65536 < k
  · go_enter Try.func10, Try.ntmps10
    go_wp2
    go_ret2
    have := HB.out (by omega)
    exact ⟨ret_two this.2.symm this.1.symm, Below.refl _ _⟩
  by_cases h3 : len = 0
  · have h3b : ((len : Int) == 0) = true := by subst h3; rfl
    go_enter Try.func10, Try.ntmps10
    go_wp2
    go_ret2
    have := HB.out (fun hh => hh.2.2.1 (List.length_eq_zero_iff.1 (by omega)))
    exact ⟨ret_two this.2.symm this.1.symm, Below.refl _ _⟩
  have h3b : ((len : Int) == 0) = false := by simpa using h3
  by_cases h4 : 4 < len
  · go_enter Try.func10, Try.ntmps10
    go_wp2
    go_ret2
    have := HB.out (by omega)
    exact ⟨ret_two this.2.symm this.1.symm, Below.refl _ _⟩
  obtain ⟨r, hr⟩ : ∃ r, gapsB l = r := ⟨_, rfl⟩
  have HR : Hid (gapsB l = r) := hr
  clear hr
  go_enter Try.func10, Try.ntmps10
  go_wp2_with fail
  refine (areNumbersP_calls ao len cap l _ HM.out).mono ?_
  rintro e w1 ⟨rfl, hb1⟩
  rw [HR.out]
  have H1 : Hid (Below w.heap.size w w1) := hb1
  clear hb1
  cases r
  · go_wp2
    go_ret2
    have := HB.out (fun hh => by rw [HR.out] at hh; exact absurd hh.2.2.2.2 (by decide))
    exact ⟨ret_two this.2.symm this.1.symm, H1.out⟩
  · have hok : 1 ≤ k ∧ k ≤ 65536 ∧ l ≠ [] ∧ l.length ≤ 4 ∧ gapsB l = true := ⟨by omega, by omega, fun e => h3 (by rw [← hle, e]; rfl), by omega, HR.out⟩
    have HO : Hid (leastB k l ≤ 2305843009213693952 → costE k l = 0 ∧ costV k l = leastB k l) := costE_ok hok
    have HF : Hid (2305843009213693952 < leastB k l → costE k l = 93 ∧ costV k l = 0) := costE_far hok
    clear hok HB
    by_cases h5 : 2305843009213693952 < leastB k l
    · have HF2 : Hid (costE k l = 93 ∧ costV k l = 0) := HF.out h5
      go_wp2_with (go_at_call 24; refine (leastLine_calls k ao len cap l _ (HM.out.below H1.out) (by omega) HR.out).mono ?_; rintro e w2 ⟨rfl, hb2⟩)
      go_ret2
      exact ⟨ret_two HF2.out.2.symm HF2.out.1.symm, H1.out.trans (hb2.mono H1.out.size)⟩
    · have HF2 : Hid (costE k l = 0 ∧ costV k l = leastB k l) := HO.out (by omega)
      go_wp2_with (go_at_call 24; refine (leastLine_calls k ao len cap l _ (HM.out.below H1.out) (by omega) HR.out).mono ?_; rintro e w2 ⟨rfl, hb2⟩)
      go_ret2
      exact ⟨ret_two HF2.out.2.symm HF2.out.1.symm, H1.out.trans (hb2.mono H1.out.size)⟩
end Go.Proofs.Ytegndeefddlccaa
