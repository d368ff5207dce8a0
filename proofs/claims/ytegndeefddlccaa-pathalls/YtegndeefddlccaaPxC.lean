/-
  The document's Cost.
-/
import Derived.Test.YtegndeefddlccaaPkA
import Derived.BigQuiet
import Derived.Deep.RegionHeld3
namespace Go.Proofs.Ytegndeefddlccaa
open Go.RowKit

theorem lineB_far {k : Int} {g : Int × Int} (h : 2305843009213693952 < g.1 + g.2 * k) : lineB k g = 2305843009213693953 := by unfold lineB; rw [if_neg (by omega)]
theorem lineB_near {k : Int} {g : Int × Int} (h : g.1 + g.2 * k ≤ 2305843009213693952) : lineB k g = g.1 + g.2 * k := by unfold lineB; rw [if_pos h]
theorem leastB_top (k : Int) : ∀ (l : List (Int × Int)), leastB k l ≤ 2305843009213693953 := by
  have : ∀ (l : List (Int × Int)) (a : Int), a ≤ 2305843009213693953 → l.foldl (fun a g => min a (lineB k g)) a ≤ 2305843009213693953 := by
    intro l
    induction l with
    | nil => intro a h; exact h
    | cons g l ih => intro a h; exact ih _ (by show min a (lineB k g) ≤ _; omega)
  exact fun l => this l _ (by omega)
set_option maxRecDepth 20000 in
set_option maxHeartbeats 2000000 in
theorem costR_calls (k : Int) (ao : Option Addr) (len cap : Nat) (l : List (Int × Int)) (w : World) (h : GpsAt w ao len l) :
    Calls Try.prog 11 #[.int .i64 k, .slice ao len cap] w fun e w' => e = .returned (.tuple #[.int .i64 (costV k l), .int .i64 (costE k l)]) ∧ Below w.heap.size w w' := by
  have hs := h.short
  have hle := h.length
  unfold maxLen at hs
  have HM : Hid (GpsAt w ao len l) := h
  clear h
  have HB : Hid (¬ (1 ≤ k ∧ k ≤ 65536 ∧ l ≠ [] ∧ l.length ≤ 4 ∧ gapsB l = true) → costE k l = 1 ∧ costV k l = 0) := costE_bad
  obtain ⟨r, hr⟩ : ∃ r, (gapsB l && decide (len ≤ 4)) = r := ⟨_, rfl⟩
  have HR : Hid ((gapsB l && decide (len ≤ 4)) = r) := hr
  clear hr
  go_enter Try.func11, Try.ntmps11
  go_wp2_with fail
  refine (gapsR_calls ao len cap l _ HM.out).mono ?_
  rintro e w1 ⟨rfl, hb1⟩
  rw [HR.out]
  have H1 : Hid (Below w.heap.size w w1) := hb1
  clear hb1
  by_cases h1 : k < 1
  · go_wp2
    go_ret2
    have := HB.out (by omega)
    exact ⟨ret_two this.2.symm this.1.symm, H1.out⟩
  by_cases h2 : 65536 < k
  · go_wp2
    go_ret2
    have := HB.out (by omega)
    exact ⟨ret_two this.2.symm this.1.symm, H1.out⟩
  by_cases h3 : len = 0
  · have h3b : ((len : Int) == 0) = true := by subst h3; rfl
    go_wp2
    go_ret2
    have := HB.out (fun hh => hh.2.2.1 (List.length_eq_zero_iff.1 (by omega)))
    exact ⟨ret_two this.2.symm this.1.symm, H1.out⟩
  have h3b : ((len : Int) == 0) = false := by simpa using h3
  cases r
  · go_wp2
    go_ret2
    have := HB.out (fun hh => by
      have h5 := HR.out
      rw [hh.2.2.2.2, decide_eq_true (show len ≤ 4 by omega)] at h5
      cases h5)
    exact ⟨ret_two this.2.symm this.1.symm, H1.out⟩
  · have hgl : gapsB l = true ∧ len ≤ 4 := by have := HR.out; simpa using this
    have hok : 1 ≤ k ∧ k ≤ 65536 ∧ l ≠ [] ∧ l.length ≤ 4 ∧ gapsB l = true := ⟨by omega, by omega, fun e => h3 (by rw [← hle, e]; rfl), by omega, hgl.1⟩
    have HO : Hid (leastB k l ≤ 2305843009213693952 → costE k l = 0 ∧ costV k l = leastB k l) := costE_ok hok
    have HF : Hid (2305843009213693952 < leastB k l → costE k l = 93 ∧ costV k l = 0) := costE_far hok
    have HG : Hid (gapsB l = true) := hgl.1
    clear hok HB HR hgl
    go_wp2
    go_loopw [7, 8] (fun v i wr => ∃ j : Nat, j ≤ len ∧ i = .int .i64 j ∧ v = .int .i64 (leastB k (l.take j)) ∧ Below w.heap.size w wr) (fun _ i _ => len - (intOf i).toNat)
    case atStart => exact ⟨0, Nat.zero_le _, rfl, rfl, H1.out⟩
    case round =>
      obtain ⟨j, hj, rfl, rfl, hb⟩ := hrel
      have HX : Hid (Below w.heap.size w wr) := hb
      clear hb H1
      by_cases hlt : j < len
      · obtain ⟨g, hgk⟩ := get_lt (l := l) (k := j) (by rw [HM.out.length]; exact hlt)
        obtain ⟨b, off, rfl, hcs⟩ := (HM.out.below HX.out).cells (by omega)
        obtain ⟨c1, c2⟩ := hcs j g hgk
        have hr := gapsB_get HG.out j g hgk
        have HS : Hid (leastB k (l.take (j + 1)) = min (leastB k (l.take j)) (lineB k g)) := leastB_snoc hgk
        have htop := leastB_top k (l.take j)
        clear hcs hgk
        obtain ⟨a, x⟩ := g
        simp only at c1 c2 hr
        obtain ⟨v, hv⟩ : ∃ v, leastB k (l.take j) = v := ⟨_, rfl⟩
        rw [hv] at HS htop ⊢
        clear hv
        have ht := line_test (a := a) (x := x) (k := k) (by omega) hr.1.1 hr.1.2
        have hxk : 0 ≤ x * k := Int.mul_nonneg hr.2.1 (by omega)
        have hq0 : 0 ≤ (2305843009213693952 - a).tdiv k ∧ (2305843009213693952 - a).tdiv k ≤ 2305843009213693952 := by
          rw [Int.tdiv_eq_ediv_of_nonneg (by omega)]
          exact ⟨Int.ediv_nonneg (by omega) (by omega), Int.le_trans (Int.ediv_le_self _ (by omega)) (by omega)⟩
        obtain ⟨q, hq⟩ : ∃ q, (2305843009213693952 - a).tdiv k = q := ⟨_, rfl⟩
        rw [hq] at ht hq0
        have hk0 : k ≠ 0 := by omega
        by_cases hfar : 2305843009213693952 < a + x * k
        · have hd : decide (x ≤ q) = false := decide_eq_false (by have := ht.2 hfar; omega)
          have HL : Hid (leastB k (l.take (j + 1)) = v) := by have := HS.out; rw [lineB_far hfar] at this; rw [this]; show min v _ = v; omega
          clear ht HS
          go_wp2_with fail
          go_quiet (fail)
          go_wp2
          go_roundw
          case rel => exact ⟨j + 1, by omega, by go_num, by rw [HL.out], below_drewN HX.out _⟩
          case measure => simp [intOf]; omega
        · have hd : decide (x ≤ q) = true := decide_eq_true (by have := ht.1; omega)
          have HL : Hid (leastB k (l.take (j + 1)) = min v (a + x * k)) := by have := HS.out; rw [lineB_near (by simpa using hfar)] at this; exact this
          clear ht HS
          go_wp2_with fail
          go_quiet (fail)
          go_wp2_with fail
          have d1 : (wr.drewN nq).cell? ⟨b, off + j * 2, none⟩ = some (.int .i64 a) := c1
          have d2 : (wr.drewN nq).cell? ⟨b, off + j * 2 + 1, none⟩ = some (.int .i64 x) := c2
          have HX2 : Hid (Below w.heap.size w (wr.drewN nq)) := below_drewN HX.out nq
          go_region_held3 (fun W => W.cell? ⟨b, off + j * 2, none⟩ = some (.int .i64 a) ∧ W.cell? ⟨b, off + j * 2 + 1, none⟩ = some (.int .i64 x)) (first | with_reducible assumption | exact ⟨by assumption, by assumption⟩) (fail)
          go_wp2
          go_roundw
          case rel =>
            refine ⟨j + 1, by omega, by go_num, ?_, HX2.out.drew⟩
            have e1 : IntKind.i64.wrap (x * k) = x * k := (IntWalk.i64_left _).trans (by unfold wrap64; omega)
            have e2 : IntKind.i64.wrap (a + x * k) = a + x * k := (IntWalk.i64_left _).trans (by unfold wrap64; omega)
            rw [HL.out, e1, e2]
            exact int_eq (by split <;> omega)
          case measure => simp [intOf]; omega
      · have hE : l.take j = l := List.take_of_length_le (by rw [HM.out.length]; omega)
        rw [hE]
        by_cases h5 : 2305843009213693952 < leastB k l
        · have HF2 : Hid (costE k l = 93 ∧ costV k l = 0) := HF.out h5
          go_wp2
          go_ret2
          exact ⟨ret_two HF2.out.2.symm HF2.out.1.symm, HX.out⟩
        · have HF2 : Hid (costE k l = 0 ∧ costV k l = leastB k l) := HO.out (by omega)
          go_wp2
          go_ret2
          exact ⟨ret_two HF2.out.2.symm HF2.out.1.symm, HX.out⟩
end Go.Proofs.Ytegndeefddlccaa
