/-
  The field of a model and two sequences: fieldOf, shortFieldOf.
-/
import Derived.Test.YtegndeefddlccaaPkB
import Derived.Test.YtegndeefddlccaaPiA
namespace Go.Proofs.Ytegndeefddlccaa
open Go.RowKit

def fdZero : Array Value := #[.int .i64 0, .slice none 0 0, .slice none 0 0, .int .i64 0, .bool false, .int .i64 0, .int .i64 0, .int .i64 0, .int .i64 0, .int .i64 0, .slice none 0 0, .slice none 0 0]
theorem cellf {w : World} {g : Nat} {cs : Array Value} {t : TypeId} (h : w.heap[g]? = some (.cells cs t (0, 0))) (i : Nat) : w.frozen? ⟨g, i, none⟩ = false := by
  simp [World.frozen?, h]
theorem below_set {B : Nat} {w W : World} (h : Below B w W) {b : Nat} (hb : B ≤ b) (i : Nat) (v : Value) : Below B w (W.setCell ⟨b, i, none⟩ v) := h.setCell (p := ⟨b, i, none⟩) hb v

theorem below_twelve {B : Nat} {w W : World} (h : Below B w W) {b : Nat} (hb : B ≤ b) (v0 v1 v2 v3 v4 v5 v6 v7 v8 v9 v10 v11 : Value) : Below B w ((((((((((((W.setCell ⟨b, 0, none⟩ v0).setCell ⟨b, 1, none⟩ v1).setCell ⟨b, 2, none⟩ v2).setCell ⟨b, 3, none⟩ v3).setCell ⟨b, 4, none⟩ v4).setCell ⟨b, 5, none⟩ v5).setCell ⟨b, 6, none⟩ v6).setCell ⟨b, 7, none⟩ v7).setCell ⟨b, 8, none⟩ v8).setCell ⟨b, 9, none⟩ v9).setCell ⟨b, 10, none⟩ v10).setCell ⟨b, 11, none⟩ v11) := by
  exact below_set (below_set (below_set (below_set (below_set (below_set (below_set (below_set (below_set (below_set (below_set (below_set (h) hb 0 v0) hb 1 v1) hb 2 v2) hb 3 v3) hb 4 v4) hb 5 v5) hb 6 v6) hb 7 v7) hb 8 v8) hb 9 v9) hb 10 v10) hb 11 v11

/-- Two boxes: a model's, and the answer's. -/
structure F2 (w : World) (mc : Array Value) (wr : World) : Prop where
  low : Below w.heap.size w wr
  box : wr.heap[w.heap.size]? = some (.cells mc 31 (0, 0))
  res : wr.heap[w.heap.size + 1]? = some (.cells fdZero 55 (0, 0))
theorem F2.start (w : World) (mc : Array Value) : F2 w mc ((w.alloc (.cells mc 31)).alloc (.cells fdZero 55)) :=
  ⟨((Below.refl _ w).alloc (Nat.le_refl _) _).alloc (by simp) _, hp_old (hp_at rfl), hp_at (by simp)⟩
theorem F2.next {w : World} {mc : Array Value} {wr w2 : World} (h : F2 w mc wr) (hb : Below wr.heap.size wr w2) : F2 w mc w2 :=
  ⟨h.low.trans (hb.mono h.low.size), (Fr.of_below (O := fun _ => False) hb).heap h.box (fun h => h), (Fr.of_below (O := fun _ => False) hb).heap h.res (fun h => h)⟩
theorem refE_110 {m : Md} {xs ys : List Int} (h : rightM m = false) : refE m xs ys = 110 := by unfold refE; rw [h]; rfl
theorem refE_11 {m : Md} {xs ys : List Int} (h : rightM m = true) (h2 : lettersB m.letters xs = false ∨ lettersB m.letters ys = false) : refE m xs ys = 11 := by
  unfold refE; rw [if_pos h, if_neg (fun hh => by rcases h2 with h2 | h2 <;> simp [h2] at hh)]
theorem refE_170 {m : Md} {xs ys : List Int} (h : rightM m = true) (h1 : lettersB m.letters xs = true) (h2 : lettersB m.letters ys = true) (h3 : most (wid m) < max (xs.length : Int) (ys.length : Int)) : refE m xs ys = 170 := by
  unfold refE; rw [if_pos h, if_pos ⟨h1, h2⟩, if_neg (by omega)]
theorem refE_0 {m : Md} {xs ys : List Int} (h : rightM m = true) (h1 : lettersB m.letters xs = true) (h2 : lettersB m.letters ys = true) (h3 : max (xs.length : Int) (ys.length : Int) ≤ most (wid m)) : refE m xs ys = 0 := by
  unfold refE; rw [if_pos h, if_pos ⟨h1, h2⟩, if_pos (by omega)]
def FldPost (m : Md) (xs ys : List Int) (fd : Array Value) (w : World) (e : Ending) (w' : World) : Prop :=
  e = .returned (.tuple #[.agg (if refE m xs ys = 0 then fd else fdZero), .int .i64 (refE m xs ys)]) ∧ Below w.heap.size w w'

set_option maxRecDepth 20000 in
set_option maxHeartbeats 2000000 in
theorem fieldOf_calls (m : Md) (sa : Option Addr) (sn sc : Nat) (ga : Option Addr) (gn gc : Nat) (xa : Option Addr) (xn xc : Nat) (ya : Option Addr) (yn yc : Nat) (xs ys : List Int) (w : World) (h : MdAt w m sa sn ga gn) (hx : IntsAt w xa xn xs) (hy : IntsAt w ya yn ys) :
    Calls Try.prog 26 #[.agg (mdCells m sa sn sc ga gn gc), .slice xa xn xc, .slice ya yn yc] w fun e w' => FldPost m xs ys (fdCells m sa sn sc ga gn gc xa xn xc ya yn yc) w e w' := by
  have hres : Try.f26.results = #[.cell 6 55, .tmp 7] := by kernel_rfl
  have hxl := hx.length
  have hyl := hy.length
  have hxs := hx.short
  have hys := hy.short
  unfold maxLen at hxs hys
  have hmx := max2'
  have HM : Hid (MdAt w m sa sn ga gn) := h
  have HX : Hid (IntsAt w xa xn xs) := hx
  have HY : Hid (IntsAt w ya yn ys) := hy
  clear h hx hy
  obtain ⟨r, hr⟩ : ∃ r, rightM m = r := ⟨_, rfl⟩
  have HR : Hid (rightM m = r) := hr
  clear hr
  have HB0 : Hid (F2 w (mdCells m sa sn sc ga gn gc) ((w.alloc (.cells (mdCells m sa sn sc ga gn gc) 31)).alloc (.cells fdZero 55))) := F2.start w _
  rw [show mdCells m sa sn sc ga gn gc = #[.int .i64 m.letters, .slice sa sn sc, .slice ga gn gc, .int .i64 m.mode, .bool m.banded, .int .i64 m.lo, .int .i64 m.hi, .int .i64 m.front, .int .i64 m.back, .int .i64 m.least] from rfl]
  go_enter Try.func26, Try.ntmps26
  go_wp2_with fail
  refine (most_calls m sa sn sc ga gn gc _ (HM.out.below HB0.out.low)).mono ?_
  rintro e w1 ⟨rfl, hb⟩
  rw [HR.out]
  have HB : Hid (F2 w (mdCells m sa sn sc ga gn gc) w1) := HB0.out.next hb
  clear hb HB0
  have b0 : w1.cell? ⟨w.heap.size, 0, none⟩ = some (.int .i64 m.letters) := cell_block HB.out.box 0 _ rfl
  have b1 : w1.cell? ⟨w.heap.size, 1, none⟩ = some (.slice sa sn sc) := cell_block HB.out.box 1 _ rfl
  have b2 : w1.cell? ⟨w.heap.size, 2, none⟩ = some (.slice ga gn gc) := cell_block HB.out.box 2 _ rfl
  have b3 : w1.cell? ⟨w.heap.size, 3, none⟩ = some (.int .i64 m.mode) := cell_block HB.out.box 3 _ rfl
  have b4 : w1.cell? ⟨w.heap.size, 4, none⟩ = some (.bool m.banded) := cell_block HB.out.box 4 _ rfl
  have b5 : w1.cell? ⟨w.heap.size, 5, none⟩ = some (.int .i64 m.lo) := cell_block HB.out.box 5 _ rfl
  have b6 : w1.cell? ⟨w.heap.size, 6, none⟩ = some (.int .i64 m.hi) := cell_block HB.out.box 6 _ rfl
  have b7 : w1.cell? ⟨w.heap.size, 7, none⟩ = some (.int .i64 m.front) := cell_block HB.out.box 7 _ rfl
  have b8 : w1.cell? ⟨w.heap.size, 8, none⟩ = some (.int .i64 m.back) := cell_block HB.out.box 8 _ rfl
  have b9 : w1.cell? ⟨w.heap.size, 9, none⟩ = some (.int .i64 m.least) := cell_block HB.out.box 9 _ rfl
  have r0 : w1.cell? ⟨w.heap.size + 1, 0, none⟩ = some (.int .i64 0) := cell_block HB.out.res 0 _ rfl
  have r1 : w1.cell? ⟨w.heap.size + 1, 1, none⟩ = some (.slice none 0 0) := cell_block HB.out.res 1 _ rfl
  have r2 : w1.cell? ⟨w.heap.size + 1, 2, none⟩ = some (.slice none 0 0) := cell_block HB.out.res 2 _ rfl
  have r3 : w1.cell? ⟨w.heap.size + 1, 3, none⟩ = some (.int .i64 0) := cell_block HB.out.res 3 _ rfl
  have r4 : w1.cell? ⟨w.heap.size + 1, 4, none⟩ = some (.bool false) := cell_block HB.out.res 4 _ rfl
  have r5 : w1.cell? ⟨w.heap.size + 1, 5, none⟩ = some (.int .i64 0) := cell_block HB.out.res 5 _ rfl
  have r6 : w1.cell? ⟨w.heap.size + 1, 6, none⟩ = some (.int .i64 0) := cell_block HB.out.res 6 _ rfl
  have r7 : w1.cell? ⟨w.heap.size + 1, 7, none⟩ = some (.int .i64 0) := cell_block HB.out.res 7 _ rfl
  have r8 : w1.cell? ⟨w.heap.size + 1, 8, none⟩ = some (.int .i64 0) := cell_block HB.out.res 8 _ rfl
  have r9 : w1.cell? ⟨w.heap.size + 1, 9, none⟩ = some (.int .i64 0) := cell_block HB.out.res 9 _ rfl
  have r10 : w1.cell? ⟨w.heap.size + 1, 10, none⟩ = some (.slice none 0 0) := cell_block HB.out.res 10 _ rfl
  have r11 : w1.cell? ⟨w.heap.size + 1, 11, none⟩ = some (.slice none 0 0) := cell_block HB.out.res 11 _ rfl
  have rf : ∀ i, w1.frozen? ⟨w.heap.size + 1, i, none⟩ = false := fun i => cellf HB.out.res i
  cases r
  · go_wp2
    refine bodyPost_ret (v := .tuple #[.agg #[.int .i64 0, .slice none 0 0, .slice none 0 0, .int .i64 0, .bool false, .int .i64 0, .int .i64 0, .int .i64 0, .int .i64 0, .int .i64 0, .slice none 0 0, .slice none 0 0], .int .i64 110]) ?_ rfl ?_
    · simp only [results, hres]
      go_simp
    · show FldPost _ _ _ _ _ _ _
      unfold FldPost
      rw [refE_110 HR.out, if_neg (by decide)]
      exact ⟨rfl, below_twelve HB.out.low (by omega) _ _ _ _ _ _ _ _ _ _ _ _⟩
  · obtain ⟨lx, hlx⟩ : ∃ lx, lettersB m.letters xs = lx := ⟨_, rfl⟩
    obtain ⟨ly, hly⟩ : ∃ ly, lettersB m.letters ys = ly := ⟨_, rfl⟩
    have HLX : Hid (lettersB m.letters xs = lx) := hlx
    have HLY : Hid (lettersB m.letters ys = ly) := hly
    clear hlx hly
    have CX : Hid (Calls Try.prog 44 #[.int .i64 m.letters, .slice xa xn xc] w1 fun e w' => e = .returned (.bool lx) ∧ w1 = w') := by rw [← HLX.out]; exact areLetters_calls _ _ _ _ _ _ (HX.out.below HB.out.low)
    have CY : Hid (Calls Try.prog 44 #[.int .i64 m.letters, .slice ya yn yc] w1 fun e w' => e = .returned (.bool ly) ∧ w1 = w') := by rw [← HLY.out]; exact areLetters_calls _ _ _ _ _ _ (HY.out.below HB.out.low)
    have hmo := (rightM_out HR.out).wid
    have hmr : 0 ≤ most (wid m) ∧ most (wid m) ≤ 65536 := (fun h => ⟨by have := h.1; omega, h.2⟩) (most_bd _ hmo.1 hmo.2)
    obtain ⟨mo, hmo2⟩ : ∃ mo, most (wid m) = mo := ⟨_, rfl⟩
    have HMO : Hid (most (wid m) = mo) := hmo2
    rw [hmo2] at hmr
    rw [if_pos rfl, if_pos rfl, hmo2]
    clear hmo hmo2
    cases lx
    · go_wp2_with (first | (go_at_call 44; with_reducible refine CX.out.mono ?_; clear CX; rintro e w2 ⟨rfl, rfl⟩) | (go_at_call 44; with_reducible refine CY.out.mono ?_; clear CY; rintro e w2 ⟨rfl, rfl⟩))
      refine bodyPost_ret (v := .tuple #[.agg #[.int .i64 0, .slice none 0 0, .slice none 0 0, .int .i64 0, .bool false, .int .i64 0, .int .i64 0, .int .i64 0, .int .i64 0, .int .i64 0, .slice none 0 0, .slice none 0 0], .int .i64 11]) ?_ rfl ?_
      · simp only [results, hres]
        go_simp
      · show FldPost _ _ _ _ _ _ _
        unfold FldPost
        rw [refE_11 HR.out (.inl HLX.out), if_neg (by decide)]
        exact ⟨rfl, below_twelve HB.out.low (by omega) _ _ _ _ _ _ _ _ _ _ _ _⟩
    · cases ly
      · go_wp2_with (first | (go_at_call 44; with_reducible refine CX.out.mono ?_; clear CX; rintro e w2 ⟨rfl, rfl⟩) | (go_at_call 44; with_reducible refine CY.out.mono ?_; clear CY; rintro e w2 ⟨rfl, rfl⟩))
        refine bodyPost_ret (v := .tuple #[.agg #[.int .i64 0, .slice none 0 0, .slice none 0 0, .int .i64 0, .bool false, .int .i64 0, .int .i64 0, .int .i64 0, .int .i64 0, .int .i64 0, .slice none 0 0, .slice none 0 0], .int .i64 11]) ?_ rfl ?_
        · simp only [results, hres]
          go_simp
        · show FldPost _ _ _ _ _ _ _
          unfold FldPost
          rw [refE_11 HR.out (.inr HLY.out), if_neg (by decide)]
          exact ⟨rfl, below_twelve HB.out.low (by omega) _ _ _ _ _ _ _ _ _ _ _ _⟩
      · by_cases hml : mo < max (xn : Int) (yn : Int)
        · have HE : Hid (refE m xs ys = 170) := refE_170 HR.out HLX.out HLY.out (by rw [HMO.out, hxl, hyl]; exact hml)
          go_wp2_with (first | (go_at_call 44; with_reducible refine CX.out.mono ?_; clear CX; rintro e w2 ⟨rfl, rfl⟩) | (go_at_call 44; with_reducible refine CY.out.mono ?_; clear CY; rintro e w2 ⟨rfl, rfl⟩))
          refine bodyPost_ret (v := .tuple #[.agg #[.int .i64 0, .slice none 0 0, .slice none 0 0, .int .i64 0, .bool false, .int .i64 0, .int .i64 0, .int .i64 0, .int .i64 0, .int .i64 0, .slice none 0 0, .slice none 0 0], .int .i64 170]) ?_ rfl ?_
          · simp only [results, hres]
            go_simp
          · show FldPost _ _ _ _ _ _ _
            unfold FldPost
            rw [HE.out, if_neg (by decide)]
            exact ⟨rfl, below_twelve HB.out.low (by omega) _ _ _ _ _ _ _ _ _ _ _ _⟩
        · have HE : Hid (refE m xs ys = 0) := refE_0 HR.out HLX.out HLY.out (by rw [HMO.out, hxl, hyl]; omega)
          go_wp2_with (first | (go_at_call 44; with_reducible refine CX.out.mono ?_; clear CX; rintro e w2 ⟨rfl, rfl⟩) | (go_at_call 44; with_reducible refine CY.out.mono ?_; clear CY; rintro e w2 ⟨rfl, rfl⟩))
          refine bodyPost_ret (v := .tuple #[.agg #[.int .i64 m.letters, .slice sa sn sc, .slice ga gn gc, .int .i64 m.mode, .bool m.banded, .int .i64 m.lo, .int .i64 m.hi, .int .i64 m.front, .int .i64 m.back, .int .i64 m.least, .slice xa xn xc, .slice ya yn yc], .int .i64 0]) ?_ rfl ?_
          · simp only [results, hres]
            go_simp
          · show FldPost _ _ _ _ _ _ _
            unfold FldPost
            rw [HE.out, if_pos rfl]
            exact ⟨rfl, below_twelve HB.out.low (by omega) _ _ _ _ _ _ _ _ _ _ _ _⟩

end Go.Proofs.Ytegndeefddlccaa
