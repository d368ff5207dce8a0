/-
  The document's Refused.
-/
import Derived.Test.YtegndeefddlccaaPwC
import Derived.Test.YtegndeefddlccaaBdG
namespace Go.Proofs.Ytegndeefddlccaa
open Go.RowKit

structure B1 (w : World) (mc : Array Value) (wr : World) : Prop where
  low : Below w.heap.size w wr
  box : wr.heap[w.heap.size]? = some (.cells mc 31 (0, 0))
theorem B1.next {w : World} {mc : Array Value} {wr w2 : World} (h : B1 w mc wr) (hb : Below wr.heap.size wr w2) : B1 w mc w2 :=
  ⟨h.low.trans (hb.mono h.low.size), (Fr.of_below (O := fun _ => False) hb).heap h.box (fun h => h)⟩
set_option maxRecDepth 20000 in
set_option maxHeartbeats 2000000 in
theorem refused_calls (m : Md) (sa : Option Addr) (sn sc : Nat) (ga : Option Addr) (gn gc : Nat) (xa : Option Addr) (xn xc : Nat) (ya : Option Addr) (yn yc : Nat) (xs ys : List Int) (w : World) (h : MdAt w m sa sn ga gn) (hx : IntsAt w xa xn xs) (hy : IntsAt w ya yn ys) :
    Calls Try.prog 28 #[.agg (mdCells m sa sn sc ga gn gc), .slice xa xn xc, .slice ya yn yc] w fun e w' => e = .returned (.int .i64 (refE m xs ys)) ∧ Below w.heap.size w w' := by
  have hxl := hx.length
  have hyl := hy.length
  have hxs := hx.short
  have hys := hy.short
  unfold maxLen at hxs hys
  have HM : Hid (MdAt w m sa sn ga gn) := h
  have HX : Hid (IntsAt w xa xn xs) := hx
  have HY : Hid (IntsAt w ya yn ys) := hy
  clear h hx hy
  obtain ⟨r, hr⟩ : ∃ r, rightM m = r := ⟨_, rfl⟩
  have HR : Hid (rightM m = r) := hr
  clear hr
  have HB0 : Hid (B1 w (mdCells m sa sn sc ga gn gc) (w.alloc (.cells (mdCells m sa sn sc ga gn gc) 31))) := ⟨bl1 _ _, hp_at rfl⟩
  rw [show mdCells m sa sn sc ga gn gc = #[.int .i64 m.letters, .slice sa sn sc, .slice ga gn gc, .int .i64 m.mode, .bool m.banded, .int .i64 m.lo, .int .i64 m.hi, .int .i64 m.front, .int .i64 m.back, .int .i64 m.least] from rfl]
  go_enter Try.func28, Try.ntmps28
  go_wp2_with fail
  refine (rightR_calls m sa sn sc ga gn gc _ (HM.out.below HB0.out.low)).mono ?_
  rintro e w1 ⟨rfl, hb⟩
  rw [HR.out]
  have HB : Hid (B1 w (mdCells m sa sn sc ga gn gc) w1) := HB0.out.next hb
  clear hb HB0
  have b0 : w1.cell? ⟨w.heap.size, 0, none⟩ = some (.int .i64 m.letters) := cell_block HB.out.box 0 _ rfl
  have b1 : w1.cell? ⟨w.heap.size, 1, none⟩ = some (.slice sa sn sc) := cell_block HB.out.box 1 _ rfl
  have b2 : w1.cell? ⟨w.heap.size, 2, none⟩ = some (.slice ga gn gc) := cell_block HB.out.box 2 _ rfl
  have b3 : w1.cell? ⟨w.heap.size, 3, none⟩ = some (.int .i64 m.mode) := cell_block HB.out.box 3 _ rfl
  have b4 : w1.cell? ⟨w.heap.size, 4, none⟩ = some (.bool m.banded) := cell_block HB.out.box 4 _ rfl
  have b5 : w1.cell? ⟨w.heap.size, 5, none⟩ = some (.int .i64 m.lo) := cell_block HB.out.box 5 _ rfl
  have b6 : w1.cell? ⟨w.heap.size, 6, none⟩ = some (.int .i64 m.hi) := cell_block HB.out.box 6 _ rfl
  have b7 : w1.cell? ⟨w.heap.size, 7, none⟩ = some (.int .i64 m.front) := cell_block HB.out.box 7 _ rfl
  have b8 : w1.cell? ⟨w.heap.size, 8, none⟩ = some (.int .i64 m.back) := cell_block HB.out.box 8 _ rfl
  have b9 : w1.cell? ⟨w.heap.size, 9, none⟩ = some (.int .i64 m.least) := cell_block HB.out.box 9 _ rfl
  cases r
  · have HE : Hid (refE m xs ys = 110) := refE_110 HR.out
    go_wp2
    go_ret
    exact ⟨ret_int HE.out.symm, HB.out.low⟩
  · obtain ⟨lx, hlx⟩ : ∃ lx, lettersB m.letters xs = lx := ⟨_, rfl⟩
    obtain ⟨ly, hly⟩ : ∃ ly, lettersB m.letters ys = ly := ⟨_, rfl⟩
    have HLX : Hid (lettersB m.letters xs = lx) := hlx
    have HLY : Hid (lettersB m.letters ys = ly) := hly
    clear hlx hly
    have CX : Hid (Calls Try.prog 51 #[.slice xa xn xc, .int .i64 m.letters] w1 fun e w' => e = .returned (.bool lx) ∧ w1 = w') := by rw [← HLX.out]; exact lettersR_calls _ _ _ _ _ _ (HX.out.below HB.out.low)
    have CY : Hid (Calls Try.prog 51 #[.slice ya yn yc, .int .i64 m.letters] w1 fun e w' => e = .returned (.bool ly) ∧ w1 = w') := by rw [← HLY.out]; exact lettersR_calls _ _ _ _ _ _ (HY.out.below HB.out.low)
    go_wp2_with fail
    with_reducible refine CX.out.mono ?_
    rintro e w2 ⟨rfl, rfl⟩
    go_wp2_with fail
    with_reducible refine CY.out.mono ?_
    rintro e w2 ⟨rfl, rfl⟩
    clear CX CY
    cases lx
    · have HE : Hid (refE m xs ys = 11) := refE_11 HR.out (.inl HLX.out)
      go_wp2
      go_ret
      exact ⟨ret_int HE.out.symm, HB.out.low⟩
    · cases ly
      · have HE : Hid (refE m xs ys = 11) := refE_11 HR.out (.inr HLY.out)
        go_wp2
        go_ret
        exact ⟨ret_int HE.out.symm, HB.out.low⟩
      · go_wp2_with fail
        refine (mostR_calls m sa sn sc ga gn gc _ (HM.out.below HB.out.low)).mono ?_
        rintro e w3 ⟨rfl, hb3⟩
        rw [HR.out, if_pos rfl, if_pos rfl]
        have HB3 : Hid (Below w.heap.size w w3) := HB.out.low.trans (hb3.mono HB.out.low.size)
        clear hb3
        have hmo := (rightM_out HR.out).wid
        have hmr := most_bd _ hmo.1 hmo.2
        obtain ⟨mo, hmo2⟩ : ∃ mo, most (wid m) = mo := ⟨_, rfl⟩
        have HMO : Hid (most (wid m) = mo) := hmo2
        rw [hmo2] at hmr ⊢
        clear hmo hmo2
        by_cases h1 : mo < (xn : Int)
        · have HE : Hid (refE m xs ys = 170) := refE_170 HR.out HLX.out HLY.out (by rw [HMO.out, hxl, hyl]; omega)
          go_wp2
          go_ret
          exact ⟨ret_int HE.out.symm, HB3.out⟩
        · by_cases h2 : mo < (yn : Int)
          · have HE : Hid (refE m xs ys = 170) := refE_170 HR.out HLX.out HLY.out (by rw [HMO.out, hxl, hyl]; omega)
            go_wp2
            go_ret
            exact ⟨ret_int HE.out.symm, HB3.out⟩
          · have HE : Hid (refE m xs ys = 0) := refE_0 HR.out HLX.out HLY.out (by rw [HMO.out, hxl, hyl]; omega)
            go_wp2
            go_ret
            exact ⟨ret_int HE.out.symm, HB3.out⟩
end Go.Proofs.Ytegndeefddlccaa
