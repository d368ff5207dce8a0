/-
  The field of two short sequences.
-/
import Derived.Test.YtegndeefddlccaaPkC
namespace Go.Proofs.Ytegndeefddlccaa
open Go.RowKit

def shE (m : Md) (xs ys : List Int) : Int := if refE m xs ys = 0 then (if xs.length + ys.length ≤ 8 then 0 else 2) else refE m xs ys
theorem shE_err {m : Md} {xs ys : List Int} (h : refE m xs ys ≠ 0) : shE m xs ys = refE m xs ys := by unfold shE; rw [if_neg h]
theorem shE_long {m : Md} {xs ys : List Int} (h : refE m xs ys = 0) (h2 : 8 < xs.length + ys.length) : shE m xs ys = 2 := by unfold shE; rw [if_pos h, if_neg (by omega)]
theorem shE_ok {m : Md} {xs ys : List Int} (h : refE m xs ys = 0) (h2 : xs.length + ys.length ≤ 8) : shE m xs ys = 0 := by unfold shE; rw [if_pos h, if_pos h2]
def ShPost (m : Md) (xs ys : List Int) (fd : Array Value) (w : World) (e : Ending) (w' : World) : Prop :=
  e = .returned (.tuple #[.agg (if shE m xs ys = 0 then fd else fdZero), .int .i64 (shE m xs ys)]) ∧ Below w.heap.size w w'
theorem refE_len {m : Md} {xs ys : List Int} (h : refE m xs ys = 0) : xs.length ≤ 65536 ∧ ys.length ≤ 65536 := by
  unfold refE at h
  split at h
  · rename_i hr
    have := (rightM_out hr).wid
    have hb := most_bd _ this.1 this.2
    split at h
    · split at h
      · omega
      · cases h
    · cases h
  · cases h
theorem below_al {w W : World} (h : Below w.heap.size w W) (o : Obj) : Below w.heap.size w (W.alloc o) := h.alloc h.size o
theorem F2.alloc {w : World} {mc : Array Value} {wr : World} (h : F2 w mc wr) (o : Obj) : F2 w mc (wr.alloc o) := h.next (bl1 _ _)

set_option maxRecDepth 20000 in
set_option maxHeartbeats 2000000 in
theorem shortField_calls (m : Md) (sa : Option Addr) (sn sc : Nat) (ga : Option Addr) (gn gc : Nat) (xa : Option Addr) (xn xc : Nat) (ya : Option Addr) (yn yc : Nat) (xs ys : List Int) (w : World) (h : MdAt w m sa sn ga gn) (hx : IntsAt w xa xn xs) (hy : IntsAt w ya yn ys) :
    Calls Try.prog 32 #[.agg (mdCells m sa sn sc ga gn gc), .slice xa xn xc, .slice ya yn yc] w fun e w' => ShPost m xs ys (fdCells m sa sn sc ga gn gc xa xn xc ya yn yc) w e w' := by
  have hres : Try.f32.results = #[.cell 6 55, .tmp 7] := by kernel_rfl
  have hxl := hx.length
  have hyl := hy.length
  have hxs := hx.short
  have hys := hy.short
  unfold maxLen at hxs hys
  have HM : Hid (MdAt w m sa sn ga gn) := h
  have HX : Hid (IntsAt w xa xn xs) := hx
  have HY : Hid (IntsAt w ya yn ys) := hy
  clear h hx hy
  have HB0 : Hid (F2 w (mdCells m sa sn sc ga gn gc) ((w.alloc (.cells (mdCells m sa sn sc ga gn gc) 31)).alloc (.cells fdZero 55))) := F2.start w _
  rw [show mdCells m sa sn sc ga gn gc = #[.int .i64 m.letters, .slice sa sn sc, .slice ga gn gc, .int .i64 m.mode, .bool m.banded, .int .i64 m.lo, .int .i64 m.hi, .int .i64 m.front, .int .i64 m.back, .int .i64 m.least] from rfl]
  go_enter Try.func32, Try.ntmps32
  go_wp2_with fail
  refine (fieldOf_calls m sa sn sc ga gn gc xa xn xc ya yn yc xs ys _ (HM.out.below HB0.out.low) (HX.out.below HB0.out.low) (HY.out.below HB0.out.low)).mono ?_
  rintro e w1 ⟨rfl, hb⟩
  have HB : Hid (F2 w (mdCells m sa sn sc ga gn gc) w1) := HB0.out.next hb
  clear hb HB0
  have hlt1 : w.heap.size + 1 < w1.heap.size := (Array.getElem?_eq_some_iff.1 HB.out.res).1
  have r0 : w1.cell? ⟨w.heap.size + 1, 0, none⟩ = some (.int .i64 0) := cell_block HB.out.res 0 _ rfl
  have r1 : w1.cell? ⟨w.heap.size + 1, 1, none⟩ = some (.slice none 0 0) := cell_block HB.out.res 1 _ rfl
  have r2 : w1.cell? ⟨w.heap.size + 1, 2, none⟩ = some (.slice none 0 0) := cell_block HB.out.res 2 _ rfl
  have r3 : w1.cell? ⟨w.heap.size + 1, 3, none⟩ = some (.int .i64 0) := cell_block HB.out.res 3 _ rfl
  have r4 : w1.cell? ⟨w.heap.size + 1, 4, none⟩ = some (.bool false) := cell_block HB.out.res 4 _ rfl
  have r5 : w1.cell? ⟨w.heap.size + 1, 5, none⟩ = some (.int .i64 0) := cell_block HB.out.res 5 _ rfl
  have r6 : w1.cell? ⟨w.heap.size + 1, 6, none⟩ = some (.int .i64 0) := cell_block HB.out.res 6 _ rfl
  have r7 : w1.cell? ⟨w.heap.size + 1, 7, none⟩ = some (.int .i64 0) := cell_block HB.out.res 7 _ rfl
  have r8 : w1.cell? ⟨w.heap.size + 1, 8, none⟩ = some (.int .i64 0) := cell_block HB.out.res 8 _ rfl
  have r9 : w1.cell? ⟨w.heap.size + 1, 9, none⟩ = some (.int .i64 0) := cell_block HB.out.res 9 _ rfl
  have r10 : w1.cell? ⟨w.heap.size + 1, 10, none⟩ = some (.slice none 0 0) := cell_block HB.out.res 10 _ rfl
  have r11 : w1.cell? ⟨w.heap.size + 1, 11, none⟩ = some (.slice none 0 0) := cell_block HB.out.res 11 _ rfl
  have rf : ∀ i, w1.frozen? ⟨w.heap.size + 1, i, none⟩ = false := fun i => cellf HB.out.res i
  by_cases hre : refE m xs ys = 0
  · have hln := refE_len hre
    rw [hxl, hyl] at hln
    rw [if_pos hre, hre, show fdCells m sa sn sc ga gn gc xa xn xc ya yn yc = #[.int .i64 m.letters, .slice sa sn sc, .slice ga gn gc, .int .i64 m.mode, .bool m.banded, .int .i64 m.lo, .int .i64 m.hi, .int .i64 m.front, .int .i64 m.back, .int .i64 m.least, .slice xa xn xc, .slice ya yn yc] from rfl]
    have HA : Hid (F2 w (mdCells m sa sn sc ga gn gc) (w1.alloc (.cells #[.int .i64 m.letters, .slice sa sn sc, .slice ga gn gc, .int .i64 m.mode, .bool m.banded, .int .i64 m.lo, .int .i64 m.hi, .int .i64 m.front, .int .i64 m.back, .int .i64 m.least, .slice xa xn xc, .slice ya yn yc] 55))) := HB.out.alloc _
    have hnb : (w1.alloc (.cells #[.int .i64 m.letters, .slice sa sn sc, .slice ga gn gc, .int .i64 m.mode, .bool m.banded, .int .i64 m.lo, .int .i64 m.hi, .int .i64 m.front, .int .i64 m.back, .int .i64 m.least, .slice xa xn xc, .slice ya yn yc] 55)).heap[w1.heap.size]? = some (.cells #[.int .i64 m.letters, .slice sa sn sc, .slice ga gn gc, .int .i64 m.mode, .bool m.banded, .int .i64 m.lo, .int .i64 m.hi, .int .i64 m.front, .int .i64 m.back, .int .i64 m.least, .slice xa xn xc, .slice ya yn yc] 55 (0, 0)) := hp_at rfl
    have n0 := cell_block hnb 0 _ rfl
    have n1 := cell_block hnb 1 _ rfl
    have n2 := cell_block hnb 2 _ rfl
    have n3 := cell_block hnb 3 _ rfl
    have n4 := cell_block hnb 4 _ rfl
    have n5 := cell_block hnb 5 _ rfl
    have n6 := cell_block hnb 6 _ rfl
    have n7 := cell_block hnb 7 _ rfl
    have n8 := cell_block hnb 8 _ rfl
    have n9 := cell_block hnb 9 _ rfl
    have n10 := cell_block hnb 10 _ rfl
    have n11 := cell_block hnb 11 _ rfl
    clear hnb
    by_cases hl : 8 < xn + yn
    · have HE : Hid (shE m xs ys = 2) := shE_long hre (by omega)
      go_wp2
      refine bodyPost_ret (v := .tuple #[.agg #[.int .i64 0, .slice none 0 0, .slice none 0 0, .int .i64 0, .bool false, .int .i64 0, .int .i64 0, .int .i64 0, .int .i64 0, .int .i64 0, .slice none 0 0, .slice none 0 0], .int .i64 2]) ?_ rfl ?_
      · simp only [results, hres]
        go_simp
      · show ShPost _ _ _ _ _ _ _
        unfold ShPost
        rw [HE.out, if_neg (by decide)]
        exact ⟨rfl, below_al (below_twelve HB.out.low (by omega) _ _ _ _ _ _ _ _ _ _ _ _) _⟩
    · have HE : Hid (shE m xs ys = 0) := shE_ok hre (by omega)
      go_wp2
      refine bodyPost_ret (v := .tuple #[.agg #[.int .i64 m.letters, .slice sa sn sc, .slice ga gn gc, .int .i64 m.mode, .bool m.banded, .int .i64 m.lo, .int .i64 m.hi, .int .i64 m.front, .int .i64 m.back, .int .i64 m.least, .slice xa xn xc, .slice ya yn yc], .int .i64 0]) ?_ rfl ?_
      · simp only [results, hres]
        go_simp
      · show ShPost _ _ _ _ _ _ _
        unfold ShPost
        rw [HE.out, if_pos rfl]
        exact ⟨rfl, below_al (below_twelve HB.out.low (by omega) _ _ _ _ _ _ _ _ _ _ _ _) _⟩
  · rw [if_neg hre]
    have HE : Hid (shE m xs ys = refE m xs ys) := shE_err hre
    generalize refE m xs ys = re at *
    have hre2 : (re == 0) = false := by simpa using hre
    rw [show fdZero = #[.int .i64 0, .slice none 0 0, .slice none 0 0, .int .i64 0, .bool false, .int .i64 0, .int .i64 0, .int .i64 0, .int .i64 0, .int .i64 0, .slice none 0 0, .slice none 0 0] from rfl]
    have HA : Hid (F2 w (mdCells m sa sn sc ga gn gc) (w1.alloc (.cells #[.int .i64 0, .slice none 0 0, .slice none 0 0, .int .i64 0, .bool false, .int .i64 0, .int .i64 0, .int .i64 0, .int .i64 0, .int .i64 0, .slice none 0 0, .slice none 0 0] 55))) := HB.out.alloc _
    go_wp2
    refine bodyPost_ret (v := .tuple #[.agg #[.int .i64 0, .slice none 0 0, .slice none 0 0, .int .i64 0, .bool false, .int .i64 0, .int .i64 0, .int .i64 0, .int .i64 0, .int .i64 0, .slice none 0 0, .slice none 0 0], .int .i64 re]) ?_ rfl ?_
    · simp only [results, hres]
      go_simp
    · show ShPost _ _ _ _ _ _ _
      unfold ShPost
      rw [HE.out, if_neg hre]
      exact ⟨rfl, below_al (below_twelve HB.out.low (by omega) _ _ _ _ _ _ _ _ _ _ _ _) _⟩
end Go.Proofs.Ytegndeefddlccaa
