/-
  The document's Score.
-/
import Derived.Test.YtegndeefddlccaaPqF
namespace Go.Proofs.Ytegndeefddlccaa
open Go.RowKit

theorem refE_most {m : Md} {xs ys : List Int} (h : refE m xs ys = 0) : (xs.length : Int) ≤ most (wid m) ∧ (ys.length : Int) ≤ most (wid m) := by
  unfold refE at h
  split at h
  · split at h
    · split at h
      · assumption
      · cases h
    · cases h
  · cases h
set_option maxRecDepth 20000 in
set_option maxHeartbeats 2000000 in
theorem scoreD_calls (m : Md) (sa : Option Addr) (sn sc : Nat) (ga : Option Addr) (gn gc : Nat) (xa : Option Addr) (xn xc : Nat) (ya : Option Addr) (yn yc : Nat) (xs ys : List Int) (i0 j0 : Int) (s : ByteArray) (w : World) (h : MdAt w m sa sn ga gn) (hx : IntsAt w xa xn xs) (hy : IntsAt w ya yn ys) (hs : s.size ≤ maxLen) :
    Calls Try.prog 15 #[.agg (mdCells m sa sn sc ga gn gc), .slice xa xn xc, .slice ya yn yc, .agg #[.int .i64 i0, .int .i64 j0, .string s]] w fun e w' => e = .returned (.tuple #[.int .i64 (scV m xs ys ⟨i0, j0, s.data.toList⟩), .int .i64 (scE m xs ys ⟨i0, j0, s.data.toList⟩)]) ∧ Below w.heap.size w w' := by
  have hxl := hx.length
  have hyl := hy.length
  have HM : Hid (MdAt w m sa sn ga gn) := h
  have HX : Hid (IntsAt w xa xn xs) := hx
  have HY : Hid (IntsAt w ya yn ys) := hy
  have HSz : Hid (s.size ≤ maxLen) := hs
  clear h hx hy hs
  have HB0 : Hid (S2 w (mdCells m sa sn sc ga gn gc) #[.int .i64 i0, .int .i64 j0, .string s] ((w.alloc (.cells (mdCells m sa sn sc ga gn gc) 31)).alloc (.cells #[.int .i64 i0, .int .i64 j0, .string s] 33))) := S2.start w _ _
  have c0 := cell_block HB0.out.box 0 (.int .i64 m.letters) rfl; have c1 := cell_block HB0.out.box 1 (.slice sa sn sc) rfl; have c2 := cell_block HB0.out.box 2 (.slice ga gn gc) rfl; have c3 := cell_block HB0.out.box 3 (.int .i64 m.mode) rfl; have c4 := cell_block HB0.out.box 4 (.bool m.banded) rfl; have c5 := cell_block HB0.out.box 5 (.int .i64 m.lo) rfl; have c6 := cell_block HB0.out.box 6 (.int .i64 m.hi) rfl; have c7 := cell_block HB0.out.box 7 (.int .i64 m.front) rfl; have c8 := cell_block HB0.out.box 8 (.int .i64 m.back) rfl; have c9 := cell_block HB0.out.box 9 (.int .i64 m.least) rfl; have cp0 := cell_block HB0.out.p 0 (.int .i64 i0) rfl; have cp1 := cell_block HB0.out.p 1 (.int .i64 j0) rfl; have cp2 := cell_block HB0.out.p 2 (.string s) rfl
  rw [show mdCells m sa sn sc ga gn gc = #[.int .i64 m.letters, .slice sa sn sc, .slice ga gn gc, .int .i64 m.mode, .bool m.banded, .int .i64 m.lo, .int .i64 m.hi, .int .i64 m.front, .int .i64 m.back, .int .i64 m.least] from rfl]
  go_enter Try.func15, Try.ntmps15
  go_wp2_with fail
  refine (legalD_calls m sa sn sc ga gn gc xa xn xc ya yn yc xs ys i0 j0 s _ (HM.out.below HB0.out.low) (HX.out.below HB0.out.low) (HY.out.below HB0.out.low) HSz.out).mono ?_
  rintro e w1 ⟨rfl, hb⟩
  have HB : Hid (S2 w (mdCells m sa sn sc ga gn gc) #[.int .i64 i0, .int .i64 j0, .string s] w1) := HB0.out.next hb
  clear hb HB0
  clear c0 c1 c2 c3 c4 c5 c6 c7 c8 c9 cp0 cp1 cp2
  have c0 := cell_block HB.out.box 0 (.int .i64 m.letters) rfl; have c1 := cell_block HB.out.box 1 (.slice sa sn sc) rfl; have c2 := cell_block HB.out.box 2 (.slice ga gn gc) rfl; have c3 := cell_block HB.out.box 3 (.int .i64 m.mode) rfl; have c4 := cell_block HB.out.box 4 (.bool m.banded) rfl; have c5 := cell_block HB.out.box 5 (.int .i64 m.lo) rfl; have c6 := cell_block HB.out.box 6 (.int .i64 m.hi) rfl; have c7 := cell_block HB.out.box 7 (.int .i64 m.front) rfl; have c8 := cell_block HB.out.box 8 (.int .i64 m.back) rfl; have c9 := cell_block HB.out.box 9 (.int .i64 m.least) rfl; have cp0 := cell_block HB.out.p 0 (.int .i64 i0) rfl; have cp1 := cell_block HB.out.p 1 (.int .i64 j0) rfl; have cp2 := cell_block HB.out.p 2 (.string s) rfl
  obtain ⟨re, hre⟩ : ∃ re, refE m xs ys = re := ⟨_, rfl⟩
  rw [hre]
  by_cases h0 : re = 0
  · subst h0
    have HOk : Hid (FdOk m xs ys w sa sn ga gn xa xn ya yn) := fdOk_of hre HM.out HX.out HY.out
    obtain ⟨al, hal⟩ : ∃ r, allowsB m xn yn ⟨i0, j0, s.data.toList⟩ = r := ⟨_, rfl⟩
    rw [hxl, hyl, hal]
    have HA : Hid (allowsB m xn yn ⟨i0, j0, s.data.toList⟩ = al) := hal
    clear hal
    cases al
    · have HE : Hid (scE m xs ys ⟨i0, j0, s.data.toList⟩ = 111 ∧ scV m xs ys ⟨i0, j0, s.data.toList⟩ = 0) := sc_no hre (by rw [hxl, hyl]; exact HA.out)
      clear hre
      go_wp2
      go_ret2
      exact ⟨ret_two HE.out.2.symm HE.out.1.symm, HB.out.low⟩
    · have HE : Hid (scE m xs ys ⟨i0, j0, s.data.toList⟩ = 0 ∧ scV m xs ys ⟨i0, j0, s.data.toList⟩ = worthW m xs ys ⟨i0, j0, s.data.toList⟩) := sc_yes hre (by rw [hxl, hyl]; exact HA.out)
      have HL : Hid ((xn : Int) ≤ most (wid m) ∧ (yn : Int) ≤ most (wid m)) := by have := refE_most hre; rw [hxl, hyl] at this; exact this
      clear hre
      go_wp2_with fail
      refine (worthR_calls m sa sn sc ga gn gc xa xn xc ya yn yc xs ys i0 j0 s _ (HOk.out.below HB.out.low) HL.out HSz.out HA.out).mono ?_
      rintro e w3 ⟨rfl, hb3⟩
      have HB3 : Hid (Below w.heap.size w w3) := HB.out.low.trans (hb3.mono HB.out.low.size)
      clear hb3
      go_wp2
      go_ret2
      exact ⟨ret_two HE.out.2.symm HE.out.1.symm, HB3.out⟩
  · have h0b : (re != 0) = true := by simpa using h0
    have HE : Hid (scE m xs ys ⟨i0, j0, s.data.toList⟩ = re ∧ scV m xs ys ⟨i0, j0, s.data.toList⟩ = 0) := by
      have := sc_err (m := m) (xs := xs) (ys := ys) (p := ⟨i0, j0, s.data.toList⟩) (by rw [hre]; exact h0)
      rw [hre] at this
      exact this
    clear hre
    go_wp2
    go_ret2
    exact ⟨ret_two HE.out.2.symm HE.out.1.symm, HB.out.low⟩
end Go.Proofs.Ytegndeefddlccaa
