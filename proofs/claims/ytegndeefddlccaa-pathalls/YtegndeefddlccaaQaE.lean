/-
  The document's own list of all paths.
-/
import Derived.Test.YtegndeefddlccaaQaD
import Derived.Test.YtegndeefddlccaaPqA
namespace Go.Proofs.Ytegndeefddlccaa
open Go.RowKit

def AllRPost (m : Md) (xs ys : List Int) (w : World) (e : Ending) (w' : World) : Prop :=
  ∃ v, e = .returned (.tuple #[v, .int .i64 (shE m xs ys)]) ∧ Below w.heap.size w w' ∧ (shE m xs ys = 0 → ∃ ao cap, v = .slice ao (pathsB m xs.length ys.length).length cap ∧ PtsAt w' ao (pathsB m xs.length ys.length).length (pathsB m xs.length ys.length) ∧ ∀ ad, ao = some ad → w.heap.size ≤ ad.block) ∧ (shE m xs ys ≠ 0 → v = .slice none 0 0)
def cellL (m : Md) (nx ny i j : Nat) : List Pt := if hasB m nx ny (i : Int) (j : Int) && beginB m (i : Int) (j : Int) then goesL m nx ny (nx + ny + 1) ⟨i, j, []⟩ (i : Int) (j : Int) else []
def rowL (m : Md) (nx ny i : Nat) : List Pt := (List.range (ny + 1)).flatMap (cellL m nx ny i)
theorem finder_rows (m : Md) (nx ny : Nat) : finderL m nx ny = (List.range (nx + 1)).flatMap (rowL m nx ny) := rfl
theorem range_snoc {α : Type} (f : Nat → List α) (k : Nat) : (List.range (k + 1)).flatMap f = (List.range k).flatMap f ++ f k := by
  rw [List.range_succ, List.flatMap_append]
  simp
theorem flatR_few {α : Type} (f : Nat → List α) (b : Nat) (h : ∀ k, (f k).length ≤ b) : ∀ k, ((List.range k).flatMap f).length ≤ k * b
  | 0 => by simp
  | k + 1 => by
    rw [range_snoc, List.length_append, Nat.add_mul, Nat.one_mul]
    have := flatR_few f b h k
    have := h k
    omega
theorem cell_few {m : Md} {nx ny : Nat} (h : nx + ny ≤ 8) (i j : Nat) : (cellL m nx ny i j).length ≤ 262144 := by
  unfold cellL
  split
  · refine Nat.le_trans (goes_few m nx ny _ _ _ _) ?_
    exact Nat.le_trans (Nat.pow_le_pow_right (by decide) (show nx + ny + 1 ≤ 9 by omega)) (by decide)
  · simp
theorem row_few {m : Md} {nx ny : Nat} (h : nx + ny ≤ 8) (i : Nat) : (rowL m nx ny i).length ≤ 2359296 := by
  refine Nat.le_trans (flatR_few _ 262144 (fun k => cell_few (m := m) h i k) (ny + 1)) ?_
  have : (ny + 1) * 262144 ≤ 9 * 262144 := Nat.mul_le_mul_right _ (by omega)
  omega
theorem finder_cols {m : Md} {nx ny : Nat} (h : nx + ny ≤ 8) : ∀ p ∈ finderL m nx ny, p.cols.length ≤ 1000000 := by
  intro p hp
  have ha := finder_mem.1 hp
  have := (pathsB_ok (paths_mem.2 ha)).2
  omega
structure AlSt (m : Md) (d : Fd12) (fb : Nat) (w w3 : World) (mc : Array Value) (L : List Pt) (va : Option Addr) (vc : Nat) (wr : World) : Prop where
  fn : FnAt d fb (fb + 1) L va vc wr
  bel : Below fb w3 wr
  low : Below w.heap.size w wr
  box : wr.heap[w.heap.size]? = some (.cells mc 31 (0, 0))
section
variable {m : Md} {d : Fd12} {fb : Nat} {w w3 : World} {mc : Array Value} {L : List Pt} {va : Option Addr} {vc : Nat} {wr : World}
theorem AlSt.next (h : AlSt m d fb w w3 mc L va vc wr) {w2 : World} (hb : Below wr.heap.size wr w2) : AlSt m d fb w w3 mc L va vc w2 :=
  ⟨h.fn.next hb, h.bel.trans (hb.mono (Nat.le_of_lt h.fn.fb_lt)), h.low.trans (hb.mono h.low.size), by rw [hb.block _ (Array.getElem?_eq_some_iff.1 h.box).1]; exact h.box⟩
theorem AlSt.go (h : AlSt m d fb w w3 mc L va vc wr) {L' : List Pt} {va' : Option Addr} {vc' : Nat} {w2 : World} (hfn : FnAt d fb (fb + 1) L' va' vc' w2) (hto : FnTo fb va va' wr w2) (hf : w.heap.size < fb) : AlSt m d fb w w3 mc L' va' vc' w2 :=
  ⟨hfn, h.bel.trans hto.bel, h.low.trans (hto.bel.mono (Nat.le_of_lt hf)), by rw [hto.bel.block _ hf]; exact h.box⟩
end
theorem fd_start {w3 : World} (m : Md) (sa : Option Addr) (sn sc : Nat) (ga : Option Addr) (gn gc : Nat) (xa : Option Addr) (xn xc : Nat) (ya : Option Addr) (yn yc : Nat) : FnAt (⟨m, sa, sn, sc, ga, gn, gc, xa, xn, xc, ya, yn, yc⟩ : Fd12) w3.heap.size (w3.heap.size + 1) [] none 0 (w3.alloc (.cells #[.int .i64 m.letters, .slice sa sn sc, .slice ga gn gc, .int .i64 m.mode, .bool m.banded, .int .i64 m.lo, .int .i64 m.hi, .int .i64 m.front, .int .i64 m.back, .int .i64 m.least, .slice xa xn xc, .slice ya yn yc, .slice none 0 0] 67)) :=
  ⟨hp_at rfl, World.ownsRow_nil _ _ _ _, Nat.lt_succ_self _, by simp⟩
set_option maxRecDepth 20000 in
set_option maxHeartbeats 4000000 in
theorem allR_calls (m : Md) (sa : Option Addr) (sn sc : Nat) (ga : Option Addr) (gn gc : Nat) (xa : Option Addr) (xn xc : Nat) (ya : Option Addr) (yn yc : Nat) (xs ys : List Int) (w : World) (h : MdAt w m sa sn ga gn) (hx : IntsAt w xa xn xs) (hy : IntsAt w ya yn ys) :
    Calls Try.prog 17 #[.agg (mdCells m sa sn sc ga gn gc), .slice xa xn xc, .slice ya yn yc] w fun e w' => AllRPost m xs ys w e w' := by
  have hxl := hx.length
  have hyl := hy.length
  have hxm := hx.short
  have hym := hy.short
  unfold maxLen at hxm hym
  have HM : Hid (MdAt w m sa sn ga gn) := h
  have CF : Hid (∀ W, Below w.heap.size w W → Calls Try.prog 28 #[.agg #[.int .i64 m.letters, .slice sa sn sc, .slice ga gn gc, .int .i64 m.mode, .bool m.banded, .int .i64 m.lo, .int .i64 m.hi, .int .i64 m.front, .int .i64 m.back, .int .i64 m.least], .slice xa xn xc, .slice ya yn yc] W fun e w' => e = .returned (.int .i64 (refE m xs ys)) ∧ Below W.heap.size W w') := fun W hb => refused_calls m sa sn sc ga gn gc xa xn xc ya yn yc xs ys W (h.below hb) (hx.below hb) (hy.below hb)
  have HB0 : Hid (B1 w (mdCells m sa sn sc ga gn gc) (w.alloc (.cells (mdCells m sa sn sc ga gn gc) 31))) := ⟨bl1 _ _, hp_at rfl⟩
  clear h hx hy
  rw [show (mdCells m sa sn sc ga gn gc) = #[.int .i64 m.letters, .slice sa sn sc, .slice ga gn gc, .int .i64 m.mode, .bool m.banded, .int .i64 m.lo, .int .i64 m.hi, .int .i64 m.front, .int .i64 m.back, .int .i64 m.least] from rfl]
  go_enter Try.func17, Try.ntmps17
  go_wp2_with fail
  refine (CF.out _ HB0.out.low).mono ?_
  rintro e w2 ⟨rfl, hb2⟩
  have HB2 : Hid (B1 w (mdCells m sa sn sc ga gn gc) w2) := HB0.out.next hb2
  clear hb2 HB0 CF
  have c0 := cell_block HB2.out.box 0 (.int .i64 m.letters) rfl; have c1 := cell_block HB2.out.box 1 (.slice sa sn sc) rfl; have c2 := cell_block HB2.out.box 2 (.slice ga gn gc) rfl; have c3 := cell_block HB2.out.box 3 (.int .i64 m.mode) rfl; have c4 := cell_block HB2.out.box 4 (.bool m.banded) rfl; have c5 := cell_block HB2.out.box 5 (.int .i64 m.lo) rfl; have c6 := cell_block HB2.out.box 6 (.int .i64 m.hi) rfl; have c7 := cell_block HB2.out.box 7 (.int .i64 m.front) rfl; have c8 := cell_block HB2.out.box 8 (.int .i64 m.back) rfl; have c9 := cell_block HB2.out.box 9 (.int .i64 m.least) rfl
  by_cases hr : refE m xs ys = 0
  case neg =>
    have HE : Hid (shE m xs ys = refE m xs ys ∧ refE m xs ys ≠ 0) := ⟨shE_err hr, hr⟩
    generalize refE m xs ys = q at *
    have e1 : (q != 0) = true := by simpa using hr
    clear hr
    go_wp2
    go_ret2
    exact ⟨.slice none 0 0, (by rw [HE.out.1]; rfl), HB2.out.low, fun h => absurd (HE.out.1.symm.trans h) HE.out.2, fun _ => rfl⟩
  have HR : Hid (refE m xs ys = 0) := hr
  rw [hr]
  have e1 : ((0 : Int) != 0) = false := rfl
  have hx65 : xn ≤ 65536 := by have := (refE_len HR.out).1; omega
  have hy65 : yn ≤ 65536 := by have := (refE_len HR.out).2; omega
  clear hr
  by_cases h8 : xs.length + ys.length ≤ 8
  case neg =>
    have HE : Hid (shE m xs ys = 2) := shE_long HR.out (by omega)
    have h9 : 8 < (xn : Int) + (yn : Int) := by omega
    clear h8 hxl hyl
    go_wp2
    go_ret2
    exact ⟨.slice none 0 0, (by rw [HE.out]; rfl), HB2.out.low, fun h => (by rw [HE.out] at h; cases h), fun _ => rfl⟩
  have HE : Hid (shE m xs ys = 0) := shE_ok HR.out h8
  have hxy8 : xn + yn ≤ 8 := by omega
  have h9 : ¬ 8 < (xn : Int) + (yn : Int) := by omega
  have HNx : Hid (xs.length = xn ∧ ys.length = yn) := ⟨hxl, hyl⟩
  clear h8 hxl hyl HR hxm hym
  have HD : Hid (FdGood (⟨m, sa, sn, sc, ga, gn, gc, xa, xn, xc, ya, yn, yc⟩ : Fd12)) := ⟨HM.out.gaps.length, hxy8⟩
  have HG0 : Hid (AlSt m (⟨m, sa, sn, sc, ga, gn, gc, xa, xn, xc, ya, yn, yc⟩ : Fd12) w2.heap.size w w2 (mdCells m sa sn sc ga gn gc) [] none 0 (w2.alloc (.cells #[.int .i64 m.letters, .slice sa sn sc, .slice ga gn gc, .int .i64 m.mode, .bool m.banded, .int .i64 m.lo, .int .i64 m.hi, .int .i64 m.front, .int .i64 m.back, .int .i64 m.least, .slice xa xn xc, .slice ya yn yc, .slice none 0 0] 67))) := by
    have hlt := (Array.getElem?_eq_some_iff.1 HB2.out.box).1
    have hn := HB2.out.next (bl1 w2 (.cells #[.int .i64 m.letters, .slice sa sn sc, .slice ga gn gc, .int .i64 m.mode, .bool m.banded, .int .i64 m.lo, .int .i64 m.hi, .int .i64 m.front, .int .i64 m.back, .int .i64 m.least, .slice xa xn xc, .slice ya yn yc, .slice none 0 0] 67))
    exact ⟨fd_start m sa sn sc ga gn gc xa xn xc ya yn yc, bl1 _ _, hn.low, hn.box⟩
  have hfw : w.heap.size < w2.heap.size := (Array.getElem?_eq_some_iff.1 HB2.out.box).1
  have HMC : Hid (∀ L va vc W, AlSt m (⟨m, sa, sn, sc, ga, gn, gc, xa, xn, xc, ya, yn, yc⟩ : Fd12) w2.heap.size w w2 (mdCells m sa sn sc ga gn gc) L va vc W → W.cell? ⟨w.heap.size, 0, none⟩ = some (.int .i64 m.letters) ∧ W.cell? ⟨w.heap.size, 1, none⟩ = some (.slice sa sn sc) ∧ W.cell? ⟨w.heap.size, 2, none⟩ = some (.slice ga gn gc) ∧ W.cell? ⟨w.heap.size, 3, none⟩ = some (.int .i64 m.mode) ∧ W.cell? ⟨w.heap.size, 4, none⟩ = some (.bool m.banded) ∧ W.cell? ⟨w.heap.size, 5, none⟩ = some (.int .i64 m.lo) ∧ W.cell? ⟨w.heap.size, 6, none⟩ = some (.int .i64 m.hi) ∧ W.cell? ⟨w.heap.size, 7, none⟩ = some (.int .i64 m.front) ∧ W.cell? ⟨w.heap.size, 8, none⟩ = some (.int .i64 m.back) ∧ W.cell? ⟨w.heap.size, 9, none⟩ = some (.int .i64 m.least)) := fun L va vc W hW => ⟨cell_block hW.box 0 _ rfl, cell_block hW.box 1 _ rfl, cell_block hW.box 2 _ rfl, cell_block hW.box 3 _ rfl, cell_block hW.box 4 _ rfl, cell_block hW.box 5 _ rfl, cell_block hW.box 6 _ rfl, cell_block hW.box 7 _ rfl, cell_block hW.box 8 _ rfl, cell_block hW.box 9 _ rfl⟩
  clear HB2
  go_wp2
  clear c0 c1 c2 c3 c4 c5 c6 c7 c8 c9
  go_loopw [10] (fun i wr => ∃ (x : Nat) (va : Option Addr) (vc : Nat), x ≤ xn + 1 ∧ i = .int .i64 x ∧ AlSt m (⟨m, sa, sn, sc, ga, gn, gc, xa, xn, xc, ya, yn, yc⟩ : Fd12) w2.heap.size w w2 (mdCells m sa sn sc ga gn gc) ((List.range x).flatMap (rowL m xn yn)) va vc wr) (fun i _ => xn + 1 - (intOf i).toNat)
  case atStart => exact ⟨0, none, 0, Nat.zero_le _, rfl, HG0.out⟩
  case round =>
    clear HG0
    obtain ⟨x, va, vc, hx, rfl, hst⟩ := hrel
    obtain ⟨L1, hL1⟩ : ∃ L1, (List.range x).flatMap (rowL m xn yn) = L1 := ⟨_, rfl⟩
    rw [hL1] at hst
    have HL1 : Hid ((List.range x).flatMap (rowL m xn yn) = L1) := hL1
    have hl1 : L1.length ≤ 30000000 := by
      rw [← hL1]
      refine Nat.le_trans (flatR_few _ 2359296 (fun k => row_few (m := m) hxy8 k) x) ?_
      have : x * 2359296 ≤ 9 * 2359296 := Nat.mul_le_mul_right _ (by omega)
      omega
    have HG1 : Hid (AlSt m (⟨m, sa, sn, sc, ga, gn, gc, xa, xn, xc, ya, yn, yc⟩ : Fd12) w2.heap.size w w2 (mdCells m sa sn sc ga gn gc) L1 va vc wr) := hst
    clear hst hL1
    by_cases hxl : x ≤ xn
    · have d1 : decide ((x : Int) ≤ (xn : Int)) = true := by simp; omega
      go_wp2
      go_loopw [11] (fun j wr => ∃ (y : Nat) (va : Option Addr) (vc : Nat), y ≤ yn + 1 ∧ j = .int .i64 y ∧ AlSt m (⟨m, sa, sn, sc, ga, gn, gc, xa, xn, xc, ya, yn, yc⟩ : Fd12) w2.heap.size w w2 (mdCells m sa sn sc ga gn gc) (L1 ++ (List.range y).flatMap (cellL m xn yn x)) va vc wr) (fun j _ => yn + 1 - (intOf j).toNat)
      case atStart => exact ⟨0, va, vc, Nat.zero_le _, rfl, by simpa using HG1.out⟩
      case round =>
        clear HG1
        obtain ⟨y, va, vc, hy, rfl, hst⟩ := hrel
        obtain ⟨L2, hL2⟩ : ∃ L2, L1 ++ (List.range y).flatMap (cellL m xn yn x) = L2 := ⟨_, rfl⟩
        rw [hL2] at hst
        have HL2 : Hid (L1 ++ (List.range y).flatMap (cellL m xn yn x) = L2) := hL2
        have HG2 : Hid (AlSt m (⟨m, sa, sn, sc, ga, gn, gc, xa, xn, xc, ya, yn, yc⟩ : Fd12) w2.heap.size w w2 (mdCells m sa sn sc ga gn gc) L2 va vc wr) := hst
        have hl2 : L2.length + 4 ^ (xn + yn + 1) ≤ 1000000000 := by
          have h1 := flatR_few _ 262144 (fun k => cell_few (m := m) hxy8 x k) y
          have h2 : y * 262144 ≤ 9 * 262144 := Nat.mul_le_mul_right _ (by omega)
          have h3 : 4 ^ (xn + yn + 1) ≤ 4 ^ 9 := Nat.pow_le_pow_right (by decide) (by omega)
          rw [← hL2, List.length_append]
          omega
        clear hst hL2
        by_cases hyl : y ≤ yn
        · have d2 : decide ((y : Int) ≤ (yn : Int)) = true := by simp; omega
          have HSn : Hid (L1 ++ (List.range (y + 1)).flatMap (cellL m xn yn x) = L2 ++ cellL m xn yn x y) := by
            show _ = _
            rw [range_snoc, ← HL2.out, List.append_assoc]
          obtain ⟨H1, hH1⟩ : ∃ H, hasB m xn yn (x : Int) (y : Int) = H := ⟨_, rfl⟩
          obtain ⟨H2, hH2⟩ : ∃ H, beginB m (x : Int) (y : Int) = H := ⟨_, rfl⟩
          have HC : Hid (cellL m xn yn x y = if H1 && H2 then goesL m xn yn (xn + yn + 1) ⟨x, y, []⟩ (x : Int) (y : Int) else []) := by show _ = _; unfold cellL; rw [hH1, hH2]
          have C1 : Hid (∀ W, Calls Try.prog 34 #[.agg #[.int .i64 m.letters, .slice sa sn sc, .slice ga gn gc, .int .i64 m.mode, .bool m.banded, .int .i64 m.lo, .int .i64 m.hi, .int .i64 m.front, .int .i64 m.back, .int .i64 m.least], .int .i64 (xn : Int), .int .i64 (yn : Int), .int .i64 (x : Int), .int .i64 (y : Int)] W fun e w' => e = .returned (.bool H1) ∧ Below W.heap.size W w') := fun W => by
            have := counts_calls m sa sn sc ga gn gc xn yn (x : Int) (y : Int) W (by unfold maxLen; omega) (by unfold maxLen; omega)
            rw [hH1] at this
            exact this
          have C2 : Hid (∀ W, Calls Try.prog 35 #[.agg #[.int .i64 m.letters, .slice sa sn sc, .slice ga gn gc, .int .i64 m.mode, .bool m.banded, .int .i64 m.lo, .int .i64 m.hi, .int .i64 m.front, .int .i64 m.back, .int .i64 m.least], .int .i64 (x : Int), .int .i64 (y : Int)] W fun e w' => e = .returned (.bool H2) ∧ Below W.heap.size W w') := fun W => by
            have := beginsR_calls m sa sn sc ga gn gc (x : Int) (y : Int) W
            rw [hH2] at this
            exact this
          clear hH1 hH2 HL2
          obtain ⟨c0, c1, c2, c3, c4, c5, c6, c7, c8, c9⟩ := HMC.out _ _ _ _ HG2.out
          go_wp2_with fail
          refine (C1.out _).mono ?_
          rintro e w5 ⟨rfl, hb5⟩
          have HG5 : Hid (AlSt m (⟨m, sa, sn, sc, ga, gn, gc, xa, xn, xc, ya, yn, yc⟩ : Fd12) w2.heap.size w w2 (mdCells m sa sn sc ga gn gc) L2 va vc w5) := HG2.out.next hb5
          clear hb5 HG2 C1 c0 c1 c2 c3 c4 c5 c6 c7 c8 c9
          obtain ⟨c0, c1, c2, c3, c4, c5, c6, c7, c8, c9⟩ := HMC.out _ _ _ _ HG5.out
          go_wp2_with fail
          refine (C2.out _).mono ?_
          rintro e w6 ⟨rfl, hb6⟩
          have HG6 : Hid (AlSt m (⟨m, sa, sn, sc, ga, gn, gc, xa, xn, xc, ya, yn, yc⟩ : Fd12) w2.heap.size w w2 (mdCells m sa sn sc ga gn gc) L2 va vc w6) := HG5.out.next hb6
          clear hb6 HG5 C2 c0 c1 c2 c3 c4 c5 c6 c7 c8 c9
          by_cases hHH : (H1 && H2) = true
          · obtain ⟨rfl, rfl⟩ : H1 = true ∧ H2 = true := by simpa using hHH
            clear hHH
            have HC2 : Hid (cellL m xn yn x y = goesL m xn yn (xn + yn + 1) ⟨x, y, []⟩ (x : Int) (y : Int)) := HC.out
            clear HC
            have CG : Hid (Calls Try.prog 36 #[.pointer (some ⟨w2.heap.size, 0, none⟩), .agg #[.int .i64 (x : Int), .int .i64 (y : Int), .string (bs [])], .int .i64 (x : Int), .int .i64 (y : Int)] w6 fun e w' => GoPost (⟨m, sa, sn, sc, ga, gn, gc, xa, xn, xc, ya, yn, yc⟩ : Fd12) w2.heap.size (w2.heap.size + 1) (L2 ++ goesL m xn yn (xn + yn + 1) ⟨x, y, []⟩ (x : Int) (y : Int)) va w6 e w') :=
              goes_calls (⟨m, sa, sn, sc, ga, gn, gc, xa, xn, xc, ya, yn, yc⟩ : Fd12) HD.out w2.heap.size (w2.heap.size + 1) (xn + yn + 1) ⟨x, y, []⟩ x y L2 va vc w6 HG6.out.fn (by omega) (by show (x : Int) ≤ (xn : Int); omega) (by omega) (by show (y : Int) ≤ (yn : Int); omega) (by show (xn : Int) + (yn : Int) + 1 ≤ ((xn + yn + 1 : Nat) : Int) + x + y; omega) (by show 0 + (xn + yn + 1) ≤ 100; omega) hl2
            go_wp2_with fail
            refine CG.out.mono ?_
            rintro e w7 ⟨rfl, va', vc', hfn, hto⟩
            have HG7 : Hid (AlSt m (⟨m, sa, sn, sc, ga, gn, gc, xa, xn, xc, ya, yn, yc⟩ : Fd12) w2.heap.size w w2 (mdCells m sa sn sc ga gn gc) (L2 ++ goesL m xn yn (xn + yn + 1) ⟨x, y, []⟩ (x : Int) (y : Int)) va' vc' w7) := HG6.out.go hfn hto hfw
            clear hfn hto HG6 CG
            go_wp2
            go_roundw
            case rel => exact ⟨y + 1, va', vc', by omega, by go_num, by rw [HSn.out, HC2.out]; exact HG7.out⟩
            case measure => simp [intOf]; omega
          · have HC2 : Hid (cellL m xn yn x y = []) := by show _ = _; rw [HC.out, if_neg hHH]
            clear HC
            cases H1 with
            | false =>
              clear hHH
              go_wp2
              go_roundw
              case rel => exact ⟨y + 1, va, vc, by omega, by go_num, by rw [HSn.out, HC2.out, List.append_nil]; exact HG6.out⟩
              case measure => simp [intOf]; omega
            | true =>
              obtain rfl : H2 = false := by cases H2 with
                | false => rfl
                | true => exact absurd rfl hHH
              clear hHH
              go_wp2
              go_roundw
              case rel => exact ⟨y + 1, va, vc, by omega, by go_num, by rw [HSn.out, HC2.out, List.append_nil]; exact HG6.out⟩
              case measure => simp [intOf]; omega
        · have d2 : decide ((y : Int) ≤ (yn : Int)) = false := by simp; omega
          have HR : Hid ((List.range (x + 1)).flatMap (rowL m xn yn) = L2) := by
            show _ = _
            have hye : y = yn + 1 := by omega
            rw [range_snoc, HL1.out, ← HL2.out, hye]
            rfl
          clear HL2
          go_wp2
          go_roundw
          case rel => exact ⟨x + 1, va, vc, by omega, by go_num, by rw [HR.out]; exact HG2.out⟩
          case measure => simp [intOf]; omega
    · have d1 : decide ((x : Int) ≤ (xn : Int)) = false := by simp; omega
      have HF : Hid (L1 = finderL m xn yn) := by
        show _ = _
        have hxe : x = xn + 1 := by omega
        rw [← HL1.out, hxe]
        rfl
      obtain ⟨N, hN⟩ : ∃ N, L1.length = N := ⟨_, rfl⟩
      have hpo := pts_own HG1.out.fn.row rfl (by omega) (by rw [HF.out]; exact finder_cols hxy8)
      have c12 := cell_block HG1.out.fn.box 12 (.slice va L1.length vc) rfl
      rw [hN] at hpo c12 hl1
      have HSt : Hid (sortF N L1 = pathsB m xn yn) := by
        show _ = _
        rw [HF.out]
        exact sorted_paths (by omega) (by omega) N (by rw [← HF.out, hN]; omega)
      have HPl : Hid (N = (pathsB m xn yn).length) := by
        show _ = _
        rw [← HSt.out, sort_len, hN]
      have CS : Hid (Calls Try.prog 37 #[.slice va N vc] wr fun e w' => SortPost va N (pathsB m xn yn) wr e w') := by
        have := sorted_calls N va N vc L1 wr hpo.1 hpo.2 (by omega)
        rw [HSt.out] at this
        exact this
      clear HF hN hpo HSt HL1
      go_wp2_with fail
      refine CS.out.mono ?_
      rintro e w9 ⟨ao, cap, rfl, hcap, hpt, hb9, hfr⟩
      have HFin : Hid (AllRPost m xs ys w (.returned (.tuple #[.slice ao N cap, .int .i64 0])) w9) := by
        refine ⟨.slice ao N cap, (by rw [HE.out]), (HG1.out.next hb9).low, fun _ => ?_, fun h => absurd HE.out h⟩
        rw [HNx.out.1, HNx.out.2]
        rw [HPl.out] at hpt ⊢
        refine ⟨ao, cap, rfl, hpt, fun ad e => ?_⟩
        rcases hfr with rfl | hfr
        · have := (HG1.out.fn.own_lt ad.block (by rw [e]; rfl)).1
          omega
        · have := hfr ad e
          have := HG1.out.low.size
          omega
      clear hpt hb9 HG1 HPl hfr
      go_wp2
      go_ret2
      exact HFin.out

end Go.Proofs.Ytegndeefddlccaa
