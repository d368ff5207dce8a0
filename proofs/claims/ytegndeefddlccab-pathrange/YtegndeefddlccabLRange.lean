/-
  Proved: whatever model and sequences are handed in, PathRange answers true: each legal path's score lies in the range of its sequences' lengths, the greatest is Best's, and the paths stand in their order; no condition but that what is handed in can be read.
-/
import Derived.Test.YtegndeefddlccabPrC
import Derived.Test.YtegndeefddlccabPxO
import Derived.Test.YtegndeefddlccabRows
import Derived.ProofKit
import Derived.OpenShut
import Derived.ShutString
import Derived.ChangeOld
import Derived.Below
import Derived.BigRegion
import Derived.BigQuiet
import Derived.Deep.RegionHeld3
namespace Go.Proofs.Ytegndeefddlccab
open Go.RowKit

structure B2 (w : World) (mc : Array Value) (wr : World) : Prop where
  low : Below w.heap.size w wr
  box : wr.heap[w.heap.size]? = some (.cells mc 25 (0, 0))
theorem B2.next {w : World} {mc : Array Value} {wr w2 : World} (h : B2 w mc wr) (hb : Below wr.heap.size wr w2) : B2 w mc w2 :=
  ⟨h.low.trans (hb.mono h.low.size), (Fr.of_below (O := fun _ => False) hb).heap h.box (fun h => h)⟩
theorem shape_rg {w : World} {base : Nat} {e : TypeId} {size : Nat} {v : Value} {n : Nat} {xs : List Value} (h : w.ownsRow base e size v n xs) : ∃ ao cap, v = .slice ao n cap := by
  rcases h.2 with ⟨hv, h0⟩ | ⟨g, cap, cur, hv, _⟩
  · subst h0; exact ⟨none, 0, hv⟩
  · exact ⟨_, cap, hv⟩
set_option maxRecDepth 20000 in
set_option maxHeartbeats 2000000 in
theorem range_err (m : Md) (sa : Option Addr) (sn sc : Nat) (ga : Option Addr) (gn gc : Nat) (xa : Option Addr) (xn xc : Nat) (xs : List Int) (ya : Option Addr) (yn yc : Nat) (ys : List Int) (w : World) (h : MdAt w m sa sn ga gn) (hx : IntsAt w xa xn xs) (hy : IntsAt w ya yn ys) (he : shE m xs ys ≠ 0) :
    Calls Try.prog 3 #[.agg (mdCells m sa sn sc ga gn gc), .slice xa xn xc, .slice ya yn yc] w fun e w' => e = .returned (.bool true) ∧ Below w.heap.size w w' := by
  have HM : Hid (MdAt w m sa sn ga gn) := h
  have HX : Hid (IntsAt w xa xn xs) := hx
  have HY : Hid (IntsAt w ya yn ys) := hy
  have hxl := hx.length
  have hyl := hy.length
  have HB0 : Hid (B2 w (mdCells m sa sn sc ga gn gc) (w.alloc (.cells (mdCells m sa sn sc ga gn gc) 25))) := ⟨bl1 _ _, hp_at rfl⟩
  clear h hx hy
  rw [show (mdCells m sa sn sc ga gn gc) = #[.int .i64 m.letters, .slice sa sn sc, .slice ga gn gc, .int .i64 m.mode, .bool m.banded, .int .i64 m.lo, .int .i64 m.hi, .int .i64 m.front, .int .i64 m.back, .int .i64 m.least] from rfl]
  go_enter Try.func3, Try.ntmps3
  go_wp2_with fail
  refine (awake_calls _).mono ?_
  rintro e w1 ⟨rfl, hb1⟩
  have HB1 : Hid (B2 w (mdCells m sa sn sc ga gn gc) w1) := HB0.out.next hb1
  clear hb1 HB0
  have c0 := cell_block HB1.out.box 0 (.int .i64 m.letters) rfl; have c1 := cell_block HB1.out.box 1 (.slice sa sn sc) rfl; have c2 := cell_block HB1.out.box 2 (.slice ga gn gc) rfl; have c3 := cell_block HB1.out.box 3 (.int .i64 m.mode) rfl; have c4 := cell_block HB1.out.box 4 (.bool m.banded) rfl; have c5 := cell_block HB1.out.box 5 (.int .i64 m.lo) rfl; have c6 := cell_block HB1.out.box 6 (.int .i64 m.hi) rfl; have c7 := cell_block HB1.out.box 7 (.int .i64 m.front) rfl; have c8 := cell_block HB1.out.box 8 (.int .i64 m.back) rfl; have c9 := cell_block HB1.out.box 9 (.int .i64 m.least) rfl
  go_wp2_with fail
  refine (all_calls m sa sn sc ga gn gc xa xn xc ya yn yc xs ys w1 (HM.out.below HB1.out.low) (HX.out.below HB1.out.low) (HY.out.below HB1.out.low)).mono ?_
  rintro e w2 ⟨v, rfl, hb2, hown, hnil⟩
  have HB2 : Hid (B2 w (mdCells m sa sn sc ga gn gc) w2) := HB1.out.next hb2
  clear hb2 c0 c1 c2 c3 c4 c5 c6 c7 c8 c9
  have c0 := cell_block HB2.out.box 0 (.int .i64 m.letters) rfl; have c1 := cell_block HB2.out.box 1 (.slice sa sn sc) rfl; have c2 := cell_block HB2.out.box 2 (.slice ga gn gc) rfl; have c3 := cell_block HB2.out.box 3 (.int .i64 m.mode) rfl; have c4 := cell_block HB2.out.box 4 (.bool m.banded) rfl; have c5 := cell_block HB2.out.box 5 (.int .i64 m.lo) rfl; have c6 := cell_block HB2.out.box 6 (.int .i64 m.hi) rfl; have c7 := cell_block HB2.out.box 7 (.int .i64 m.front) rfl; have c8 := cell_block HB2.out.box 8 (.int .i64 m.back) rfl; have c9 := cell_block HB2.out.box 9 (.int .i64 m.least) rfl
  obtain rfl : v = .slice none 0 0 := hnil he
  have HE : Hid (bsE m xs ys = shE m xs ys) := (bs_err he).1
  clear hown hnil
  go_wp2_with fail
  refine (best_calls m sa sn sc ga gn gc xa xn xc ya yn yc xs ys w2 (HM.out.below HB2.out.low) (HX.out.below HB2.out.low) (HY.out.below HB2.out.low)).mono ?_
  rintro e w3 ⟨rfl, hb3⟩
  have HB3 : Hid (B2 w (mdCells m sa sn sc ga gn gc) w3) := HB2.out.next hb3
  clear hb3 HB2 c0 c1 c2 c3 c4 c5 c6 c7 c8 c9
  rw [HE.out]
  have HN : Hid (shE m xs ys ≠ 0) := he
  obtain ⟨q, hq⟩ : ∃ q, shE m xs ys = q := ⟨_, rfl⟩
  rw [hq] at he ⊢
  have e1 : (q != 0) = true := by simpa using he
  have e2 : (q == q) = true := by simp
  obtain ⟨r, hr⟩ : ∃ r, bsV m xs ys = r := ⟨_, rfl⟩
  rw [hr]
  rw [show fnC r = #[.int .i64 r.1, .int .i64 r.2.i, .int .i64 r.2.j, .string (bs r.2.cols)] from rfl]
  clear hq hr HE HN he
  go_wp2
  go_ret
  exact ⟨rfl, below_al HB3.out.low _⟩
set_option maxRecDepth 20000 in
set_option maxHeartbeats 2000000 in
theorem range_none (m : Md) (sa : Option Addr) (sn sc : Nat) (ga : Option Addr) (gn gc : Nat) (xa : Option Addr) (xn xc : Nat) (xs : List Int) (ya : Option Addr) (yn yc : Nat) (ys : List Int) (w : World) (h : MdAt w m sa sn ga gn) (hx : IntsAt w xa xn xs) (hy : IntsAt w ya yn ys) (he : shE m xs ys = 0) (hb : bestL m xs ys (pathsB m xs.length ys.length) = none) :
    Calls Try.prog 3 #[.agg (mdCells m sa sn sc ga gn gc), .slice xa xn xc, .slice ya yn yc] w fun e w' => e = .returned (.bool true) ∧ Below w.heap.size w w' := by
  have HP : Hid (pathsB m xs.length ys.length = []) := by
    have hl := shE_len he
    rcases best_first m xs ys _ _ rfl (paths_sorted (m := m) (nx := xs.length) (ny := ys.length) (by omega) (by omega)) with ⟨e, e2⟩ | ⟨r2, e, _⟩
    · exact e
    · rw [hb] at e; cases e
  have HR : Hid (ranE m xs.length ys.length = 0) := ran_good he
  have HBs : Hid (bsE m xs ys = 130 ∧ bsV m xs ys = fn0) := bs_none he hb
  clear hb
  have HM : Hid (MdAt w m sa sn ga gn) := h
  have HX : Hid (IntsAt w xa xn xs) := hx
  have HY : Hid (IntsAt w ya yn ys) := hy
  have hxl := hx.length
  have hyl := hy.length
  have HB0 : Hid (B2 w (mdCells m sa sn sc ga gn gc) (w.alloc (.cells (mdCells m sa sn sc ga gn gc) 25))) := ⟨bl1 _ _, hp_at rfl⟩
  clear h hx hy
  rw [show (mdCells m sa sn sc ga gn gc) = #[.int .i64 m.letters, .slice sa sn sc, .slice ga gn gc, .int .i64 m.mode, .bool m.banded, .int .i64 m.lo, .int .i64 m.hi, .int .i64 m.front, .int .i64 m.back, .int .i64 m.least] from rfl]
  go_enter Try.func3, Try.ntmps3
  go_wp2_with fail
  refine (awake_calls _).mono ?_
  rintro e w1 ⟨rfl, hb1⟩
  have HB1 : Hid (B2 w (mdCells m sa sn sc ga gn gc) w1) := HB0.out.next hb1
  clear hb1 HB0
  have c0 := cell_block HB1.out.box 0 (.int .i64 m.letters) rfl; have c1 := cell_block HB1.out.box 1 (.slice sa sn sc) rfl; have c2 := cell_block HB1.out.box 2 (.slice ga gn gc) rfl; have c3 := cell_block HB1.out.box 3 (.int .i64 m.mode) rfl; have c4 := cell_block HB1.out.box 4 (.bool m.banded) rfl; have c5 := cell_block HB1.out.box 5 (.int .i64 m.lo) rfl; have c6 := cell_block HB1.out.box 6 (.int .i64 m.hi) rfl; have c7 := cell_block HB1.out.box 7 (.int .i64 m.front) rfl; have c8 := cell_block HB1.out.box 8 (.int .i64 m.back) rfl; have c9 := cell_block HB1.out.box 9 (.int .i64 m.least) rfl
  go_wp2_with fail
  refine (all_calls m sa sn sc ga gn gc xa xn xc ya yn yc xs ys w1 (HM.out.below HB1.out.low) (HX.out.below HB1.out.low) (HY.out.below HB1.out.low)).mono ?_
  rintro e w2 ⟨v, rfl, hb2, hown, hnil⟩
  have HB2 : Hid (B2 w (mdCells m sa sn sc ga gn gc) w2) := HB1.out.next hb2
  clear hb2 c0 c1 c2 c3 c4 c5 c6 c7 c8 c9
  have c0 := cell_block HB2.out.box 0 (.int .i64 m.letters) rfl; have c1 := cell_block HB2.out.box 1 (.slice sa sn sc) rfl; have c2 := cell_block HB2.out.box 2 (.slice ga gn gc) rfl; have c3 := cell_block HB2.out.box 3 (.int .i64 m.mode) rfl; have c4 := cell_block HB2.out.box 4 (.bool m.banded) rfl; have c5 := cell_block HB2.out.box 5 (.int .i64 m.lo) rfl; have c6 := cell_block HB2.out.box 6 (.int .i64 m.hi) rfl; have c7 := cell_block HB2.out.box 7 (.int .i64 m.front) rfl; have c8 := cell_block HB2.out.box 8 (.int .i64 m.back) rfl; have c9 := cell_block HB2.out.box 9 (.int .i64 m.least) rfl
  obtain ⟨va, vc, hv⟩ := shape_rg (hown he)
  rw [HP.out] at hv
  subst hv
  have HS : Hid (shE m xs ys = 0) := he
  rw [he]
  clear hown hnil he HB1 HP
  go_wp2_with fail
  refine (best_calls m sa sn sc ga gn gc xa xn xc ya yn yc xs ys w2 (HM.out.below HB2.out.low) (HX.out.below HB2.out.low) (HY.out.below HB2.out.low)).mono ?_
  rintro e w3 ⟨rfl, hb3⟩
  have HB3 : Hid (B2 w (mdCells m sa sn sc ga gn gc) w3) := HB2.out.next hb3
  clear hb3 HB2 c0 c1 c2 c3 c4 c5 c6 c7 c8 c9
  rw [HBs.out.1, HBs.out.2]
  clear HBs
  rw [show fnC fn0 = #[.int .i64 0, .int .i64 0, .int .i64 0, .string (bs [])] from rfl]
  have HB4 : Hid (B2 w (mdCells m sa sn sc ga gn gc) (w3.alloc (.cells #[.int .i64 0, .int .i64 0, .int .i64 0, .string (bs [])] 34))) := HB3.out.next (bl1 _ _)
  have e1 : ((0 : Int) != 0) = false := rfl
  have c0 := cell_block HB4.out.box 0 (.int .i64 m.letters) rfl; have c1 := cell_block HB4.out.box 1 (.slice sa sn sc) rfl; have c2 := cell_block HB4.out.box 2 (.slice ga gn gc) rfl; have c3 := cell_block HB4.out.box 3 (.int .i64 m.mode) rfl; have c4 := cell_block HB4.out.box 4 (.bool m.banded) rfl; have c5 := cell_block HB4.out.box 5 (.int .i64 m.lo) rfl; have c6 := cell_block HB4.out.box 6 (.int .i64 m.hi) rfl; have c7 := cell_block HB4.out.box 7 (.int .i64 m.front) rfl; have c8 := cell_block HB4.out.box 8 (.int .i64 m.back) rfl; have c9 := cell_block HB4.out.box 9 (.int .i64 m.least) rfl
  go_wp2_with fail
  refine (range_calls m sa sn sc ga gn gc xn yn _ (HM.out.below HB4.out.low)).mono ?_
  rintro e w5 ⟨rfl, hb5⟩
  have HB5 : Hid (B2 w (mdCells m sa sn sc ga gn gc) w5) := HB4.out.next hb5
  rw [show ranE m (xn : Int) (yn : Int) = 0 by rw [← hxl, ← hyl]; exact HR.out]
  clear hb5 HB4 HB3 c0 c1 c2 c3 c4 c5 c6 c7 c8 c9
  generalize ranL m (xn : Int) (yn : Int) = lo
  generalize ranH m (xn : Int) (yn : Int) = hi
  clear hxl hyl HX HY HM HS HR
  go_wp2
  go_loopw [15] (fun i wr => i = .int .i64 0 ∧ wr = w5) (fun _ _ => 0)
  case atStart => exact ⟨rfl, rfl⟩
  case round =>
    obtain ⟨rfl, rfl⟩ := hrel
    go_wp2
    go_ret
    exact ⟨rfl, HB5.out.low⟩
set_option maxRecDepth 20000 in
set_option maxHeartbeats 4000000 in
theorem range_some (m : Md) (sa : Option Addr) (sn sc : Nat) (ga : Option Addr) (gn gc : Nat) (xa : Option Addr) (xn xc : Nat) (xs : List Int) (ya : Option Addr) (yn yc : Nat) (ys : List Int) (w : World) (h : MdAt w m sa sn ga gn) (hx : IntsAt w xa xn xs) (hy : IntsAt w ya yn ys) (he : shE m xs ys = 0) (r : Int × Pt) (hb : bestL m xs ys (pathsB m xs.length ys.length) = some r) :
    Calls Try.prog 3 #[.agg (mdCells m sa sn sc ga gn gc), .slice xa xn xc, .slice ya yn yc] w fun e w' => e = .returned (.bool true) ∧ Below w.heap.size w w' := by
  have hl8 := shE_len he
  obtain ⟨P, hP⟩ : ∃ P, pathsB m xs.length ys.length = P := ⟨_, rfl⟩
  have HSd : Hid (∀ p ∈ P, Said m xs ys r p (worthW m xs ys p)) := by rw [← hP]; exact fun p hp => said_of he hb hp
  have HRs : Hid (∀ (k : Nat) (p q : Pt), P[k]? = some q → P[k + 1]? = some p → lessB q p = true) := by rw [← hP]; exact fun k p q h1 h2 => rises (by omega) (by omega) h1 h2
  have HLn : Hid (∀ p ∈ P, p.cols.length ≤ 9) := by rw [← hP]; exact fun p hp => by have := (pathsB_ok hp).2; omega
  have HrP : Hid (r.2 ∈ P) := by
    rw [← hP]
    exact bestL_mem m xs ys _ r hb
  have HPn : Hid (0 < P.length) := List.length_pos_of_mem HrP.out
  have HPf : Hid (P.length ≤ 100000000) := by
    rw [← hP]
    exact pathsB_few hl8
  have HR : Hid (ranE m xs.length ys.length = 0) := ran_good he
  have HBs : Hid (bsE m xs ys = 0 ∧ bsV m xs ys = r) := bs_some he hb
  clear hb
  have HM : Hid (MdAt w m sa sn ga gn) := h
  have HX : Hid (IntsAt w xa xn xs) := hx
  have HY : Hid (IntsAt w ya yn ys) := hy
  have hxl := hx.length
  have hyl := hy.length
  have HB0 : Hid (B2 w (mdCells m sa sn sc ga gn gc) (w.alloc (.cells (mdCells m sa sn sc ga gn gc) 25))) := ⟨bl1 _ _, hp_at rfl⟩
  clear h hx hy
  rw [show (mdCells m sa sn sc ga gn gc) = #[.int .i64 m.letters, .slice sa sn sc, .slice ga gn gc, .int .i64 m.mode, .bool m.banded, .int .i64 m.lo, .int .i64 m.hi, .int .i64 m.front, .int .i64 m.back, .int .i64 m.least] from rfl]
  go_enter Try.func3, Try.ntmps3
  go_wp2_with fail
  refine (awake_calls _).mono ?_
  rintro e w1 ⟨rfl, hb1⟩
  have HB1 : Hid (B2 w (mdCells m sa sn sc ga gn gc) w1) := HB0.out.next hb1
  clear hb1 HB0
  have c0 := cell_block HB1.out.box 0 (.int .i64 m.letters) rfl; have c1 := cell_block HB1.out.box 1 (.slice sa sn sc) rfl; have c2 := cell_block HB1.out.box 2 (.slice ga gn gc) rfl; have c3 := cell_block HB1.out.box 3 (.int .i64 m.mode) rfl; have c4 := cell_block HB1.out.box 4 (.bool m.banded) rfl; have c5 := cell_block HB1.out.box 5 (.int .i64 m.lo) rfl; have c6 := cell_block HB1.out.box 6 (.int .i64 m.hi) rfl; have c7 := cell_block HB1.out.box 7 (.int .i64 m.front) rfl; have c8 := cell_block HB1.out.box 8 (.int .i64 m.back) rfl; have c9 := cell_block HB1.out.box 9 (.int .i64 m.least) rfl
  go_wp2_with fail
  refine (all_calls m sa sn sc ga gn gc xa xn xc ya yn yc xs ys w1 (HM.out.below HB1.out.low) (HX.out.below HB1.out.low) (HY.out.below HB1.out.low)).mono ?_
  rintro e w2 ⟨v, rfl, hb2, hown, hnil⟩
  have HB2 : Hid (B2 w (mdCells m sa sn sc ga gn gc) w2) := HB1.out.next hb2
  clear hb2 c0 c1 c2 c3 c4 c5 c6 c7 c8 c9
  have c0 := cell_block HB2.out.box 0 (.int .i64 m.letters) rfl; have c1 := cell_block HB2.out.box 1 (.slice sa sn sc) rfl; have c2 := cell_block HB2.out.box 2 (.slice ga gn gc) rfl; have c3 := cell_block HB2.out.box 3 (.int .i64 m.mode) rfl; have c4 := cell_block HB2.out.box 4 (.bool m.banded) rfl; have c5 := cell_block HB2.out.box 5 (.int .i64 m.lo) rfl; have c6 := cell_block HB2.out.box 6 (.int .i64 m.hi) rfl; have c7 := cell_block HB2.out.box 7 (.int .i64 m.front) rfl; have c8 := cell_block HB2.out.box 8 (.int .i64 m.back) rfl; have c9 := cell_block HB2.out.box 9 (.int .i64 m.least) rfl
  have hown := hown he
  rw [hP] at hown
  obtain ⟨va, vc, hv⟩ := shape_rg hown
  subst hv
  have HS : Hid (shE m xs ys = 0) := he
  rw [he]
  clear hnil he
  obtain ⟨n, hn⟩ : ∃ n, P.length = n := ⟨_, rfl⟩
  have HPl : Hid (P.length = n) := hn
  have hn0 := HPn.out
  have hn1 := HPf.out
  rw [hn] at hn0 hn1 hown
  rw [hn]
  clear hn HPn HPf
  obtain ⟨B, hB⟩ : ∃ B, w1.heap.size = B := ⟨_, rfl⟩
  rw [hB] at hown
  have HOw : Hid (w2.ownsRow B 32 3 (.slice va n vc) n (ptRow P)) := hown
  clear hown hB hP HB1
  go_wp2_with fail
  refine (best_calls m sa sn sc ga gn gc xa xn xc ya yn yc xs ys w2 (HM.out.below HB2.out.low) (HX.out.below HB2.out.low) (HY.out.below HB2.out.low)).mono ?_
  rintro e w3 ⟨rfl, hb3⟩
  have HB3 : Hid (B2 w (mdCells m sa sn sc ga gn gc) w3) := HB2.out.next hb3
  have HOw3 : Hid (w3.ownsRow B 32 3 (.slice va n vc) n (ptRow P)) := owned_on HOw.out hb3
  clear hb3 HB2 HOw c0 c1 c2 c3 c4 c5 c6 c7 c8 c9
  rw [HBs.out.1, HBs.out.2]
  clear HBs
  obtain ⟨mc, hmc⟩ : ∃ c, (mdCells m sa sn sc ga gn gc) = c := ⟨_, rfl⟩
  have HMc : Hid ((mdCells m sa sn sc ga gn gc) = mc) := hmc
  obtain ⟨bf, hbf⟩ : ∃ b, w3.heap.size = b := ⟨_, rfl⟩
  have HG4 : Hid (RG w mc bf r B va n vc P (w3.alloc (.cells (fnC r) 34))) := by
    have hb := HB3.out.next (bl1 w3 (.cells (fnC r) 34))
    rw [hmc] at hb
    exact ⟨hb.low, hb.box, hp_at hbf.symm, owned_on HOw3.out (bl1 _ _)⟩
  clear hmc HOw3 HB3
  obtain ⟨g, rfl⟩ := HG4.out.first hn0
  have HMC : Hid (∀ W, RG w mc bf r B (some ⟨g, 0, none⟩) n vc P W → W.cell? ⟨w.heap.size, 0, none⟩ = some (.int .i64 m.letters) ∧ W.cell? ⟨w.heap.size, 1, none⟩ = some (.slice sa sn sc) ∧ W.cell? ⟨w.heap.size, 2, none⟩ = some (.slice ga gn gc) ∧ W.cell? ⟨w.heap.size, 3, none⟩ = some (.int .i64 m.mode) ∧ W.cell? ⟨w.heap.size, 4, none⟩ = some (.bool m.banded) ∧ W.cell? ⟨w.heap.size, 5, none⟩ = some (.int .i64 m.lo) ∧ W.cell? ⟨w.heap.size, 6, none⟩ = some (.int .i64 m.hi) ∧ W.cell? ⟨w.heap.size, 7, none⟩ = some (.int .i64 m.front) ∧ W.cell? ⟨w.heap.size, 8, none⟩ = some (.int .i64 m.back) ∧ W.cell? ⟨w.heap.size, 9, none⟩ = some (.int .i64 m.least)) := fun W hW => by
    have hb := hW.box
    rw [← HMc.out] at hb
    exact ⟨cell_block hb 0 _ rfl, cell_block hb 1 _ rfl, cell_block hb 2 _ rfl, cell_block hb 3 _ rfl, cell_block hb 4 _ rfl, cell_block hb 5 _ rfl, cell_block hb 6 _ rfl, cell_block hb 7 _ rfl, cell_block hb 8 _ rfl, cell_block hb 9 _ rfl⟩
  have HFC : Hid (∀ W, RG w mc bf r B (some ⟨g, 0, none⟩) n vc P W → W.cell? ⟨bf, 0, none⟩ = some (.int .i64 r.1) ∧ W.cell? ⟨bf, 1, none⟩ = some (.int .i64 r.2.i) ∧ W.cell? ⟨bf, 2, none⟩ = some (.int .i64 r.2.j) ∧ W.cell? ⟨bf, 3, none⟩ = some (.string (bs r.2.cols))) := fun W hW => ⟨cell_block hW.fb 0 _ rfl, cell_block hW.fb 1 _ rfl, cell_block hW.fb 2 _ rfl, cell_block hW.fb 3 _ rfl⟩
  rw [show fnC r = #[.int .i64 r.1, .int .i64 r.2.i, .int .i64 r.2.j, .string (bs r.2.cols)] from rfl]
  rw [show fnC r = #[.int .i64 r.1, .int .i64 r.2.i, .int .i64 r.2.j, .string (bs r.2.cols)] from rfl] at HG4
  have e1 : ((0 : Int) != 0) = false := rfl
  obtain ⟨c0, c1, c2, c3, c4, c5, c6, c7, c8, c9⟩ := HMC.out _ HG4.out
  subst hbf
  go_wp2_with fail
  refine (range_calls m sa sn sc ga gn gc xn yn _ (HM.out.below HG4.out.low)).mono ?_
  rintro e w5 ⟨rfl, hb5⟩
  obtain ⟨bf, hbf⟩ : ∃ b, w3.heap.size = b := ⟨_, rfl⟩
  rw [hbf] at HG4 HMC HFC ⊢
  have HG5 : Hid (RG w mc bf r B (some ⟨g, 0, none⟩) n vc P w5) := HG4.out.next hb5
  rw [show ranE m (xn : Int) (yn : Int) = 0 by rw [← hxl, ← hyl]; exact HR.out]
  clear hb5 HG4 hbf c0 c1 c2 c3 c4 c5 c6 c7 c8 c9
  obtain ⟨lo, hlo⟩ : ∃ l, ranL m (xn : Int) (yn : Int) = l := ⟨_, rfl⟩
  obtain ⟨hi, hhi⟩ : ∃ l, ranH m (xn : Int) (yn : Int) = l := ⟨_, rfl⟩
  have HLH : Hid (ranL m xs.length ys.length = lo ∧ ranH m xs.length ys.length = hi) := by rw [hxl, hyl]; exact ⟨hlo, hhi⟩
  rw [hlo, hhi]
  clear hlo hhi HR
  have hn0' : ¬ n = 0 := by omega
  have hnb : ((n : Int) == 0) = false := by simp; omega
  go_wp2
  clear hnb
  go_loopw [15] (fun i wr => ∃ k : Nat, k ≤ n ∧ i = .int .i64 k ∧ RG w mc bf r B (some ⟨g, 0, none⟩) n vc P wr) (fun i _ => n - (intOf i).toNat)
  case atStart => exact ⟨0, Nat.zero_le _, rfl, HG5.out⟩
  case round =>
    obtain ⟨k, hk, rfl, hrg⟩ := hrel
    have HG : Hid (RG w mc bf r B (some ⟨g, 0, none⟩) n vc P wr) := hrg
    clear hrg HG5
    by_cases hkn : k < n
    · obtain ⟨p, hp⟩ : ∃ p, P[k]? = some p := ⟨_, List.getElem?_eq_getElem (by rw [HPl.out]; exact hkn)⟩
      have HP : Hid (P[k]? = some p) := hp
      have hmem := List.mem_of_getElem? hp
      obtain ⟨N, hN⟩ : ∃ N, worthW m xs ys p = N := ⟨_, rfl⟩
      have HSp : Hid (Said m xs ys r p N) := by rw [← hN]; exact HSd.out p hmem
      have HL9 : Hid (p.cols.length ≤ 9) := HLn.out p hmem
      have HPC : Hid (∀ W, RG w mc bf r B (some ⟨g, 0, none⟩) n vc P W → W.cell? ⟨g, k * 3, none⟩ = some (.int .i64 p.i) ∧ W.cell? ⟨g, k * 3 + 1, none⟩ = some (.int .i64 p.j) ∧ W.cell? ⟨g, k * 3 + 2, none⟩ = some (.string (bs p.cols))) := fun W hW => hW.at rfl HP.out
      obtain ⟨L, hL⟩ : ∃ L, lessB r.2 p = L := ⟨_, rfl⟩
      have HF : Hid (N = r.1 → p = r.2 ∨ L = true) := by rw [← hL]; exact HSp.out.first
      have C1 : Hid (∀ W, RG w mc bf r B (some ⟨g, 0, none⟩) n vc P W → Calls Try.prog 11 #[.agg #[.int .i64 m.letters, .slice sa sn sc, .slice ga gn gc, .int .i64 m.mode, .bool m.banded, .int .i64 m.lo, .int .i64 m.hi, .int .i64 m.front, .int .i64 m.back, .int .i64 m.least], .slice xa xn xc, .slice ya yn yc, .agg #[.int .i64 p.i, .int .i64 p.j, .string (bs p.cols)]] W fun e w' => e = .returned (.tuple #[.int .i64 N, .int .i64 0]) ∧ Below W.heap.size W w') := fun W hW => by
        have := score_calls m sa sn sc ga gn gc xa xn xc ya yn yc xs ys p.i p.j (bs p.cols) W (HM.out.below hW.low) (HX.out.below hW.low) (HY.out.below hW.low) (by rw [bs_len]; have := HL9.out; unfold maxLen; omega)
        rw [bs_back] at this
        rw [show scV m xs ys ⟨p.i, p.j, p.cols⟩ = N from HSp.out.sc.2, show scE m xs ys ⟨p.i, p.j, p.cols⟩ = 0 from HSp.out.sc.1] at this
        exact this
      have C2 : Hid (∀ W, RG w mc bf r B (some ⟨g, 0, none⟩) n vc P W → Calls Try.prog 12 #[.agg #[.int .i64 m.letters, .slice sa sn sc, .slice ga gn gc, .int .i64 m.mode, .bool m.banded, .int .i64 m.lo, .int .i64 m.hi, .int .i64 m.front, .int .i64 m.back, .int .i64 m.least], .slice xa xn xc, .slice ya yn yc, .agg #[.int .i64 p.i, .int .i64 p.j, .string (bs p.cols)]] W fun e w' => e = .returned (.tuple #[.bool true, .int .i64 0]) ∧ Below W.heap.size W w') := fun W hW => by
        have := legal_calls m sa sn sc ga gn gc xa xn xc ya yn yc xs ys p.i p.j (bs p.cols) W (HM.out.below hW.low) (HX.out.below hW.low) (HY.out.below hW.low) (by rw [bs_len]; have := HL9.out; unfold maxLen; omega)
        rw [bs_back] at this
        rw [show (decide (refE m xs ys = 0) && allowsB m xs.length ys.length ⟨p.i, p.j, p.cols⟩) = true from HSp.out.al, shE_ref HS.out] at this
        exact this
      have C3 : Hid (∀ W, Calls Try.prog 13 #[.agg #[.int .i64 r.2.i, .int .i64 r.2.j, .string (bs r.2.cols)], .agg #[.int .i64 p.i, .int .i64 p.j, .string (bs p.cols)]] W fun e w' => e = .returned (.bool L) ∧ Below W.heap.size W w') := fun W => by
        have := less_calls r.2.i r.2.j p.i p.j (bs r.2.cols) (bs p.cols) W (by rw [bs_len]; have := HLn.out _ HrP.out; omega) (by rw [bs_len]; have := HL9.out; omega)
        rw [bs_back, bs_back] at this
        rw [show lessB ⟨r.2.i, r.2.j, r.2.cols⟩ ⟨p.i, p.j, p.cols⟩ = L from hL] at this
        exact this
      have q1 := HSp.out.lo
      have q2 := HSp.out.hi
      have q3 := HSp.out.most
      rw [HLH.out.1] at q1
      rw [HLH.out.2] at q2
      have u1 : ¬ N < lo := by omega
      have u2 : ¬ hi < N := by omega
      have u3 : ¬ r.1 < N := by omega
      clear hp hmem hN hL q1 q2 q3
      have HNx : Hid (∀ W W2, RG w mc bf r B (some ⟨g, 0, none⟩) n vc P W → Below W.heap.size W W2 → RG w mc bf r B (some ⟨g, 0, none⟩) n vc P W2) := fun W W2 h1 h2 => h1.next h2
      have HDr : Hid (∀ W, RG w mc bf r B (some ⟨g, 0, none⟩) n vc P W → RG w mc bf r B (some ⟨g, 0, none⟩) n vc P W.drew) := fun W h1 => h1.drew
      have HDN : Hid (∀ W k, RG w mc bf r B (some ⟨g, 0, none⟩) n vc P W → RG w mc bf r B (some ⟨g, 0, none⟩) n vc P (W.drewN k)) := fun W k h1 => h1.drewN k
      obtain ⟨J, hJ⟩ : ∃ J : World → Prop, J = RG w mc bf r B (some ⟨g, 0, none⟩) n vc P := ⟨_, rfl⟩
      rw [← hJ] at HG HMC HFC HPC C1 C2 HNx HDr HDN
      have HJ : Hid (J = RG w mc bf r B (some ⟨g, 0, none⟩) n vc P) := hJ
      clear hJ
      have j0 : J wr := HG.out
      have jd : J wr.drew := HDr.out _ j0
      go_wp2_with fail
      go_region_held3 (fun W => J W ∧ (W.cell? ⟨w.heap.size, 0, none⟩ = some (.int .i64 m.letters) ∧ W.cell? ⟨w.heap.size, 1, none⟩ = some (.slice sa sn sc) ∧ W.cell? ⟨w.heap.size, 2, none⟩ = some (.slice ga gn gc) ∧ W.cell? ⟨w.heap.size, 3, none⟩ = some (.int .i64 m.mode) ∧ W.cell? ⟨w.heap.size, 4, none⟩ = some (.bool m.banded) ∧ W.cell? ⟨w.heap.size, 5, none⟩ = some (.int .i64 m.lo) ∧ W.cell? ⟨w.heap.size, 6, none⟩ = some (.int .i64 m.hi) ∧ W.cell? ⟨w.heap.size, 7, none⟩ = some (.int .i64 m.front) ∧ W.cell? ⟨w.heap.size, 8, none⟩ = some (.int .i64 m.back) ∧ W.cell? ⟨w.heap.size, 9, none⟩ = some (.int .i64 m.least)) ∧ W.cell? ⟨g, k * 3, none⟩ = some (.int .i64 p.i) ∧ W.cell? ⟨g, k * 3 + 1, none⟩ = some (.int .i64 p.j) ∧ W.cell? ⟨g, k * 3 + 2, none⟩ = some (.string (bs p.cols))) (first | with_reducible assumption | (refine ⟨?_, HMC.out _ ?_, HPC.out _ ?_⟩ <;> with_reducible assumption)) (first
        | (go_at_call 11; (with_reducible refine (C1.out _ (by with_reducible assumption)).mono ?_); rintro e w6 ⟨rfl, hb6⟩; have j6 : J w6 := HNx.out _ _ (by with_reducible assumption) hb6; clear hb6))
      rename_i hh
      clear hh j0 jd HG
      have jd : J w6.drew := HDr.out _ j6
      go_wp2_with fail
      go_region_held3 (fun W => J W ∧ (W.cell? ⟨w.heap.size, 0, none⟩ = some (.int .i64 m.letters) ∧ W.cell? ⟨w.heap.size, 1, none⟩ = some (.slice sa sn sc) ∧ W.cell? ⟨w.heap.size, 2, none⟩ = some (.slice ga gn gc) ∧ W.cell? ⟨w.heap.size, 3, none⟩ = some (.int .i64 m.mode) ∧ W.cell? ⟨w.heap.size, 4, none⟩ = some (.bool m.banded) ∧ W.cell? ⟨w.heap.size, 5, none⟩ = some (.int .i64 m.lo) ∧ W.cell? ⟨w.heap.size, 6, none⟩ = some (.int .i64 m.hi) ∧ W.cell? ⟨w.heap.size, 7, none⟩ = some (.int .i64 m.front) ∧ W.cell? ⟨w.heap.size, 8, none⟩ = some (.int .i64 m.back) ∧ W.cell? ⟨w.heap.size, 9, none⟩ = some (.int .i64 m.least)) ∧ W.cell? ⟨g, k * 3, none⟩ = some (.int .i64 p.i) ∧ W.cell? ⟨g, k * 3 + 1, none⟩ = some (.int .i64 p.j) ∧ W.cell? ⟨g, k * 3 + 2, none⟩ = some (.string (bs p.cols))) (first | with_reducible assumption | (refine ⟨?_, HMC.out _ ?_, HPC.out _ ?_⟩ <;> with_reducible assumption)) (first
        | (go_at_call 12; (with_reducible refine (C2.out _ (by with_reducible assumption)).mono ?_); rintro e w7 ⟨rfl, hb7⟩; have j7 : J w7 := HNx.out _ _ (by with_reducible assumption) hb7; clear hb7))
      rename_i hh
      clear hh j6 jd
      obtain ⟨f0, f1, f2, f3⟩ := HFC.out _ j7
      have jd : J w7.drew := HDr.out _ j7
      have u4 : ¬ N < lo := by omega
      have u5 : ¬ hi < N := by omega
      have u6 : ¬ r.1 < N := by omega
      go_wp2_with fail
      clear f0 f1 f2 f3
      go_region_held3 (fun W => J W ∧ (W.cell? ⟨bf, 0, none⟩ = some (.int .i64 r.1) ∧ W.cell? ⟨bf, 1, none⟩ = some (.int .i64 r.2.i) ∧ W.cell? ⟨bf, 2, none⟩ = some (.int .i64 r.2.j) ∧ W.cell? ⟨bf, 3, none⟩ = some (.string (bs r.2.cols))) ∧ W.cell? ⟨g, k * 3, none⟩ = some (.int .i64 p.i) ∧ W.cell? ⟨g, k * 3 + 1, none⟩ = some (.int .i64 p.j) ∧ W.cell? ⟨g, k * 3 + 2, none⟩ = some (.string (bs p.cols))) (first | with_reducible assumption | (refine ⟨?_, HFC.out _ ?_, HPC.out _ ?_⟩ <;> with_reducible assumption)) (first
        | (go_at_call 13; (with_reducible refine (C3.out _).mono ?_); rintro e w8 ⟨rfl, hb8⟩; have j8 : J w8 := HNx.out _ _ (by with_reducible assumption) hb8; clear hb8))
      rename_i hh
      clear hh j7 jd
      obtain ⟨f0, f1, f2, f3⟩ := HFC.out _ j8
      obtain ⟨p0, p1, p2⟩ := HPC.out _ j8
      clear C1 C2 C3 HMC
      have hEnd : ∀ W, J W → Hid (RG w mc bf r B (some ⟨g, 0, none⟩) n vc P W) := fun W hW => by rw [← HJ.out]; exact hW
      by_cases hNr : N = r.1
      · have eN : (N == r.1) = true := by simp [hNr]
        cases L with
        | true =>
          clear HF hNr
          by_cases hi1 : p.i = r.2.i
          · have ei : (p.i == r.2.i) = true := by simpa using hi1
            clear hi1
            by_cases hj1 : p.j = r.2.j
            · have ej : (p.j == r.2.j) = true := by simpa using hj1
              clear hj1
              by_cases hs1 : (bs p.cols).toList = (bs r.2.cols).toList
              · have es : ((bs p.cols).toList == (bs r.2.cols).toList) = true := by simpa using hs1
                clear hs1
                go_wp2_with fail
                go_quiet (fail)
                have j9 : J (w8.drewN nq) := HDN.out _ _ j8
                by_cases hk0 : k = 0
                · have e0 : decide ((0 : Int) < (k : Int)) = false := by simp; omega
                  go_wp2
                  go_roundw
                  case rel => exact ⟨k + 1, by omega, by go_num, (hEnd _ j9).out⟩
                  case measure => simp [intOf]; omega
                · have e0 : decide ((0 : Int) < (k : Int)) = true := by simp; omega
                  obtain ⟨j, hj⟩ : ∃ j, k = j + 1 := ⟨k - 1, by omega⟩
                  obtain ⟨q, hq⟩ : ∃ q, P[j]? = some q := ⟨_, List.getElem?_eq_getElem (by rw [HPl.out]; omega)⟩
                  have HQC : Hid (∀ W, J W → W.cell? ⟨g, j * 3, none⟩ = some (.int .i64 q.i) ∧ W.cell? ⟨g, j * 3 + 1, none⟩ = some (.int .i64 q.j) ∧ W.cell? ⟨g, j * 3 + 2, none⟩ = some (.string (bs q.cols))) := by rw [HJ.out]; exact fun W hW => hW.at rfl hq
                  have C4 : Hid (∀ W, Calls Try.prog 13 #[.agg #[.int .i64 q.i, .int .i64 q.j, .string (bs q.cols)], .agg #[.int .i64 p.i, .int .i64 p.j, .string (bs p.cols)]] W fun e w' => e = .returned (.bool true) ∧ Below W.heap.size W w') := fun W => by
                    have := less_calls q.i q.j p.i p.j (bs q.cols) (bs p.cols) W (by rw [bs_len]; have := HLn.out q (List.mem_of_getElem? hq); omega) (by rw [bs_len]; have := HL9.out; omega)
                    rw [bs_back, bs_back] at this
                    rw [show lessB ⟨q.i, q.j, q.cols⟩ ⟨p.i, p.j, p.cols⟩ = true from HRs.out j p q hq (by rw [← hj]; exact HP.out)] at this
                    exact this
                  have hkj : (k : Int) - 1 = (j : Int) := by omega
                  have hjn : j < n := by omega
                  have hwj : IntKind.i64.wrap (j : Int) = (j : Int) := (IntWalk.i64_left _).trans (by unfold wrap64; omega)
                  have HKn : Hid (k + 1 ≤ n) := by show _ ≤ _; omega
                  clear hj hq f0 f1 f2 f3 p0 p1 p2
                  have jd : J (w8.drewN (nq + 1)) := HDN.out _ _ j8
                  have jd2 : J (w8.drewN nq).drew := HDr.out _ j9
                  go_wp2_with fail
                  go_region_held3 (fun W => J W ∧ (W.cell? ⟨g, j * 3, none⟩ = some (.int .i64 q.i) ∧ W.cell? ⟨g, j * 3 + 1, none⟩ = some (.int .i64 q.j) ∧ W.cell? ⟨g, j * 3 + 2, none⟩ = some (.string (bs q.cols))) ∧ W.cell? ⟨g, k * 3, none⟩ = some (.int .i64 p.i) ∧ W.cell? ⟨g, k * 3 + 1, none⟩ = some (.int .i64 p.j) ∧ W.cell? ⟨g, k * 3 + 2, none⟩ = some (.string (bs p.cols))) (first | with_reducible assumption | (refine ⟨?_, HQC.out _ ?_, HPC.out _ ?_⟩ <;> with_reducible assumption)) (first
                    | (go_at_call 13; (with_reducible refine (C4.out _).mono ?_); rintro e wA ⟨rfl, hbA⟩; have jA : J wA := HNx.out _ _ (by with_reducible assumption) hbA; clear hbA))
                  go_wp2
                  go_roundw
                  case rel => exact ⟨k + 1, HKn.out, by go_num, (hEnd _ jA).out⟩
                  case measure => simp [intOf]; omega

              · have es : ((bs p.cols).toList == (bs r.2.cols).toList) = false := by simpa using hs1
                clear hs1
                go_wp2_with fail
                go_quiet (fail)
                have j9 : J (w8.drewN nq) := HDN.out _ _ j8
                by_cases hk0 : k = 0
                · have e0 : decide ((0 : Int) < (k : Int)) = false := by simp; omega
                  go_wp2
                  go_roundw
                  case rel => exact ⟨k + 1, by omega, by go_num, (hEnd _ j9).out⟩
                  case measure => simp [intOf]; omega
                · have e0 : decide ((0 : Int) < (k : Int)) = true := by simp; omega
                  obtain ⟨j, hj⟩ : ∃ j, k = j + 1 := ⟨k - 1, by omega⟩
                  obtain ⟨q, hq⟩ : ∃ q, P[j]? = some q := ⟨_, List.getElem?_eq_getElem (by rw [HPl.out]; omega)⟩
                  have HQC : Hid (∀ W, J W → W.cell? ⟨g, j * 3, none⟩ = some (.int .i64 q.i) ∧ W.cell? ⟨g, j * 3 + 1, none⟩ = some (.int .i64 q.j) ∧ W.cell? ⟨g, j * 3 + 2, none⟩ = some (.string (bs q.cols))) := by rw [HJ.out]; exact fun W hW => hW.at rfl hq
                  have C4 : Hid (∀ W, Calls Try.prog 13 #[.agg #[.int .i64 q.i, .int .i64 q.j, .string (bs q.cols)], .agg #[.int .i64 p.i, .int .i64 p.j, .string (bs p.cols)]] W fun e w' => e = .returned (.bool true) ∧ Below W.heap.size W w') := fun W => by
                    have := less_calls q.i q.j p.i p.j (bs q.cols) (bs p.cols) W (by rw [bs_len]; have := HLn.out q (List.mem_of_getElem? hq); omega) (by rw [bs_len]; have := HL9.out; omega)
                    rw [bs_back, bs_back] at this
                    rw [show lessB ⟨q.i, q.j, q.cols⟩ ⟨p.i, p.j, p.cols⟩ = true from HRs.out j p q hq (by rw [← hj]; exact HP.out)] at this
                    exact this
                  have hkj : (k : Int) - 1 = (j : Int) := by omega
                  have hjn : j < n := by omega
                  have hwj : IntKind.i64.wrap (j : Int) = (j : Int) := (IntWalk.i64_left _).trans (by unfold wrap64; omega)
                  have HKn : Hid (k + 1 ≤ n) := by show _ ≤ _; omega
                  clear hj hq f0 f1 f2 f3 p0 p1 p2
                  have jd : J (w8.drewN (nq + 1)) := HDN.out _ _ j8
                  have jd2 : J (w8.drewN nq).drew := HDr.out _ j9
                  go_wp2_with fail
                  go_region_held3 (fun W => J W ∧ (W.cell? ⟨g, j * 3, none⟩ = some (.int .i64 q.i) ∧ W.cell? ⟨g, j * 3 + 1, none⟩ = some (.int .i64 q.j) ∧ W.cell? ⟨g, j * 3 + 2, none⟩ = some (.string (bs q.cols))) ∧ W.cell? ⟨g, k * 3, none⟩ = some (.int .i64 p.i) ∧ W.cell? ⟨g, k * 3 + 1, none⟩ = some (.int .i64 p.j) ∧ W.cell? ⟨g, k * 3 + 2, none⟩ = some (.string (bs p.cols))) (first | with_reducible assumption | (refine ⟨?_, HQC.out _ ?_, HPC.out _ ?_⟩ <;> with_reducible assumption)) (first
                    | (go_at_call 13; (with_reducible refine (C4.out _).mono ?_); rintro e wA ⟨rfl, hbA⟩; have jA : J wA := HNx.out _ _ (by with_reducible assumption) hbA; clear hbA))
                  go_wp2
                  go_roundw
                  case rel => exact ⟨k + 1, HKn.out, by go_num, (hEnd _ jA).out⟩
                  case measure => simp [intOf]; omega

            · have ej : (p.j == r.2.j) = false := by simpa using hj1
              clear hj1
              go_wp2_with fail
              go_quiet (fail)
              have j9 : J (w8.drewN nq) := HDN.out _ _ j8
              by_cases hk0 : k = 0
              · have e0 : decide ((0 : Int) < (k : Int)) = false := by simp; omega
                go_wp2
                go_roundw
                case rel => exact ⟨k + 1, by omega, by go_num, (hEnd _ j9).out⟩
                case measure => simp [intOf]; omega
              · have e0 : decide ((0 : Int) < (k : Int)) = true := by simp; omega
                obtain ⟨j, hj⟩ : ∃ j, k = j + 1 := ⟨k - 1, by omega⟩
                obtain ⟨q, hq⟩ : ∃ q, P[j]? = some q := ⟨_, List.getElem?_eq_getElem (by rw [HPl.out]; omega)⟩
                have HQC : Hid (∀ W, J W → W.cell? ⟨g, j * 3, none⟩ = some (.int .i64 q.i) ∧ W.cell? ⟨g, j * 3 + 1, none⟩ = some (.int .i64 q.j) ∧ W.cell? ⟨g, j * 3 + 2, none⟩ = some (.string (bs q.cols))) := by rw [HJ.out]; exact fun W hW => hW.at rfl hq
                have C4 : Hid (∀ W, Calls Try.prog 13 #[.agg #[.int .i64 q.i, .int .i64 q.j, .string (bs q.cols)], .agg #[.int .i64 p.i, .int .i64 p.j, .string (bs p.cols)]] W fun e w' => e = .returned (.bool true) ∧ Below W.heap.size W w') := fun W => by
                  have := less_calls q.i q.j p.i p.j (bs q.cols) (bs p.cols) W (by rw [bs_len]; have := HLn.out q (List.mem_of_getElem? hq); omega) (by rw [bs_len]; have := HL9.out; omega)
                  rw [bs_back, bs_back] at this
                  rw [show lessB ⟨q.i, q.j, q.cols⟩ ⟨p.i, p.j, p.cols⟩ = true from HRs.out j p q hq (by rw [← hj]; exact HP.out)] at this
                  exact this
                have hkj : (k : Int) - 1 = (j : Int) := by omega
                have hjn : j < n := by omega
                have hwj : IntKind.i64.wrap (j : Int) = (j : Int) := (IntWalk.i64_left _).trans (by unfold wrap64; omega)
                have HKn : Hid (k + 1 ≤ n) := by show _ ≤ _; omega
                clear hj hq f0 f1 f2 f3 p0 p1 p2
                have jd : J (w8.drewN (nq + 1)) := HDN.out _ _ j8
                have jd2 : J (w8.drewN nq).drew := HDr.out _ j9
                go_wp2_with fail
                go_region_held3 (fun W => J W ∧ (W.cell? ⟨g, j * 3, none⟩ = some (.int .i64 q.i) ∧ W.cell? ⟨g, j * 3 + 1, none⟩ = some (.int .i64 q.j) ∧ W.cell? ⟨g, j * 3 + 2, none⟩ = some (.string (bs q.cols))) ∧ W.cell? ⟨g, k * 3, none⟩ = some (.int .i64 p.i) ∧ W.cell? ⟨g, k * 3 + 1, none⟩ = some (.int .i64 p.j) ∧ W.cell? ⟨g, k * 3 + 2, none⟩ = some (.string (bs p.cols))) (first | with_reducible assumption | (refine ⟨?_, HQC.out _ ?_, HPC.out _ ?_⟩ <;> with_reducible assumption)) (first
                  | (go_at_call 13; (with_reducible refine (C4.out _).mono ?_); rintro e wA ⟨rfl, hbA⟩; have jA : J wA := HNx.out _ _ (by with_reducible assumption) hbA; clear hbA))
                go_wp2
                go_roundw
                case rel => exact ⟨k + 1, HKn.out, by go_num, (hEnd _ jA).out⟩
                case measure => simp [intOf]; omega

          · have ei : (p.i == r.2.i) = false := by simpa using hi1
            clear hi1
            go_wp2_with fail
            go_quiet (fail)
            have j9 : J (w8.drewN nq) := HDN.out _ _ j8
            by_cases hk0 : k = 0
            · have e0 : decide ((0 : Int) < (k : Int)) = false := by simp; omega
              go_wp2
              go_roundw
              case rel => exact ⟨k + 1, by omega, by go_num, (hEnd _ j9).out⟩
              case measure => simp [intOf]; omega
            · have e0 : decide ((0 : Int) < (k : Int)) = true := by simp; omega
              obtain ⟨j, hj⟩ : ∃ j, k = j + 1 := ⟨k - 1, by omega⟩
              obtain ⟨q, hq⟩ : ∃ q, P[j]? = some q := ⟨_, List.getElem?_eq_getElem (by rw [HPl.out]; omega)⟩
              have HQC : Hid (∀ W, J W → W.cell? ⟨g, j * 3, none⟩ = some (.int .i64 q.i) ∧ W.cell? ⟨g, j * 3 + 1, none⟩ = some (.int .i64 q.j) ∧ W.cell? ⟨g, j * 3 + 2, none⟩ = some (.string (bs q.cols))) := by rw [HJ.out]; exact fun W hW => hW.at rfl hq
              have C4 : Hid (∀ W, Calls Try.prog 13 #[.agg #[.int .i64 q.i, .int .i64 q.j, .string (bs q.cols)], .agg #[.int .i64 p.i, .int .i64 p.j, .string (bs p.cols)]] W fun e w' => e = .returned (.bool true) ∧ Below W.heap.size W w') := fun W => by
                have := less_calls q.i q.j p.i p.j (bs q.cols) (bs p.cols) W (by rw [bs_len]; have := HLn.out q (List.mem_of_getElem? hq); omega) (by rw [bs_len]; have := HL9.out; omega)
                rw [bs_back, bs_back] at this
                rw [show lessB ⟨q.i, q.j, q.cols⟩ ⟨p.i, p.j, p.cols⟩ = true from HRs.out j p q hq (by rw [← hj]; exact HP.out)] at this
                exact this
              have hkj : (k : Int) - 1 = (j : Int) := by omega
              have hjn : j < n := by omega
              have hwj : IntKind.i64.wrap (j : Int) = (j : Int) := (IntWalk.i64_left _).trans (by unfold wrap64; omega)
              have HKn : Hid (k + 1 ≤ n) := by show _ ≤ _; omega
              clear hj hq f0 f1 f2 f3 p0 p1 p2
              have jd : J (w8.drewN (nq + 1)) := HDN.out _ _ j8
              have jd2 : J (w8.drewN nq).drew := HDr.out _ j9
              go_wp2_with fail
              go_region_held3 (fun W => J W ∧ (W.cell? ⟨g, j * 3, none⟩ = some (.int .i64 q.i) ∧ W.cell? ⟨g, j * 3 + 1, none⟩ = some (.int .i64 q.j) ∧ W.cell? ⟨g, j * 3 + 2, none⟩ = some (.string (bs q.cols))) ∧ W.cell? ⟨g, k * 3, none⟩ = some (.int .i64 p.i) ∧ W.cell? ⟨g, k * 3 + 1, none⟩ = some (.int .i64 p.j) ∧ W.cell? ⟨g, k * 3 + 2, none⟩ = some (.string (bs p.cols))) (first | with_reducible assumption | (refine ⟨?_, HQC.out _ ?_, HPC.out _ ?_⟩ <;> with_reducible assumption)) (first
                | (go_at_call 13; (with_reducible refine (C4.out _).mono ?_); rintro e wA ⟨rfl, hbA⟩; have jA : J wA := HNx.out _ _ (by with_reducible assumption) hbA; clear hbA))
              go_wp2
              go_roundw
              case rel => exact ⟨k + 1, HKn.out, by go_num, (hEnd _ jA).out⟩
              case measure => simp [intOf]; omega

        | false =>
          obtain rfl : p = r.2 := by rcases HF.out hNr with h | h; exact h; cases h
          have ei : (r.2.i == r.2.i) = true := by simp
          have ej : (r.2.j == r.2.j) = true := by simp
          clear HF
          go_wp2_with fail
          go_quiet (fail)
          have j9 : J (w8.drewN nq) := HDN.out _ _ j8
          by_cases hk0 : k = 0
          · have e0 : decide ((0 : Int) < (k : Int)) = false := by simp; omega
            go_wp2
            go_roundw
            case rel => exact ⟨k + 1, by omega, by go_num, (hEnd _ j9).out⟩
            case measure => simp [intOf]; omega
          · have e0 : decide ((0 : Int) < (k : Int)) = true := by simp; omega
            obtain ⟨j, hj⟩ : ∃ j, k = j + 1 := ⟨k - 1, by omega⟩
            obtain ⟨q, hq⟩ : ∃ q, P[j]? = some q := ⟨_, List.getElem?_eq_getElem (by rw [HPl.out]; omega)⟩
            have HQC : Hid (∀ W, J W → W.cell? ⟨g, j * 3, none⟩ = some (.int .i64 q.i) ∧ W.cell? ⟨g, j * 3 + 1, none⟩ = some (.int .i64 q.j) ∧ W.cell? ⟨g, j * 3 + 2, none⟩ = some (.string (bs q.cols))) := by rw [HJ.out]; exact fun W hW => hW.at rfl hq
            have C4 : Hid (∀ W, Calls Try.prog 13 #[.agg #[.int .i64 q.i, .int .i64 q.j, .string (bs q.cols)], .agg #[.int .i64 r.2.i, .int .i64 r.2.j, .string (bs r.2.cols)]] W fun e w' => e = .returned (.bool true) ∧ Below W.heap.size W w') := fun W => by
              have := less_calls q.i q.j r.2.i r.2.j (bs q.cols) (bs r.2.cols) W (by rw [bs_len]; have := HLn.out q (List.mem_of_getElem? hq); omega) (by rw [bs_len]; have := HL9.out; omega)
              rw [bs_back, bs_back] at this
              rw [show lessB ⟨q.i, q.j, q.cols⟩ ⟨r.2.i, r.2.j, r.2.cols⟩ = true from HRs.out j r.2 q hq (by rw [← hj]; exact HP.out)] at this
              exact this
            have hkj : (k : Int) - 1 = (j : Int) := by omega
            have hjn : j < n := by omega
            have hwj : IntKind.i64.wrap (j : Int) = (j : Int) := (IntWalk.i64_left _).trans (by unfold wrap64; omega)
            have HKn : Hid (k + 1 ≤ n) := by show _ ≤ _; omega
            clear hj hq f0 f1 f2 f3 p0 p1 p2
            have jd : J (w8.drewN (nq + 1)) := HDN.out _ _ j8
            have jd2 : J (w8.drewN nq).drew := HDr.out _ j9
            go_wp2_with fail
            go_region_held3 (fun W => J W ∧ (W.cell? ⟨g, j * 3, none⟩ = some (.int .i64 q.i) ∧ W.cell? ⟨g, j * 3 + 1, none⟩ = some (.int .i64 q.j) ∧ W.cell? ⟨g, j * 3 + 2, none⟩ = some (.string (bs q.cols))) ∧ W.cell? ⟨g, k * 3, none⟩ = some (.int .i64 r.2.i) ∧ W.cell? ⟨g, k * 3 + 1, none⟩ = some (.int .i64 r.2.j) ∧ W.cell? ⟨g, k * 3 + 2, none⟩ = some (.string (bs r.2.cols))) (first | with_reducible assumption | (refine ⟨?_, HQC.out _ ?_, HPC.out _ ?_⟩ <;> with_reducible assumption)) (first
              | (go_at_call 13; (with_reducible refine (C4.out _).mono ?_); rintro e wA ⟨rfl, hbA⟩; have jA : J wA := HNx.out _ _ (by with_reducible assumption) hbA; clear hbA))
            go_wp2
            go_roundw
            case rel => exact ⟨k + 1, HKn.out, by go_num, (hEnd _ jA).out⟩
            case measure => simp [intOf]; omega

      · have eN : (N == r.1) = false := by simpa using hNr
        go_wp2_with fail
        go_quiet (fail)
        have j9 : J (w8.drewN nq) := HDN.out _ _ j8
        by_cases hk0 : k = 0
        · have e0 : decide ((0 : Int) < (k : Int)) = false := by simp; omega
          go_wp2
          go_roundw
          case rel => exact ⟨k + 1, by omega, by go_num, (hEnd _ j9).out⟩
          case measure => simp [intOf]; omega
        · have e0 : decide ((0 : Int) < (k : Int)) = true := by simp; omega
          obtain ⟨j, hj⟩ : ∃ j, k = j + 1 := ⟨k - 1, by omega⟩
          obtain ⟨q, hq⟩ : ∃ q, P[j]? = some q := ⟨_, List.getElem?_eq_getElem (by rw [HPl.out]; omega)⟩
          have HQC : Hid (∀ W, J W → W.cell? ⟨g, j * 3, none⟩ = some (.int .i64 q.i) ∧ W.cell? ⟨g, j * 3 + 1, none⟩ = some (.int .i64 q.j) ∧ W.cell? ⟨g, j * 3 + 2, none⟩ = some (.string (bs q.cols))) := by rw [HJ.out]; exact fun W hW => hW.at rfl hq
          have C4 : Hid (∀ W, Calls Try.prog 13 #[.agg #[.int .i64 q.i, .int .i64 q.j, .string (bs q.cols)], .agg #[.int .i64 p.i, .int .i64 p.j, .string (bs p.cols)]] W fun e w' => e = .returned (.bool true) ∧ Below W.heap.size W w') := fun W => by
            have := less_calls q.i q.j p.i p.j (bs q.cols) (bs p.cols) W (by rw [bs_len]; have := HLn.out q (List.mem_of_getElem? hq); omega) (by rw [bs_len]; have := HL9.out; omega)
            rw [bs_back, bs_back] at this
            rw [show lessB ⟨q.i, q.j, q.cols⟩ ⟨p.i, p.j, p.cols⟩ = true from HRs.out j p q hq (by rw [← hj]; exact HP.out)] at this
            exact this
          have hkj : (k : Int) - 1 = (j : Int) := by omega
          have hjn : j < n := by omega
          have hwj : IntKind.i64.wrap (j : Int) = (j : Int) := (IntWalk.i64_left _).trans (by unfold wrap64; omega)
          have HKn : Hid (k + 1 ≤ n) := by show _ ≤ _; omega
          clear hj hq f0 f1 f2 f3 p0 p1 p2
          have jd : J (w8.drewN (nq + 1)) := HDN.out _ _ j8
          have jd2 : J (w8.drewN nq).drew := HDr.out _ j9
          go_wp2_with fail
          go_region_held3 (fun W => J W ∧ (W.cell? ⟨g, j * 3, none⟩ = some (.int .i64 q.i) ∧ W.cell? ⟨g, j * 3 + 1, none⟩ = some (.int .i64 q.j) ∧ W.cell? ⟨g, j * 3 + 2, none⟩ = some (.string (bs q.cols))) ∧ W.cell? ⟨g, k * 3, none⟩ = some (.int .i64 p.i) ∧ W.cell? ⟨g, k * 3 + 1, none⟩ = some (.int .i64 p.j) ∧ W.cell? ⟨g, k * 3 + 2, none⟩ = some (.string (bs p.cols))) (first | with_reducible assumption | (refine ⟨?_, HQC.out _ ?_, HPC.out _ ?_⟩ <;> with_reducible assumption)) (first
            | (go_at_call 13; (with_reducible refine (C4.out _).mono ?_); rintro e wA ⟨rfl, hbA⟩; have jA : J wA := HNx.out _ _ (by with_reducible assumption) hbA; clear hbA))
          go_wp2
          go_roundw
          case rel => exact ⟨k + 1, HKn.out, by go_num, (hEnd _ jA).out⟩
          case measure => simp [intOf]; omega

    · clear HMC HFC
      go_wp2
      go_ret
      exact ⟨rfl, HG.out.low⟩

theorem range_walk (m : Md) (sa : Option Addr) (sn sc : Nat) (ga : Option Addr) (gn gc : Nat) (xa : Option Addr) (xn xc : Nat) (xs : List Int) (ya : Option Addr) (yn yc : Nat) (ys : List Int) (w : World) (h : MdIn w m sa sn ga gn) (hx : IntsAt w xa xn xs) (_hxl : xn ≤ 17592186044416) (hy : IntsAt w ya yn ys) (_hyl : yn ≤ 17592186044416) :
    Calls Try.prog 3 #[.agg (mdCells m sa sn sc ga gn gc), .slice xa xn xc, .slice ya yn yc] w fun e w' => e = .returned (.bool true) ∧ Below w.heap.size w w' := by
  by_cases he : shE m xs ys = 0
  · cases hb : bestL m xs ys (pathsB m xs.length ys.length) with
    | none => exact range_none m sa sn sc ga gn gc xa xn xc xs ya yn yc ys w h.at' hx hy he hb
    | some r => exact range_some m sa sn sc ga gn gc xa xn xc xs ya yn yc ys w h.at' hx hy he r hb
  · exact range_err m sa sn sc ga gn gc xa xn xc xs ya yn yc ys w h.at' hx hy he
theorem ints_in {H : Type} {enc : TypeId × Value → H} {W : World} {v : Value} {d : DataW H} {p : List MemPlace} (h : DataW.Trod enc Try.prog W 0 (fun _ => true) true 22 v d p) (hw : ∀ n ∈ d.weights Try.prog 22, n ≤ reachBytes) :
    ∃ ao len cap l, v.cells.toList = [.slice ao len cap] ∧ len ≤ 17592186044416 ∧ IntsAt W ao len l := by
  obtain ⟨fuel, hf⟩ := h
  exact open_int22 hf hw

namespace pathRange
open Go.ChangeShapes Go.WideShapes Go.ChangeAt Go.RowKit
open Go.ChangeMaps (open_string shut_string)
theorem own : ownKnob Try.prog.godebug = none := by kernel_rfl
theorem laidOut : laidOutB Try.prog = true := by kernel_rfl
set_option maxRecDepth 100000 in
theorem lifted (os : Os) (started : os.Started) (H : Type) (enc : TypeId × Value → H) :
    ReturnsInHanded {} Try.checked os 3 .any (Rows.pathRangeSpec.pre6 enc Try.prog Try.f3 Rows.pathRangeRow.domain false) (Rows.pathRangeSpec.post enc Try.prog Try.f3 false true false false) := by
  refine returnsInHanded_of_change_sized (C := Try.checked) own started (by kernel_rfl) Try.func3
    (ChangeSpec.witness6 (enc := enc) (C := Try.checked) false ⟨#[], #[.agg #[.int .i64 0, .slice none 0 0, .slice none 0 0, .int .i64 0, .bool false, .int .i64 0, .int .i64 0, .int .i64 0, .int .i64 0, .int .i64 0], .slice none 0 0, .slice none 0 0], []⟩ 8 (by kernel_rfl) (by kernel_rfl) (by kernel_rfl) (by kernel_rfl)) ?_
  intro W base args ds gs before hval0 hW _ hsz0 _
  have hval : ∀ (j : Nat) t v, Try.f3.params[j]? = some t → args[j]? = some v → Value.okWide Try.prog W .any base t v := hval0
  have hsz : (DataW.weightsEach Try.prog (Try.f3.params.toList ++ Rows.pathRangeSpec.plain.varTypes Try.prog) (ds ++ gs)).all (· ≤ reachBytes) = true := hsz0
  have hW' := hW
  obtain ⟨p, q, hA0, hV, rfl, hfz, hnd⟩ := hW
  have hA : DataW.TrodAll enc Try.prog W 0 (fun _ => true) true Try.f3.params.toList args.toList ds p := hA0
  rw [Try.params3] at hA hval hsz
  obtain ⟨v0, vs0, d0, ds0, p0, q0, hargs, rfl, rfl, h0, r0⟩ := trodAll_cons hA
  obtain ⟨v1, vs1, d1, ds1, p1, q1, rfl, rfl, rfl, h1, r1⟩ := trodAll_cons r0
  obtain ⟨v2, vs2, d2, ds2, p2, q2, rfl, rfl, rfl, h2, r2⟩ := trodAll_cons r1
  obtain ⟨rfl, rfl, rfl⟩ := trodAll_nil r2
  obtain rfl : args = #[v0, v1, v2] := by cases args; simp_all
  obtain ⟨rfl, rfl⟩ := trodVars_none hV
  have hw : ∀ (j : Nat) (t : TypeId) (d : DataW H), ([25, 22, 22] ++ Rows.pathRangeSpec.plain.varTypes Try.prog)[j]? = some t → ([d0, d1, d2] ++ [])[j]? = some d → ∀ n ∈ d.weights Try.prog t, n ≤ reachBytes := fun j t d ht hd n hn =>
    of_decide_eq_true (List.all_eq_true.1 hsz _ (DataW.weights_mem_each ht hd n hn))
  obtain ⟨cs0, rfl, hcs0⟩ := okWide_struct Try.underlying25 (hval 0 25 v0 rfl rfl)
  have lt0 : ∀ x ∈ p0, x.block < W.heap.size := by obtain ⟨m, hm⟩ := h0; exact DataW.trod_lt m _ _ _ hm
  obtain ⟨m0, sa0, sn0, sc0, ga0, gn0, gc0, e0, in0⟩ := md_in hcs0 h0 (hw 0 25 d0 rfl rfl)
  subst e0
  have lt1 : ∀ x ∈ p1, x.block < W.heap.size := by obtain ⟨m, hm⟩ := h1; exact DataW.trod_lt m _ _ _ hm
  obtain ⟨ao1, len1, cap1, l1, e1, few1, in1⟩ := ints_in h1 (hw 1 22 d1 rfl rfl)
  obtain ⟨ax1, nx1, cx1, rfl⟩ := okWide_slice Try.underlying22 (hval 1 22 v1 rfl rfl)
  obtain ⟨rfl, rfl, rfl⟩ : ax1 = ao1 ∧ nx1 = len1 ∧ cx1 = cap1 := by have e := e1; simp [Value.cells] at e; exact e
  have lt2 : ∀ x ∈ p2, x.block < W.heap.size := by obtain ⟨m, hm⟩ := h2; exact DataW.trod_lt m _ _ _ hm
  obtain ⟨ao2, len2, cap2, l2, e2, few2, in2⟩ := ints_in h2 (hw 2 22 d2 rfl rfl)
  obtain ⟨ax2, nx2, cx2, rfl⟩ := okWide_slice Try.underlying22 (hval 2 22 v2 rfl rfl)
  obtain ⟨rfl, rfl, rfl⟩ : ax2 = ao2 ∧ nx2 = len2 ∧ cx2 = cap2 := by have e := e2; simp [Value.cells] at e; exact e
  clear hA0 hval0
  refine (range_walk m0 sa0 sn0 sc0 ga0 gn0 gc0 ax1 nx1 cx1 l1 ax2 nx2 cx2 l2 W in0 in1 few1 in2 few2).mono fun e W' ⟨he, bel⟩ => ?_
  subst he
  exact ⟨_, rfl, _, _, _, [], _, [], hW', trodAll_mk1 (shut_bool Try.underlying4 _), (trodAll_cons_mk (Below.trod laidOut (by kernel_rfl) (of_decide_eq_true (by kernel_rfl)) h0 bel lt0) (trodAll_cons_mk (Below.trod laidOut (by kernel_rfl) (of_decide_eq_true (by kernel_rfl)) h1 bel lt1) (trodAll_cons_mk (Below.trod laidOut (by kernel_rfl) (of_decide_eq_true (by kernel_rfl)) h2 bel lt2) trodAll_mk0))), rfl, bel.frame _, fun h => by cases h⟩
end pathRange

theorem pathRange_holds : Rows.PathRangeSaid :=
  OpenClaim.holds_of_wide 3 Try.f3 rfl rfl rfl rfl rfl rfl rfl ⟨rfl, rfl, rfl, rfl, rfl⟩ rfl rfl rfl rfl rfl (by kernel_rfl) Try.func3 (by kernel_rfl)
    (of_decide_eq_true (by kernel_rfl)) (by unfold Func.isWrapper; first | (rw [if_pos (by decide +kernel)]; kernel_rfl) | (rw [if_neg (by decide +kernel)]; exact ⟨rfl, rfl⟩))
    (fun os started H enc _ => pathRange.lifted os started H enc)

end Go.Proofs.Ytegndeefddlccab
