/-
  path.Score, path.Legal.
-/
import Derived.Test.YtegndeefddlccaaPwB
import Derived.Test.YtegndeefddlccaaPkD
namespace Go.Proofs.Ytegndeefddlccaa
open Go.RowKit

theorem refE_ok {m : Md} {xs ys : List Int} (h : refE m xs ys = 0) : rightM m = true ∧ lettersB m.letters xs = true ∧ lettersB m.letters ys = true := by
  unfold refE at h
  split at h
  · split at h
    · rename_i h1 h2
      exact ⟨h1, h2.1, h2.2⟩
    · cases h
  · cases h
theorem fdOk_of {m : Md} {xs ys : List Int} {w : World} {sa : Option Addr} {sn : Nat} {ga : Option Addr} {gn : Nat} {xa : Option Addr} {xn : Nat} {ya : Option Addr} {yn : Nat} (h : refE m xs ys = 0) (hm : MdAt w m sa sn ga gn) (hx : IntsAt w xa xn xs) (hy : IntsAt w ya yn ys) : FdOk m xs ys w sa sn ga gn xa xn ya yn := by
  have h1 := refE_ok h
  have h2 := refE_len h
  rw [hx.length, hy.length] at h2
  exact ⟨hm, hx, hy, h1.1, h1.2.1, h1.2.2, h2.1, h2.2⟩
def scE (m : Md) (xs ys : List Int) (p : Pt) : Int := if refE m xs ys = 0 then (if allowsB m xs.length ys.length p = true then 0 else 111) else refE m xs ys
def scV (m : Md) (xs ys : List Int) (p : Pt) : Int := if scE m xs ys p = 0 then worthW m xs ys p else 0
theorem sc_err {m : Md} {xs ys : List Int} {p : Pt} (h : refE m xs ys ≠ 0) : scE m xs ys p = refE m xs ys ∧ scV m xs ys p = 0 := by
  have e : scE m xs ys p = refE m xs ys := by unfold scE; rw [if_neg h]
  exact ⟨e, by unfold scV; rw [e, if_neg h]⟩
theorem sc_no {m : Md} {xs ys : List Int} {p : Pt} (h : refE m xs ys = 0) (h2 : allowsB m xs.length ys.length p = false) : scE m xs ys p = 111 ∧ scV m xs ys p = 0 := by
  have e : scE m xs ys p = 111 := by unfold scE; rw [if_pos h, if_neg (by rw [h2]; decide)]
  exact ⟨e, by unfold scV; rw [e]; rfl⟩
theorem sc_yes {m : Md} {xs ys : List Int} {p : Pt} (h : refE m xs ys = 0) (h2 : allowsB m xs.length ys.length p = true) : scE m xs ys p = 0 ∧ scV m xs ys p = worthW m xs ys p := by
  have e : scE m xs ys p = 0 := by unfold scE; rw [if_pos h, if_pos h2]
  exact ⟨e, by unfold scV; rw [e]; rfl⟩
structure S2 (w : World) (mc pc : Array Value) (wr : World) : Prop where
  low : Below w.heap.size w wr
  box : wr.heap[w.heap.size]? = some (.cells mc 31 (0, 0))
  p : wr.heap[w.heap.size + 1]? = some (.cells pc 33 (0, 0))
theorem S2.start (w : World) (mc pc : Array Value) : S2 w mc pc ((w.alloc (.cells mc 31)).alloc (.cells pc 33)) :=
  ⟨((Below.refl _ w).alloc (Nat.le_refl _) _).alloc (by simp) _, hp_old (hp_at rfl), hp_at (by simp)⟩
theorem S2.next {w : World} {mc pc : Array Value} {wr w2 : World} (h : S2 w mc pc wr) (hb : Below wr.heap.size wr w2) : S2 w mc pc w2 :=
  ⟨h.low.trans (hb.mono h.low.size), (Fr.of_below (O := fun _ => False) hb).heap h.box (fun h => h), (Fr.of_below (O := fun _ => False) hb).heap h.p (fun h => h)⟩

set_option maxRecDepth 20000 in
set_option maxHeartbeats 2000000 in
theorem score_calls (m : Md) (sa : Option Addr) (sn sc : Nat) (ga : Option Addr) (gn gc : Nat) (xa : Option Addr) (xn xc : Nat) (ya : Option Addr) (yn yc : Nat) (xs ys : List Int) (i0 j0 : Int) (s : ByteArray) (w : World) (h : MdAt w m sa sn ga gn) (hx : IntsAt w xa xn xs) (hy : IntsAt w ya yn ys) (hs : s.size ≤ maxLen) :
    Calls Try.prog 14 #[.agg (mdCells m sa sn sc ga gn gc), .slice xa xn xc, .slice ya yn yc, .agg #[.int .i64 i0, .int .i64 j0, .string s]] w fun e w' => e = .returned (.tuple #[.int .i64 (scV m xs ys ⟨i0, j0, s.data.toList⟩), .int .i64 (scE m xs ys ⟨i0, j0, s.data.toList⟩)]) ∧ Below w.heap.size w w' := by
  have hxl := hx.length
  have hyl := hy.length
  have HM : Hid (MdAt w m sa sn ga gn) := h
  have HX : Hid (IntsAt w xa xn xs) := hx
  have HY : Hid (IntsAt w ya yn ys) := hy
  have HSz : Hid (s.size ≤ maxLen) := hs
  clear h hx hy hs
  have HB0 : Hid (S2 w (mdCells m sa sn sc ga gn gc) #[.int .i64 i0, .int .i64 j0, .string s] ((w.alloc (.cells (mdCells m sa sn sc ga gn gc) 31)).alloc (.cells #[.int .i64 i0, .int .i64 j0, .string s] 33))) := S2.start w _ _
  rw [show mdCells m sa sn sc ga gn gc = #[.int .i64 m.letters, .slice sa sn sc, .slice ga gn gc, .int .i64 m.mode, .bool m.banded, .int .i64 m.lo, .int .i64 m.hi, .int .i64 m.front, .int .i64 m.back, .int .i64 m.least] from rfl]
  go_enter Try.func14, Try.ntmps14
  go_wp2_with fail
  refine (fieldOf_calls m sa sn sc ga gn gc xa xn xc ya yn yc xs ys _ (HM.out.below HB0.out.low) (HX.out.below HB0.out.low) (HY.out.below HB0.out.low)).mono ?_
  rintro e w1 ⟨rfl, hb⟩
  have HB : Hid (S2 w (mdCells m sa sn sc ga gn gc) #[.int .i64 i0, .int .i64 j0, .string s] w1) := HB0.out.next hb
  clear hb HB0
  have hlt1 : w.heap.size + 1 < w1.heap.size := (Array.getElem?_eq_some_iff.1 HB.out.p).1
  have hp0 := cell_block HB.out.p 0 (.int .i64 i0) rfl
  have hp1 := cell_block HB.out.p 1 (.int .i64 j0) rfl
  have hp2 := cell_block HB.out.p 2 (.string s) rfl
  by_cases hre : refE m xs ys = 0
  · rw [if_pos hre, hre, show fdCells m sa sn sc ga gn gc xa xn xc ya yn yc = #[.int .i64 m.letters, .slice sa sn sc, .slice ga gn gc, .int .i64 m.mode, .bool m.banded, .int .i64 m.lo, .int .i64 m.hi, .int .i64 m.front, .int .i64 m.back, .int .i64 m.least, .slice xa xn xc, .slice ya yn yc] from rfl]
    have HO := fdOk_of hre HM.out HX.out HY.out
    have HOk : Hid (FdOk m xs ys w sa sn ga gn xa xn ya yn) := HO
    clear HO
    obtain ⟨al, hal⟩ : ∃ r, allowsB m xn yn ⟨i0, j0, s.data.toList⟩ = r := ⟨_, rfl⟩
    have HA : Hid (allowsB m xn yn ⟨i0, j0, s.data.toList⟩ = al) := hal
    clear hal
    have hnb : (w1.alloc (.cells #[.int .i64 m.letters, .slice sa sn sc, .slice ga gn gc, .int .i64 m.mode, .bool m.banded, .int .i64 m.lo, .int .i64 m.hi, .int .i64 m.front, .int .i64 m.back, .int .i64 m.least, .slice xa xn xc, .slice ya yn yc] 55)).heap[w1.heap.size]? = some (.cells #[.int .i64 m.letters, .slice sa sn sc, .slice ga gn gc, .int .i64 m.mode, .bool m.banded, .int .i64 m.lo, .int .i64 m.hi, .int .i64 m.front, .int .i64 m.back, .int .i64 m.least, .slice xa xn xc, .slice ya yn yc] 55 (0, 0)) := hp_at rfl
    have n0 := cell_block hnb 0 (.int .i64 m.letters) rfl
    have n1 := cell_block hnb 1 (.slice sa sn sc) rfl
    have n2 := cell_block hnb 2 (.slice ga gn gc) rfl
    have n3 := cell_block hnb 3 (.int .i64 m.mode) rfl
    have n4 := cell_block hnb 4 (.bool m.banded) rfl
    have n5 := cell_block hnb 5 (.int .i64 m.lo) rfl
    have n6 := cell_block hnb 6 (.int .i64 m.hi) rfl
    have n7 := cell_block hnb 7 (.int .i64 m.front) rfl
    have n8 := cell_block hnb 8 (.int .i64 m.back) rfl
    have n9 := cell_block hnb 9 (.int .i64 m.least) rfl
    have n10 := cell_block hnb 10 (.slice xa xn xc) rfl
    have n11 := cell_block hnb 11 (.slice ya yn yc) rfl
    clear hnb
    have HB2 : Hid (S2 w (mdCells m sa sn sc ga gn gc) #[.int .i64 i0, .int .i64 j0, .string s] (w1.alloc (.cells #[.int .i64 m.letters, .slice sa sn sc, .slice ga gn gc, .int .i64 m.mode, .bool m.banded, .int .i64 m.lo, .int .i64 m.hi, .int .i64 m.front, .int .i64 m.back, .int .i64 m.least, .slice xa xn xc, .slice ya yn yc] 55))) := HB.out.next (bl1 _ _)
    go_wp2_with fail
    refine (allows_calls m sa sn sc ga gn gc xa xn xc ya yn yc i0 j0 s _ (by unfold maxLen; have := HOk.out.sx; omega) (by unfold maxLen; have := HOk.out.sy; omega) (by have := HOk.out.sx; omega) (by have := HOk.out.sy; omega) HM.out.gaps.length HSz.out).mono ?_
    rintro e w3 ⟨rfl, hb3⟩
    rw [HA.out]
    have HB3 : Hid (S2 w (mdCells m sa sn sc ga gn gc) #[.int .i64 i0, .int .i64 j0, .string s] w3) := HB2.out.next hb3
    have hnb3 : w3.heap[w1.heap.size]? = some (.cells #[.int .i64 m.letters, .slice sa sn sc, .slice ga gn gc, .int .i64 m.mode, .bool m.banded, .int .i64 m.lo, .int .i64 m.hi, .int .i64 m.front, .int .i64 m.back, .int .i64 m.least, .slice xa xn xc, .slice ya yn yc] 55 (0, 0)) := (Fr.of_below (O := fun _ => False) hb3).heap (hp_at rfl) (fun h => h)
    have hp0 := cell_block HB3.out.p 0 (.int .i64 i0) rfl
    have hp1 := cell_block HB3.out.p 1 (.int .i64 j0) rfl
    have hp2 := cell_block HB3.out.p 2 (.string s) rfl
    have n0 := cell_block hnb3 0 (.int .i64 m.letters) rfl
    have n1 := cell_block hnb3 1 (.slice sa sn sc) rfl
    have n2 := cell_block hnb3 2 (.slice ga gn gc) rfl
    have n3 := cell_block hnb3 3 (.int .i64 m.mode) rfl
    have n4 := cell_block hnb3 4 (.bool m.banded) rfl
    have n5 := cell_block hnb3 5 (.int .i64 m.lo) rfl
    have n6 := cell_block hnb3 6 (.int .i64 m.hi) rfl
    have n7 := cell_block hnb3 7 (.int .i64 m.front) rfl
    have n8 := cell_block hnb3 8 (.int .i64 m.back) rfl
    have n9 := cell_block hnb3 9 (.int .i64 m.least) rfl
    have n10 := cell_block hnb3 10 (.slice xa xn xc) rfl
    have n11 := cell_block hnb3 11 (.slice ya yn yc) rfl
    clear hnb3 hb3
    cases al
    · have HE : Hid (scE m xs ys ⟨i0, j0, s.data.toList⟩ = 111 ∧ scV m xs ys ⟨i0, j0, s.data.toList⟩ = 0) := sc_no hre (by rw [hxl, hyl]; exact HA.out)
      go_wp2
      go_ret2
      exact ⟨ret_two HE.out.2.symm HE.out.1.symm, HB3.out.low⟩
    · have HE : Hid (scE m xs ys ⟨i0, j0, s.data.toList⟩ = 0 ∧ scV m xs ys ⟨i0, j0, s.data.toList⟩ = worthW m xs ys ⟨i0, j0, s.data.toList⟩) := sc_yes hre (by rw [hxl, hyl]; exact HA.out)
      go_wp2_with fail
      refine (worth_calls m sa sn sc ga gn gc xa xn xc ya yn yc xs ys i0 j0 s _ (HOk.out.below HB3.out.low) HSz.out HA.out).mono ?_
      rintro e w4 ⟨rfl, hb4⟩
      go_wp2
      go_ret2
      exact ⟨ret_two HE.out.2.symm HE.out.1.symm, HB3.out.low.trans (hb4.mono HB3.out.low.size)⟩
  · have HE : Hid (scE m xs ys ⟨i0, j0, s.data.toList⟩ = refE m xs ys ∧ scV m xs ys ⟨i0, j0, s.data.toList⟩ = 0) := sc_err hre
    rw [if_neg hre]
    have hre2 : (refE m xs ys == 0) = false := by simpa using hre
    rw [show fdZero = #[.int .i64 0, .slice none 0 0, .slice none 0 0, .int .i64 0, .bool false, .int .i64 0, .int .i64 0, .int .i64 0, .int .i64 0, .int .i64 0, .slice none 0 0, .slice none 0 0] from rfl]
    go_wp2
    go_ret2
    exact ⟨ret_two HE.out.2.symm HE.out.1.symm, below_al HB.out.low _⟩
set_option maxRecDepth 20000 in
set_option maxHeartbeats 2000000 in
theorem legal_calls (m : Md) (sa : Option Addr) (sn sc : Nat) (ga : Option Addr) (gn gc : Nat) (xa : Option Addr) (xn xc : Nat) (ya : Option Addr) (yn yc : Nat) (xs ys : List Int) (i0 j0 : Int) (s : ByteArray) (w : World) (h : MdAt w m sa sn ga gn) (hx : IntsAt w xa xn xs) (hy : IntsAt w ya yn ys) (hs : s.size ≤ maxLen) :
    Calls Try.prog 12 #[.agg (mdCells m sa sn sc ga gn gc), .slice xa xn xc, .slice ya yn yc, .agg #[.int .i64 i0, .int .i64 j0, .string s]] w fun e w' => e = .returned (.tuple #[.bool (decide (refE m xs ys = 0) && allowsB m xs.length ys.length ⟨i0, j0, s.data.toList⟩), .int .i64 (refE m xs ys)]) ∧ Below w.heap.size w w' := by
  have hxl := hx.length
  have hyl := hy.length
  have HM : Hid (MdAt w m sa sn ga gn) := h
  have HX : Hid (IntsAt w xa xn xs) := hx
  have HY : Hid (IntsAt w ya yn ys) := hy
  have HSz : Hid (s.size ≤ maxLen) := hs
  clear h hx hy hs
  have HB0 : Hid (S2 w (mdCells m sa sn sc ga gn gc) #[.int .i64 i0, .int .i64 j0, .string s] ((w.alloc (.cells (mdCells m sa sn sc ga gn gc) 31)).alloc (.cells #[.int .i64 i0, .int .i64 j0, .string s] 33))) := S2.start w _ _
  rw [show mdCells m sa sn sc ga gn gc = #[.int .i64 m.letters, .slice sa sn sc, .slice ga gn gc, .int .i64 m.mode, .bool m.banded, .int .i64 m.lo, .int .i64 m.hi, .int .i64 m.front, .int .i64 m.back, .int .i64 m.least] from rfl]
  go_enter Try.func12, Try.ntmps12
  go_wp2_with fail
  refine (fieldOf_calls m sa sn sc ga gn gc xa xn xc ya yn yc xs ys _ (HM.out.below HB0.out.low) (HX.out.below HB0.out.low) (HY.out.below HB0.out.low)).mono ?_
  rintro e w1 ⟨rfl, hb⟩
  have HB : Hid (S2 w (mdCells m sa sn sc ga gn gc) #[.int .i64 i0, .int .i64 j0, .string s] w1) := HB0.out.next hb
  clear hb HB0
  have hlt1 : w.heap.size + 1 < w1.heap.size := (Array.getElem?_eq_some_iff.1 HB.out.p).1
  have hp0 := cell_block HB.out.p 0 (.int .i64 i0) rfl
  have hp1 := cell_block HB.out.p 1 (.int .i64 j0) rfl
  have hp2 := cell_block HB.out.p 2 (.string s) rfl
  by_cases hre : refE m xs ys = 0
  · rw [if_pos hre, hre, show fdCells m sa sn sc ga gn gc xa xn xc ya yn yc = #[.int .i64 m.letters, .slice sa sn sc, .slice ga gn gc, .int .i64 m.mode, .bool m.banded, .int .i64 m.lo, .int .i64 m.hi, .int .i64 m.front, .int .i64 m.back, .int .i64 m.least, .slice xa xn xc, .slice ya yn yc] from rfl]
    have HO := fdOk_of hre HM.out HX.out HY.out
    have HOk : Hid (FdOk m xs ys w sa sn ga gn xa xn ya yn) := HO
    clear HO
    obtain ⟨al, hal⟩ : ∃ r, allowsB m xn yn ⟨i0, j0, s.data.toList⟩ = r := ⟨_, rfl⟩
    have HA : Hid (allowsB m xn yn ⟨i0, j0, s.data.toList⟩ = al) := hal
    clear hal
    have hnb : (w1.alloc (.cells #[.int .i64 m.letters, .slice sa sn sc, .slice ga gn gc, .int .i64 m.mode, .bool m.banded, .int .i64 m.lo, .int .i64 m.hi, .int .i64 m.front, .int .i64 m.back, .int .i64 m.least, .slice xa xn xc, .slice ya yn yc] 55)).heap[w1.heap.size]? = some (.cells #[.int .i64 m.letters, .slice sa sn sc, .slice ga gn gc, .int .i64 m.mode, .bool m.banded, .int .i64 m.lo, .int .i64 m.hi, .int .i64 m.front, .int .i64 m.back, .int .i64 m.least, .slice xa xn xc, .slice ya yn yc] 55 (0, 0)) := hp_at rfl
    have n0 := cell_block hnb 0 (.int .i64 m.letters) rfl
    have n1 := cell_block hnb 1 (.slice sa sn sc) rfl
    have n2 := cell_block hnb 2 (.slice ga gn gc) rfl
    have n3 := cell_block hnb 3 (.int .i64 m.mode) rfl
    have n4 := cell_block hnb 4 (.bool m.banded) rfl
    have n5 := cell_block hnb 5 (.int .i64 m.lo) rfl
    have n6 := cell_block hnb 6 (.int .i64 m.hi) rfl
    have n7 := cell_block hnb 7 (.int .i64 m.front) rfl
    have n8 := cell_block hnb 8 (.int .i64 m.back) rfl
    have n9 := cell_block hnb 9 (.int .i64 m.least) rfl
    have n10 := cell_block hnb 10 (.slice xa xn xc) rfl
    have n11 := cell_block hnb 11 (.slice ya yn yc) rfl
    clear hnb
    have HB2 : Hid (S2 w (mdCells m sa sn sc ga gn gc) #[.int .i64 i0, .int .i64 j0, .string s] (w1.alloc (.cells #[.int .i64 m.letters, .slice sa sn sc, .slice ga gn gc, .int .i64 m.mode, .bool m.banded, .int .i64 m.lo, .int .i64 m.hi, .int .i64 m.front, .int .i64 m.back, .int .i64 m.least, .slice xa xn xc, .slice ya yn yc] 55))) := HB.out.next (bl1 _ _)
    go_wp2_with fail
    refine (allows_calls m sa sn sc ga gn gc xa xn xc ya yn yc i0 j0 s _ (by unfold maxLen; have := HOk.out.sx; omega) (by unfold maxLen; have := HOk.out.sy; omega) (by have := HOk.out.sx; omega) (by have := HOk.out.sy; omega) HM.out.gaps.length HSz.out).mono ?_
    rintro e w3 ⟨rfl, hb3⟩
    rw [HA.out]
    have HB3 : Hid (S2 w (mdCells m sa sn sc ga gn gc) #[.int .i64 i0, .int .i64 j0, .string s] w3) := HB2.out.next hb3
    go_wp2
    go_ret2
    exact ⟨by rw [hxl, hyl, HA.out, hre]; simp, HB3.out.low⟩
  · rw [if_neg hre]
    have hre2 : (refE m xs ys == 0) = false := by simpa using hre
    rw [show fdZero = #[.int .i64 0, .slice none 0 0, .slice none 0 0, .int .i64 0, .bool false, .int .i64 0, .int .i64 0, .int .i64 0, .int .i64 0, .int .i64 0, .slice none 0 0, .slice none 0 0] from rfl]
    go_wp2
    go_ret2
    exact ⟨by simp [hre], below_al HB.out.low _⟩
end Go.Proofs.Ytegndeefddlccaa
