/-
  BoundModels is proved for every input: whether models may be, the widest number, how long sequences may be, as the document says; nothing is changed. Its condition is the row's own: what is handed in reads as data.
-/
import Derived.Test.YtaicppkhdfiokaaRows
import Derived.Test.YtaicppkhdfiokaaBdI
import Derived.Test.YtaicppkhdfiokaaBdO
import Derived.WalkKit
import Derived.ProofKit
import Derived.OpenShut
import Derived.ShutString
import Derived.ChangeOld
import Derived.Below
import Derived.Test.YtaicppkhdfiokaaBdQ
namespace Go.Proofs.Ytaicppkhdfiokaa
open Go.RowKit Go.Deep

/-- Two boxes behind what was there, and rows of the call's own. -/
structure B2 (w : World) (ca cb : Array Value) (wr : World) : Prop where
  low : Below w.heap.size w wr
  size : w.heap.size + 1 < wr.heap.size
  boxA : wr.heap[w.heap.size]? = some (.cells ca 25 (0, 0))
  boxB : wr.heap[w.heap.size + 1]? = some (.cells cb 25 (0, 0))
theorem B2.start (w : World) (ca cb : Array Value) : B2 w ca cb ((w.alloc (.cells ca 25)).alloc (.cells cb 25)) := by
  refine ⟨((Below.refl _ _).alloc (Nat.le_refl _) _).alloc (by simp) _, by simp, ?_, ?_⟩
  · have hb := (Below.refl (w.alloc (.cells ca 25)).heap.size (w.alloc (.cells ca 25))).alloc (Nat.le_refl _) (.cells cb 25)
    rw [hb.block _ (by simp)]
    exact heap_alloc_new w _
  · have h := heap_alloc_new (w.alloc (.cells ca 25)) (.cells cb 25)
    rwa [show (w.alloc (.cells ca 25)).heap.size = w.heap.size + 1 by simp] at h
theorem B2.next {w : World} {ca cb : Array Value} {wr w2 : World} (h : B2 w ca cb wr) (hb : Below wr.heap.size wr w2) : B2 w ca cb w2 :=
  ⟨h.low.trans (hb.mono h.low.size), Nat.lt_of_lt_of_le h.size hb.size, by rw [hb.block _ (by have := h.size; omega)]; exact h.boxA, by rw [hb.block _ h.size]; exact h.boxB⟩
theorem B2.drew {w : World} {ca cb : Array Value} {wr : World} (h : B2 w ca cb wr) : B2 w ca cb wr.drew := h.next (Below.refl _ _).drew
theorem B2.cellA {w : World} {ca cb : Array Value} {wr : World} (h : B2 w ca cb wr) (i : Nat) (v : Value) (hv : ca[i]? = some v) : wr.cell? ⟨w.heap.size, i, none⟩ = some v := cell_block h.boxA i v hv
theorem B2.cellB {w : World} {ca cb : Array Value} {wr : World} (h : B2 w ca cb wr) (i : Nat) (v : Value) (hv : cb[i]? = some v) : wr.cell? ⟨w.heap.size + 1, i, none⟩ = some v := cell_block h.boxB i v hv
/-- What the law holds: both boxes, both models, the copies of the first one's lists. -/
structure MS (w : World) (a b : Md) (ca cb : Array Value) (sa1 : Option Addr) (sn1 : Nat) (ga1 : Option Addr) (gn1 : Nat) (sa2 : Option Addr) (sn2 : Nat) (ga2 : Option Addr) (gn2 : Nat) (wr : World) : Prop where
  box : B2 w ca cb wr
  atA : MdAt wr a sa1 sn1 ga1 gn1
  atB : MdAt wr b sa2 sn2 ga2 gn2
theorem MS.next {w : World} {a b : Md} {ca cb : Array Value} {sa1 : Option Addr} {sn1 : Nat} {ga1 : Option Addr} {gn1 : Nat} {sa2 : Option Addr} {sn2 : Nat} {ga2 : Option Addr} {gn2 : Nat} {wr w2 : World} (h : MS w a b ca cb sa1 sn1 ga1 gn1 sa2 sn2 ga2 gn2 wr) (hb : Below wr.heap.size wr w2) : MS w a b ca cb sa1 sn1 ga1 gn1 sa2 sn2 ga2 gn2 w2 :=
  ⟨h.box.next hb, h.atA.below hb, h.atB.below hb⟩

def widV (m : Md) : Int := if rightM m then wid m else 0
def mostV (m : Md) : Int := if rightM m then most (wid m) else 0
def errV (m : Md) : Int := if rightM m then 0 else 110
theorem widV_post {m : Md} {w w' : World} {e : Ending} (h : widPost m w e w') : e = .returned (.tuple #[.int .i64 (widV m), .int .i64 (errV m)]) ∧ Below w.heap.size w w' := h
theorem mostV_post {m : Md} {w w' : World} {e : Ending} (h : mostPost m w e w') : e = .returned (.tuple #[.int .i64 (mostV m), .int .i64 (errV m)]) ∧ Below w.heap.size w w' := h
set_option maxHeartbeats 2000000 in
set_option maxRecDepth 20000 in
theorem models_walk (a : Md) (sa1 : Option Addr) (sn1 sc1 : Nat) (ga1 : Option Addr) (gn1 gc1 : Nat) (b : Md) (sa2 : Option Addr) (sn2 sc2 : Nat) (ga2 : Option Addr) (gn2 gc2 : Nat) (w : World) (h : MdIn w a sa1 sn1 ga1 gn1) (h' : MdIn w b sa2 sn2 ga2 gn2) :
    Calls Try.prog 3 #[.agg (mdCells a sa1 sn1 sc1 ga1 gn1 gc1), .agg (mdCells b sa2 sn2 sc2 ga2 gn2 gc2)] w fun e w' => e = .returned (.bool true) ∧ Below w.heap.size w w' := by
  obtain ⟨i3, hi3, hz30, hz31, hz32⟩ := info_parts info3
  obtain ⟨i32, hi32, hz320, hz321, hz322⟩ := info_parts info32
  have HA : Hid (MdAt w a sa1 sn1 ga1 gn1) := h.at'
  have HB : Hid (MdAt w b sa2 sn2 ga2 gn2) := h'.at'
  have hsn := h.few
  have hgn := h.less
  have hsn2 := h'.few
  have hgn2 := h'.less
  clear h h'
  rw [show mdCells a sa1 sn1 sc1 ga1 gn1 gc1 = #[.int .i64 a.letters, .slice sa1 sn1 sc1, .slice ga1 gn1 gc1, .int .i64 a.mode, .bool a.banded, .int .i64 a.lo, .int .i64 a.hi, .int .i64 a.front, .int .i64 a.back, .int .i64 a.least] from rfl, show mdCells b sa2 sn2 sc2 ga2 gn2 gc2 = #[.int .i64 b.letters, .slice sa2 sn2 sc2, .slice ga2 gn2 gc2, .int .i64 b.mode, .bool b.banded, .int .i64 b.lo, .int .i64 b.hi, .int .i64 b.front, .int .i64 b.back, .int .i64 b.least] from rfl]
  go_enter Try.func3, Try.ntmps3
  go_wp2_with fail
  refine (awake_calls _).mono ?_
  rintro e w1 ⟨rfl, hb⟩
  have HM : Hid (MS w a b (mdCells a sa1 sn1 sc1 ga1 gn1 gc1) (mdCells b sa2 sn2 sc2 ga2 gn2 gc2) sa1 sn1 ga1 gn1 sa2 sn2 ga2 gn2 w1) := by
    have hb0 : Below w.heap.size w ((w.alloc (.cells (mdCells a sa1 sn1 sc1 ga1 gn1 gc1) 25)).alloc (.cells (mdCells b sa2 sn2 sc2 ga2 gn2 gc2) 25)) := (B2.start w _ _).low
    exact MS.next ⟨B2.start w _ _, HA.out.below hb0, HB.out.below hb0⟩ hb
  clear hb HA HB
  have c1 := HM.out.box.cellA 1 (.slice sa1 sn1 sc1) rfl
  have hne : w.heap.size < w1.heap.size := by have := HM.out.box.size; omega
  have hr := ints_src (HM.out.atA.subst.below ((Below.refl _ _).alloc (Nat.le_refl _) (.cells #[] 3)))
  have HR : Hid (SrcAt (w1.alloc (.cells #[] 3)) sa1 sn1 1 (intVals a.subst)) := hr
  have HE : Hid ((w1.alloc (.cells #[] 3)).ownsRow w1.heap.size 3 1 (.slice (some ⟨w1.heap.size, 0, none⟩) 0 0) 0 []) := empty_row w1 3 1 _ (Nat.le_refl _) _ rfl
  clear hr
  go_wp2_with (at_builtin; refine wpList_append_opt rfl _ _ 22 rfl w1.heap.size 3 i3 (.int .i64 0) 1 8 Try.underlying22 hi3 hz30 hz31 hz32 rfl (by decide) (.slice (some ⟨w1.heap.size, 0, none⟩) 0 0) 0 [] rfl HE.out sa1 sn1 sc1 (intVals a.subst) rfl HR.out (by unfold maxLen; omega) (by omega) (by simp) ?_)
  intro v2 w2 hown hgrow
  obtain ⟨vo, vc, rfl⟩ := owned_shape hown
  have hb2 : Below w1.heap.size w1 w2 := ((Below.refl _ _).alloc (Nat.le_refl _) (.cells #[] 3)).grown hgrow (by simp) (by intro k hk; cases hk; simp)
  have HI : Hid (IntsAt w2 vo sn1 a.subst) := ints_own hown HM.out.atA.subst.length (by unfold maxLen; omega)
  have HM2 : Hid (MS w a b (mdCells a sa1 sn1 sc1 ga1 gn1 gc1) (mdCells b sa2 sn2 sc2 ga2 gn2 gc2) sa1 sn1 ga1 gn1 sa2 sn2 ga2 gn2 w2) := HM.out.next hb2
  clear hown hgrow hb2 HM c1 hne HR HE
  have c2 := HM2.out.box.cellA 2 (.slice ga1 gn1 gc1) rfl
  have hne : w.heap.size < w2.heap.size := by have := HM2.out.box.size; omega
  have hr := gaps_src (HM2.out.atA.gaps.below ((Below.refl _ _).alloc (Nat.le_refl _) (.cells #[] 32)))
  have HR : Hid (SrcAt (w2.alloc (.cells #[] 32)) ga1 gn1 2 (gapVals a.gaps)) := hr
  have HE : Hid ((w2.alloc (.cells #[] 32)).ownsRow w2.heap.size 32 2 (.slice (some ⟨w2.heap.size, 0, none⟩) 0 0) 0 []) := empty_row w2 32 2 _ (Nat.le_refl _) _ rfl
  clear hr
  go_wp2_with (at_builtin; refine wpList_append_opt rfl _ _ 23 rfl w2.heap.size 32 i32 (.agg #[.int .i64 0, .int .i64 0]) 2 16 Try.underlying23 hi32 hz320 hz321 hz322 rfl (by decide) (.slice (some ⟨w2.heap.size, 0, none⟩) 0 0) 0 [] rfl HE.out ga1 gn1 gc1 (gapVals a.gaps) rfl HR.out (by unfold maxLen; omega) (by omega) (by simp) ?_)
  intro v3 w3 hown hgrow
  obtain ⟨uo, uc, rfl⟩ := owned_shape hown
  have hb2 : Below w2.heap.size w2 w3 := ((Below.refl _ _).alloc (Nat.le_refl _) (.cells #[] 32)).grown hgrow (by simp) (by intro k hk; cases hk; simp)
  have HG : Hid (GpsAt w3 uo gn1 a.gaps) := gaps_own hown HM2.out.atA.gaps.length (by unfold maxLen; omega)
  have HI3 : Hid (IntsAt w3 vo sn1 a.subst) := HI.out.below hb2
  have HM3 : Hid (MS w a b (mdCells a sa1 sn1 sc1 ga1 gn1 gc1) (mdCells b sa2 sn2 sc2 ga2 gn2 gc2) sa1 sn1 ga1 gn1 sa2 sn2 ga2 gn2 w3) := HM2.out.next hb2
  clear hown hgrow hb2 HM2 c2 hne HR HE HI hz30 hz31 hz32 hz320 hz321 hz322 hi3 hi32
  have c0 := HM3.out.box.cellA 0 (.int .i64 a.letters) rfl
  have c1 := HM3.out.box.cellA 1 (.slice sa1 sn1 sc1) rfl
  have c2 := HM3.out.box.cellA 2 (.slice ga1 gn1 gc1) rfl
  have c3 := HM3.out.box.cellA 3 (.int .i64 a.mode) rfl
  have c4 := HM3.out.box.cellA 4 (.bool a.banded) rfl
  have c5 := HM3.out.box.cellA 5 (.int .i64 a.lo) rfl
  have c6 := HM3.out.box.cellA 6 (.int .i64 a.hi) rfl
  have c7 := HM3.out.box.cellA 7 (.int .i64 a.front) rfl
  have c8 := HM3.out.box.cellA 8 (.int .i64 a.back) rfl
  have c9 := HM3.out.box.cellA 9 (.int .i64 a.least) rfl
  go_wp2_with fail
  refine (right_calls a sa1 sn1 sc1 ga1 gn1 gc1 _ HM3.out.atA).mono ?_
  rintro e w4 ⟨rfl, hb2⟩
  have HM4 : Hid (MS w a b (mdCells a sa1 sn1 sc1 ga1 gn1 gc1) (mdCells b sa2 sn2 sc2 ga2 gn2 gc2) sa1 sn1 ga1 gn1 sa2 sn2 ga2 gn2 w4) := HM3.out.next hb2
  have HI4 : Hid (IntsAt w4 vo sn1 a.subst) := HI3.out.below hb2
  have HG4 : Hid (GpsAt w4 uo gn1 a.gaps) := HG.out.below hb2
  clear hb2 HM3 HI3 HG c0 c1 c2 c3 c4 c5 c6 c7 c8 c9
  have c0 := HM4.out.box.cellB 0 (.int .i64 b.letters) rfl
  have c1 := HM4.out.box.cellB 1 (.slice sa2 sn2 sc2) rfl
  have c2 := HM4.out.box.cellB 2 (.slice ga2 gn2 gc2) rfl
  have c3 := HM4.out.box.cellB 3 (.int .i64 b.mode) rfl
  have c4 := HM4.out.box.cellB 4 (.bool b.banded) rfl
  have c5 := HM4.out.box.cellB 5 (.int .i64 b.lo) rfl
  have c6 := HM4.out.box.cellB 6 (.int .i64 b.hi) rfl
  have c7 := HM4.out.box.cellB 7 (.int .i64 b.front) rfl
  have c8 := HM4.out.box.cellB 8 (.int .i64 b.back) rfl
  have c9 := HM4.out.box.cellB 9 (.int .i64 b.least) rfl
  go_wp2_with fail
  refine (right_calls b sa2 sn2 sc2 ga2 gn2 gc2 _ HM4.out.atB).mono ?_
  rintro e w5 ⟨rfl, hb2⟩
  have HM5 : Hid (MS w a b (mdCells a sa1 sn1 sc1 ga1 gn1 gc1) (mdCells b sa2 sn2 sc2 ga2 gn2 gc2) sa1 sn1 ga1 gn1 sa2 sn2 ga2 gn2 w5) := HM4.out.next hb2
  have HI5 : Hid (IntsAt w5 vo sn1 a.subst) := HI4.out.below hb2
  have HG5 : Hid (GpsAt w5 uo gn1 a.gaps) := HG4.out.below hb2
  clear hb2 HM4 HI4 HG4 c0 c1 c2 c3 c4 c5 c6 c7 c8 c9
  have c0 := HM5.out.box.cellA 0 (.int .i64 a.letters) rfl
  have c1 := HM5.out.box.cellA 1 (.slice sa1 sn1 sc1) rfl
  have c2 := HM5.out.box.cellA 2 (.slice ga1 gn1 gc1) rfl
  have c3 := HM5.out.box.cellA 3 (.int .i64 a.mode) rfl
  have c4 := HM5.out.box.cellA 4 (.bool a.banded) rfl
  have c5 := HM5.out.box.cellA 5 (.int .i64 a.lo) rfl
  have c6 := HM5.out.box.cellA 6 (.int .i64 a.hi) rfl
  have c7 := HM5.out.box.cellA 7 (.int .i64 a.front) rfl
  have c8 := HM5.out.box.cellA 8 (.int .i64 a.back) rfl
  have c9 := HM5.out.box.cellA 9 (.int .i64 a.least) rfl
  go_wp2_with fail
  refine (rightR_calls a sa1 sn1 sc1 ga1 gn1 gc1 _ HM5.out.atA).mono ?_
  rintro e w6 ⟨rfl, hb2⟩
  have HM6 : Hid (MS w a b (mdCells a sa1 sn1 sc1 ga1 gn1 gc1) (mdCells b sa2 sn2 sc2 ga2 gn2 gc2) sa1 sn1 ga1 gn1 sa2 sn2 ga2 gn2 w6) := HM5.out.next hb2
  have HI6 : Hid (IntsAt w6 vo sn1 a.subst) := HI5.out.below hb2
  have HG6 : Hid (GpsAt w6 uo gn1 a.gaps) := HG5.out.below hb2
  clear hb2 HM5 HI5 HG5 c0 c1 c2 c3 c4 c5 c6 c7 c8 c9
  have c0 := HM6.out.box.cellB 0 (.int .i64 b.letters) rfl
  have c1 := HM6.out.box.cellB 1 (.slice sa2 sn2 sc2) rfl
  have c2 := HM6.out.box.cellB 2 (.slice ga2 gn2 gc2) rfl
  have c3 := HM6.out.box.cellB 3 (.int .i64 b.mode) rfl
  have c4 := HM6.out.box.cellB 4 (.bool b.banded) rfl
  have c5 := HM6.out.box.cellB 5 (.int .i64 b.lo) rfl
  have c6 := HM6.out.box.cellB 6 (.int .i64 b.hi) rfl
  have c7 := HM6.out.box.cellB 7 (.int .i64 b.front) rfl
  have c8 := HM6.out.box.cellB 8 (.int .i64 b.back) rfl
  have c9 := HM6.out.box.cellB 9 (.int .i64 b.least) rfl
  go_wp2_with fail
  refine (rightR_calls b sa2 sn2 sc2 ga2 gn2 gc2 _ HM6.out.atB).mono ?_
  rintro e w7 ⟨rfl, hb2⟩
  have HM7 : Hid (MS w a b (mdCells a sa1 sn1 sc1 ga1 gn1 gc1) (mdCells b sa2 sn2 sc2 ga2 gn2 gc2) sa1 sn1 ga1 gn1 sa2 sn2 ga2 gn2 w7) := HM6.out.next hb2
  have HI7 : Hid (IntsAt w7 vo sn1 a.subst) := HI6.out.below hb2
  have HG7 : Hid (GpsAt w7 uo gn1 a.gaps) := HG6.out.below hb2
  clear hb2 HM6 HI6 HG6 c0 c1 c2 c3 c4 c5 c6 c7 c8 c9
  have c0 := HM7.out.box.cellA 0 (.int .i64 a.letters) rfl
  have c1 := HM7.out.box.cellA 1 (.slice sa1 sn1 sc1) rfl
  have c2 := HM7.out.box.cellA 2 (.slice ga1 gn1 gc1) rfl
  have c3 := HM7.out.box.cellA 3 (.int .i64 a.mode) rfl
  have c4 := HM7.out.box.cellA 4 (.bool a.banded) rfl
  have c5 := HM7.out.box.cellA 5 (.int .i64 a.lo) rfl
  have c6 := HM7.out.box.cellA 6 (.int .i64 a.hi) rfl
  have c7 := HM7.out.box.cellA 7 (.int .i64 a.front) rfl
  have c8 := HM7.out.box.cellA 8 (.int .i64 a.back) rfl
  have c9 := HM7.out.box.cellA 9 (.int .i64 a.least) rfl
  go_wp2_with fail
  refine (widest_model a sa1 sn1 sc1 ga1 gn1 gc1 _ HM7.out.atA).mono ?_
  intro e w8 hp
  obtain ⟨rfl, hb2⟩ := widV_post hp
  clear hp
  have HM8 : Hid (MS w a b (mdCells a sa1 sn1 sc1 ga1 gn1 gc1) (mdCells b sa2 sn2 sc2 ga2 gn2 gc2) sa1 sn1 ga1 gn1 sa2 sn2 ga2 gn2 w8) := HM7.out.next hb2
  have HI8 : Hid (IntsAt w8 vo sn1 a.subst) := HI7.out.below hb2
  have HG8 : Hid (GpsAt w8 uo gn1 a.gaps) := HG7.out.below hb2
  clear hb2 HM7 HI7 HG7 c0 c1 c2 c3 c4 c5 c6 c7 c8 c9
  have c0 := HM8.out.box.cellA 0 (.int .i64 a.letters) rfl
  have c1 := HM8.out.box.cellA 1 (.slice sa1 sn1 sc1) rfl
  have c2 := HM8.out.box.cellA 2 (.slice ga1 gn1 gc1) rfl
  have c3 := HM8.out.box.cellA 3 (.int .i64 a.mode) rfl
  have c4 := HM8.out.box.cellA 4 (.bool a.banded) rfl
  have c5 := HM8.out.box.cellA 5 (.int .i64 a.lo) rfl
  have c6 := HM8.out.box.cellA 6 (.int .i64 a.hi) rfl
  have c7 := HM8.out.box.cellA 7 (.int .i64 a.front) rfl
  have c8 := HM8.out.box.cellA 8 (.int .i64 a.back) rfl
  have c9 := HM8.out.box.cellA 9 (.int .i64 a.least) rfl
  go_wp2_with fail
  refine (widestR_model a sa1 sn1 sc1 ga1 gn1 gc1 _ HM8.out.atA).mono ?_
  intro e w9 hp
  obtain ⟨rfl, hb2⟩ := widV_post hp
  clear hp
  have HM9 : Hid (MS w a b (mdCells a sa1 sn1 sc1 ga1 gn1 gc1) (mdCells b sa2 sn2 sc2 ga2 gn2 gc2) sa1 sn1 ga1 gn1 sa2 sn2 ga2 gn2 w9) := HM8.out.next hb2
  have HI9 : Hid (IntsAt w9 vo sn1 a.subst) := HI8.out.below hb2
  have HG9 : Hid (GpsAt w9 uo gn1 a.gaps) := HG8.out.below hb2
  clear hb2 HM8 HI8 HG8 c0 c1 c2 c3 c4 c5 c6 c7 c8 c9
  have c0 := HM9.out.box.cellA 0 (.int .i64 a.letters) rfl
  have c1 := HM9.out.box.cellA 1 (.slice sa1 sn1 sc1) rfl
  have c2 := HM9.out.box.cellA 2 (.slice ga1 gn1 gc1) rfl
  have c3 := HM9.out.box.cellA 3 (.int .i64 a.mode) rfl
  have c4 := HM9.out.box.cellA 4 (.bool a.banded) rfl
  have c5 := HM9.out.box.cellA 5 (.int .i64 a.lo) rfl
  have c6 := HM9.out.box.cellA 6 (.int .i64 a.hi) rfl
  have c7 := HM9.out.box.cellA 7 (.int .i64 a.front) rfl
  have c8 := HM9.out.box.cellA 8 (.int .i64 a.back) rfl
  have c9 := HM9.out.box.cellA 9 (.int .i64 a.least) rfl
  go_wp2_with fail
  refine (most_calls a sa1 sn1 sc1 ga1 gn1 gc1 _ HM9.out.atA).mono ?_
  intro e w10 hp
  obtain ⟨rfl, hb2⟩ := mostV_post hp
  clear hp
  have HM10 : Hid (MS w a b (mdCells a sa1 sn1 sc1 ga1 gn1 gc1) (mdCells b sa2 sn2 sc2 ga2 gn2 gc2) sa1 sn1 ga1 gn1 sa2 sn2 ga2 gn2 w10) := HM9.out.next hb2
  have HI10 : Hid (IntsAt w10 vo sn1 a.subst) := HI9.out.below hb2
  have HG10 : Hid (GpsAt w10 uo gn1 a.gaps) := HG9.out.below hb2
  clear hb2 HM9 HI9 HG9 c0 c1 c2 c3 c4 c5 c6 c7 c8 c9
  have c0 := HM10.out.box.cellA 0 (.int .i64 a.letters) rfl
  have c1 := HM10.out.box.cellA 1 (.slice sa1 sn1 sc1) rfl
  have c2 := HM10.out.box.cellA 2 (.slice ga1 gn1 gc1) rfl
  have c3 := HM10.out.box.cellA 3 (.int .i64 a.mode) rfl
  have c4 := HM10.out.box.cellA 4 (.bool a.banded) rfl
  have c5 := HM10.out.box.cellA 5 (.int .i64 a.lo) rfl
  have c6 := HM10.out.box.cellA 6 (.int .i64 a.hi) rfl
  have c7 := HM10.out.box.cellA 7 (.int .i64 a.front) rfl
  have c8 := HM10.out.box.cellA 8 (.int .i64 a.back) rfl
  have c9 := HM10.out.box.cellA 9 (.int .i64 a.least) rfl
  go_wp2_with fail
  refine (mostR_calls a sa1 sn1 sc1 ga1 gn1 gc1 _ HM10.out.atA).mono ?_
  intro e w11 hp
  obtain ⟨rfl, hb2⟩ := mostV_post hp
  clear hp
  have HM11 : Hid (MS w a b (mdCells a sa1 sn1 sc1 ga1 gn1 gc1) (mdCells b sa2 sn2 sc2 ga2 gn2 gc2) sa1 sn1 ga1 gn1 sa2 sn2 ga2 gn2 w11) := HM10.out.next hb2
  have HI11 : Hid (IntsAt w11 vo sn1 a.subst) := HI10.out.below hb2
  have HG11 : Hid (GpsAt w11 uo gn1 a.gaps) := HG10.out.below hb2
  clear hb2 HM10 HI10 HG10 c0 c1 c2 c3 c4 c5 c6 c7 c8 c9
  have c0 := HM11.out.box.cellB 0 (.int .i64 b.letters) rfl
  have c1 := HM11.out.box.cellB 1 (.slice sa2 sn2 sc2) rfl
  have c2 := HM11.out.box.cellB 2 (.slice ga2 gn2 gc2) rfl
  have c3 := HM11.out.box.cellB 3 (.int .i64 b.mode) rfl
  have c4 := HM11.out.box.cellB 4 (.bool b.banded) rfl
  have c5 := HM11.out.box.cellB 5 (.int .i64 b.lo) rfl
  have c6 := HM11.out.box.cellB 6 (.int .i64 b.hi) rfl
  have c7 := HM11.out.box.cellB 7 (.int .i64 b.front) rfl
  have c8 := HM11.out.box.cellB 8 (.int .i64 b.back) rfl
  have c9 := HM11.out.box.cellB 9 (.int .i64 b.least) rfl
  go_wp2_with fail
  refine (most_calls b sa2 sn2 sc2 ga2 gn2 gc2 _ HM11.out.atB).mono ?_
  intro e w12 hp
  obtain ⟨rfl, hb2⟩ := mostV_post hp
  clear hp
  have HM12 : Hid (MS w a b (mdCells a sa1 sn1 sc1 ga1 gn1 gc1) (mdCells b sa2 sn2 sc2 ga2 gn2 gc2) sa1 sn1 ga1 gn1 sa2 sn2 ga2 gn2 w12) := HM11.out.next hb2
  have HI12 : Hid (IntsAt w12 vo sn1 a.subst) := HI11.out.below hb2
  have HG12 : Hid (GpsAt w12 uo gn1 a.gaps) := HG11.out.below hb2
  clear hb2 HM11 HI11 HG11 c0 c1 c2 c3 c4 c5 c6 c7 c8 c9
  have c0 := HM12.out.box.cellB 0 (.int .i64 b.letters) rfl
  have c1 := HM12.out.box.cellB 1 (.slice sa2 sn2 sc2) rfl
  have c2 := HM12.out.box.cellB 2 (.slice ga2 gn2 gc2) rfl
  have c3 := HM12.out.box.cellB 3 (.int .i64 b.mode) rfl
  have c4 := HM12.out.box.cellB 4 (.bool b.banded) rfl
  have c5 := HM12.out.box.cellB 5 (.int .i64 b.lo) rfl
  have c6 := HM12.out.box.cellB 6 (.int .i64 b.hi) rfl
  have c7 := HM12.out.box.cellB 7 (.int .i64 b.front) rfl
  have c8 := HM12.out.box.cellB 8 (.int .i64 b.back) rfl
  have c9 := HM12.out.box.cellB 9 (.int .i64 b.least) rfl
  go_wp2_with fail
  refine (mostR_calls b sa2 sn2 sc2 ga2 gn2 gc2 _ HM12.out.atB).mono ?_
  intro e w13 hp
  obtain ⟨rfl, hb2⟩ := mostV_post hp
  clear hp
  have HM13 : Hid (MS w a b (mdCells a sa1 sn1 sc1 ga1 gn1 gc1) (mdCells b sa2 sn2 sc2 ga2 gn2 gc2) sa1 sn1 ga1 gn1 sa2 sn2 ga2 gn2 w13) := HM12.out.next hb2
  have HI13 : Hid (IntsAt w13 vo sn1 a.subst) := HI12.out.below hb2
  have HG13 : Hid (GpsAt w13 uo gn1 a.gaps) := HG12.out.below hb2
  clear hb2 HM12 HI12 HG12 c0 c1 c2 c3 c4 c5 c6 c7 c8 c9
  generalize rightM a = p1 at *
  generalize rightM b = p2 at *
  generalize widV a = p3 at *
  generalize errV a = p4 at *
  generalize mostV a = p5 at *
  generalize mostV b = p6 at *
  generalize errV b = p7 at *
  go_wp2
  go_loopw [5, 24] (fun o i wr => ∃ k : Nat, k ≤ sn1 ∧ i = .int .i64 k ∧ o = .bool true ∧ MS w a b (mdCells a sa1 sn1 sc1 ga1 gn1 gc1) (mdCells b sa2 sn2 sc2 ga2 gn2 gc2) sa1 sn1 ga1 gn1 sa2 sn2 ga2 gn2 wr ∧ IntsAt wr vo sn1 a.subst ∧ GpsAt wr uo gn1 a.gaps) (fun _ i _ => sn1 - (intOf i).toNat)
  case atStart => exact ⟨0, Nat.zero_le _, rfl, rfl, HM13.out, HI13.out, HG13.out⟩
  case round =>
    obtain ⟨k, hk, rfl, rfl, hm, hi, hg⟩ := hrel
    have HM : Hid (MS w a b (mdCells a sa1 sn1 sc1 ga1 gn1 gc1) (mdCells b sa2 sn2 sc2 ga2 gn2 gc2) sa1 sn1 ga1 gn1 sa2 sn2 ga2 gn2 wr) := hm
    have HI : Hid (IntsAt wr vo sn1 a.subst) := hi
    have HG : Hid (GpsAt wr uo gn1 a.gaps) := hg
    clear hm hi hg HM13 HI13 HG13
    by_cases hlt : k < sn1
    · obtain ⟨b1, o1, rfl, hc1⟩ := HI.out.cells (by omega)
      obtain ⟨b2, o2, rfl, hc2⟩ := HM.out.atA.subst.cells (by omega)
      have d1 := hc1 k hlt
      have d2 := hc2 k hlt
      clear hc1 hc2
      generalize a.subst.getD k 0 = z at d1 d2
      have d3 := HM.out.box.cellA 1 (.slice (some ⟨b2, o2, none⟩) sn1 sc1) rfl
      have ez : (z == z) = true := by simp
      go_wp2_with fail
      go_region_held3 (fun W => W.cell? ⟨b1, o1 + k, none⟩ = some (.int .i64 z) ∧ W.cell? ⟨b2, o2 + k, none⟩ = some (.int .i64 z) ∧ W.cell? ⟨w.heap.size, 1, none⟩ = some (.slice (some ⟨b2, o2, none⟩) sn1 sc1)) (first | with_reducible assumption | exact ⟨by assumption, by assumption, by assumption⟩) (fail)
      go_wp2
      go_roundw
      case rel => exact ⟨k + 1, by omega, by go_num, rfl, HM.out.next (Below.refl _ _).drew, HI.out.drew, HG.out.below (Below.refl _ _).drew⟩
      case measure => simp [intOf]; omega
    · go_wp2
      go_loopw [5, 25] (fun o i wr => ∃ k : Nat, k ≤ gn1 ∧ i = .int .i64 k ∧ o = .bool true ∧ MS w a b (mdCells a sa1 sn1 sc1 ga1 gn1 gc1) (mdCells b sa2 sn2 sc2 ga2 gn2 gc2) sa1 sn1 ga1 gn1 sa2 sn2 ga2 gn2 wr ∧ GpsAt wr uo gn1 a.gaps) (fun _ i _ => gn1 - (intOf i).toNat)
      case atStart => exact ⟨0, Nat.zero_le _, rfl, rfl, HM.out, HG.out⟩
      case round =>
        clear hk hlt HM HI HG
        obtain ⟨k, hk, rfl, rfl, hm, hg⟩ := hrel
        have HM : Hid (MS w a b (mdCells a sa1 sn1 sc1 ga1 gn1 gc1) (mdCells b sa2 sn2 sc2 ga2 gn2 gc2) sa1 sn1 ga1 gn1 sa2 sn2 ga2 gn2 wr) := hm
        have HG : Hid (GpsAt wr uo gn1 a.gaps) := hg
        clear hm hg
        by_cases hlt : k < gn1
        · obtain ⟨g, hgk⟩ := get_lt (l := a.gaps) (k := k) (by rw [HG.out.length]; exact hlt)
          obtain ⟨b1, o1, rfl, hc1⟩ := HG.out.cells (by omega)
          obtain ⟨b2, o2, rfl, hc2⟩ := HM.out.atA.gaps.cells (by omega)
          obtain ⟨d1, d2⟩ := hc1 k g hgk
          obtain ⟨d4, d5⟩ := hc2 k g hgk
          clear hc1 hc2 hgk
          obtain ⟨x, y⟩ := g
          simp only at d1 d2 d4 d5
          have d3 := HM.out.box.cellA 2 (.slice (some ⟨b2, o2, none⟩) gn1 gc1) rfl
          have ex : (x == x) = true := by simp
          have ey : (y == y) = true := by simp
          go_wp2_with fail
          go_region_held3 (fun W => W.cell? ⟨b1, o1 + k * 2, none⟩ = some (.int .i64 x) ∧ W.cell? ⟨b1, o1 + k * 2 + 1, none⟩ = some (.int .i64 y) ∧ W.cell? ⟨b2, o2 + k * 2, none⟩ = some (.int .i64 x) ∧ W.cell? ⟨b2, o2 + k * 2 + 1, none⟩ = some (.int .i64 y) ∧ W.cell? ⟨w.heap.size, 2, none⟩ = some (.slice (some ⟨b2, o2, none⟩) gn1 gc1)) (first | with_reducible assumption | exact ⟨by assumption, by assumption, by assumption, by assumption, by assumption⟩) (fail)
          go_wp2
          go_roundw
          case rel => exact ⟨k + 1, by omega, by go_num, rfl, HM.out.next (Below.refl _ _).drew, HG.out.below (Below.refl _ _).drew⟩
          case measure => simp [intOf]; omega
        · have e1 : (p1 == p1) = true := by simp
          have e2 : (p2 == p2) = true := by simp
          have e3 : (p3 == p3) = true := by simp
          have e4 : (p4 == p4) = true := by simp
          have e5 : (p5 == p5) = true := by simp
          have e6 : (p6 == p6) = true := by simp
          have e7 : (p7 == p7) = true := by simp
          go_wp2
          go_ret
          exact ⟨rfl, HM.out.box.low⟩

namespace boundModels
open Go.ChangeShapes Go.WideShapes Go.ChangeAt Go.RowKit
open Go.ChangeMaps (open_string shut_string)
theorem own : ownKnob Try.prog.godebug = none := by kernel_rfl
theorem laidOut : laidOutB Try.prog = true := by kernel_rfl
set_option maxRecDepth 100000 in
theorem lifted (os : Os) (started : os.Started) (H : Type) (enc : TypeId × Value → H) :
    ReturnsInHanded {} Try.checked os 3 .any (Rows.boundModelsSpec.pre6 enc Try.prog Try.f3 Rows.boundModelsRow.domain false) (Rows.boundModelsSpec.post enc Try.prog Try.f3 false true false false) := by
  refine returnsInHanded_of_change_sized (C := Try.checked) own started (by kernel_rfl) Try.func3
    (ChangeSpec.witness6 (enc := enc) (C := Try.checked) false ⟨#[], #[.agg #[.int .i64 0, .slice none 0 0, .slice none 0 0, .int .i64 0, .bool false, .int .i64 0, .int .i64 0, .int .i64 0, .int .i64 0, .int .i64 0], .agg #[.int .i64 0, .slice none 0 0, .slice none 0 0, .int .i64 0, .bool false, .int .i64 0, .int .i64 0, .int .i64 0, .int .i64 0, .int .i64 0]], []⟩ 8 (by kernel_rfl) (by kernel_rfl) (by kernel_rfl) (by kernel_rfl)) ?_
  intro W base args ds gs before hval0 hW _ hsz0 _
  have hval : ∀ (j : Nat) t v, Try.f3.params[j]? = some t → args[j]? = some v → Value.okWide Try.prog W .any base t v := hval0
  have hsz : (DataW.weightsEach Try.prog (Try.f3.params.toList ++ Rows.boundModelsSpec.plain.varTypes Try.prog) (ds ++ gs)).all (· ≤ reachBytes) = true := hsz0
  have hW' := hW
  obtain ⟨p, q, hA0, hV, rfl, hfz, hnd⟩ := hW
  have hA : DataW.TrodAll enc Try.prog W 0 (fun _ => true) true Try.f3.params.toList args.toList ds p := hA0
  rw [Try.params3] at hA hval hsz
  obtain ⟨v0, vs0, d0, ds0, p0, q0, hargs, rfl, rfl, h0, r0⟩ := trodAll_cons hA
  obtain ⟨v1, vs1, d1, ds1, p1, q1, rfl, rfl, rfl, h1, r1⟩ := trodAll_cons r0
  obtain ⟨rfl, rfl, rfl⟩ := trodAll_nil r1
  obtain rfl : args = #[v0, v1] := by cases args; simp_all
  obtain ⟨rfl, rfl⟩ := trodVars_none hV
  have hw : ∀ (j : Nat) (t : TypeId) (d : DataW H), ([25, 25] ++ Rows.boundModelsSpec.plain.varTypes Try.prog)[j]? = some t → ([d0, d1] ++ [])[j]? = some d → ∀ n ∈ d.weights Try.prog t, n ≤ reachBytes := fun j t d ht hd n hn =>
    of_decide_eq_true (List.all_eq_true.1 hsz _ (DataW.weights_mem_each ht hd n hn))
  obtain ⟨cs0, rfl, hcs0⟩ := okWide_struct Try.underlying25 (hval 0 25 v0 rfl rfl)
  have lt0 : ∀ x ∈ p0, x.block < W.heap.size := by obtain ⟨m, hm⟩ := h0; exact DataW.trod_lt m _ _ _ hm
  obtain ⟨m0, sa0, sn0, sc0, ga0, gn0, gc0, e0, in0⟩ := md_in hcs0 h0 (hw 0 25 d0 rfl rfl)
  subst e0
  obtain ⟨cs1, rfl, hcs1⟩ := okWide_struct Try.underlying25 (hval 1 25 v1 rfl rfl)
  have lt1 : ∀ x ∈ p1, x.block < W.heap.size := by obtain ⟨m, hm⟩ := h1; exact DataW.trod_lt m _ _ _ hm
  obtain ⟨m1, sa1, sn1, sc1, ga1, gn1, gc1, e1, in1⟩ := md_in hcs1 h1 (hw 1 25 d1 rfl rfl)
  subst e1
  clear hA0 hval0
  refine (models_walk m0 sa0 sn0 sc0 ga0 gn0 gc0 m1 sa1 sn1 sc1 ga1 gn1 gc1 W in0 in1).mono fun e W' ⟨he, bel⟩ => ?_
  subst he
  exact ⟨_, rfl, _, _, _, [], _, [], hW', trodAll_mk1 (shut_bool Try.underlying4 _), (trodAll_cons_mk (Below.trod laidOut (by kernel_rfl) (of_decide_eq_true (by kernel_rfl)) h0 bel lt0) (trodAll_cons_mk (Below.trod laidOut (by kernel_rfl) (of_decide_eq_true (by kernel_rfl)) h1 bel lt1) trodAll_mk0)), rfl, bel.frame _, fun h => by cases h⟩
end boundModels

theorem boundModels_holds : Rows.BoundModelsSaid :=
  OpenClaim.holds_of_wide 3 Try.f3 rfl rfl rfl rfl rfl rfl rfl ⟨rfl, rfl, rfl, rfl, rfl⟩ rfl rfl rfl rfl rfl (by kernel_rfl) Try.func3 (by kernel_rfl)
    (of_decide_eq_true (by kernel_rfl)) (by unfold Func.isWrapper; first | (rw [if_pos (by decide +kernel)]; kernel_rfl) | (rw [if_neg (by decide +kernel)]; exact ⟨rfl, rfl⟩))
    (fun os started H enc _ => boundModels.lifted os started H enc)

end Go.Proofs.Ytaicppkhdfiokaa
