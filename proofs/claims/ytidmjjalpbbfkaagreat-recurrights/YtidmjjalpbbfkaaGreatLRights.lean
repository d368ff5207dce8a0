/-
  Proved: whatever two recurrences are handed in, RecurRights answers true; no condition but that what is handed in can be read.
-/
import Derived.Test.YtidmjjalpbbfkaaGreatRows
import Derived.WalkKit
import Derived.ProofKit
import Derived.OpenShut
import Derived.ShutString
import Derived.ChangeOld
import Derived.Below
import Derived.Test.YtidmjjalpbbfkaaGreatG50
import Derived.Test.YtidmjjalpbbfkaaGreatG39
import Derived.Test.YtidmjjalpbbfkaaGreatRoO
namespace Go.Proofs.YtidmjjalpbbfkaaGreat
open Go.RowKit Go.Deep
set_option maxRecDepth 100000
set_option maxHeartbeats 2000000
structure T2 (w:World) (c1 c2:Array Value) (wr:World):Prop where
 low:Below w.heap.size w wr
 b1:wr.heap[w.heap.size]? = some (.cells c1 30 (0,0))
 b2:wr.heap[w.heap.size + 1]? = some (.cells c2 30 (0,0))
theorem T2.start (w:World) (c1 c2:Array Value):T2 w c1 c2 ((w.alloc (.cells c1 30)).alloc (.cells c2 30)):=by
 refine ⟨((Below.refl _ _).alloc (Nat.le_refl _) _).alloc (by simp) _,?_,?_⟩
 ·have hb:=(Below.refl (w.alloc (.cells c1 30)).heap.size (w.alloc (.cells c1 30))).alloc (Nat.le_refl _) (.cells c2 30)
  rw [hb.block _ (by simp)]
  exact heap_alloc_new w _
 ·have h:=heap_alloc_new (w.alloc (.cells c1 30)) (.cells c2 30)
  rwa [show (w.alloc (.cells c1 30)).heap.size = w.heap.size + 1 by simp] at h
theorem T2.next {w:World} {c1 c2:Array Value} {wr w2:World} (h:T2 w c1 c2 wr) (hb:Below wr.heap.size wr w2):T2 w c1 c2 w2:=
 ⟨h.low.trans (hb.mono h.low.size),by rw [hb.block _ (lt_block h.b1)]; exact h.b1,by rw [hb.block _ (lt_block h.b2)]; exact h.b2⟩
theorem rights_walk (x0:Rc) (da0:Option Addr) (dn0 dc0:Nat) (sa0:Option Addr) (sn0 sc0:Nat) (ta0:Option Addr) (tn0 tc0:Nat) (x1:Rc) (da1:Option Addr) (dn1 dc1:Nat) (sa1:Option Addr) (sn1 sc1:Nat) (ta1:Option Addr) (tn1 tc1:Nat) (w:World) (h0:RcAt w x0 da0 dn0 sa0 sn0 ta0 tn0) (h1:RcAt w x1 da1 dn1 sa1 sn1 ta1 tn1) :
 Calls Tryz.prog 4 #[.agg (rcCells x0 da0 dn0 dc0 sa0 sn0 sc0 ta0 tn0 tc0),.agg (rcCells x1 da1 dn1 dc1 sa1 sn1 sc1 ta1 tn1 tc1)] w fun e w'=>e = .returned (.bool true) /\ Below w.heap.size w w':=by
 have HB:Hid (T2 w (rcCells x0 da0 dn0 dc0 sa0 sn0 sc0 ta0 tn0 tc0) (rcCells x1 da1 dn1 dc1 sa1 sn1 sc1 ta1 tn1 tc1) ((w.alloc (.cells (rcCells x0 da0 dn0 dc0 sa0 sn0 sc0 ta0 tn0 tc0) 30)).alloc (.cells (rcCells x1 da1 dn1 dc1 sa1 sn1 sc1 ta1 tn1 tc1) 30))):=T2.start w _ _
 have HC0:Hid (∀ W,Below w.heap.size w W -> Calls Tryz.prog 11 #[.agg (rcCells x0 da0 dn0 dc0 sa0 sn0 sc0 ta0 tn0 tc0)] W fun e w'=>e = .returned (.bool (rightR x0)) /\ Below W.heap.size W w'):=fun W hW=>rightR_calls x0 da0 dn0 dc0 sa0 sn0 sc0 ta0 tn0 tc0 W (h0.below hW)
 have HC1:Hid (∀ W,Below w.heap.size w W -> Calls Tryz.prog 11 #[.agg (rcCells x1 da1 dn1 dc1 sa1 sn1 sc1 ta1 tn1 tc1)] W fun e w'=>e = .returned (.bool (rightR x1)) /\ Below W.heap.size W w'):=fun W hW=>rightR_calls x1 da1 dn1 dc1 sa1 sn1 sc1 ta1 tn1 tc1 W (h1.below hW)
 have HC2:Hid (∀ W,Below w.heap.size w W -> Calls Tryz.prog 12 #[.agg (rcCells x0 da0 dn0 dc0 sa0 sn0 sc0 ta0 tn0 tc0)] W fun e w'=>e = .returned (.bool (rightR x0)) /\ Below W.heap.size W w'):=fun W hW=>refright_calls x0 da0 dn0 dc0 sa0 sn0 sc0 ta0 tn0 tc0 W (h0.below hW)
 have HC3:Hid (∀ W,Below w.heap.size w W -> Calls Tryz.prog 12 #[.agg (rcCells x1 da1 dn1 dc1 sa1 sn1 sc1 ta1 tn1 tc1)] W fun e w'=>e = .returned (.bool (rightR x1)) /\ Below W.heap.size W w'):=fun W hW=>refright_calls x1 da1 dn1 dc1 sa1 sn1 sc1 ta1 tn1 tc1 W (h1.below hW)
 have HC4:Hid (∀ W,Below w.heap.size w W -> Calls Tryz.prog 13 #[.agg (rcCells x0 da0 dn0 dc0 sa0 sn0 sc0 ta0 tn0 tc0)] W fun e w'=>e = .returned (.bool (foldedR x0)) /\ Below W.heap.size W w'):=fun W hW=>folded_calls x0 da0 dn0 dc0 sa0 sn0 sc0 ta0 tn0 tc0 W (h0.defs.below hW)
 have HC5:Hid (∀ W,Below w.heap.size w W -> Calls Tryz.prog 13 #[.agg (rcCells x1 da1 dn1 dc1 sa1 sn1 sc1 ta1 tn1 tc1)] W fun e w'=>e = .returned (.bool (foldedR x1)) /\ Below W.heap.size W w'):=fun W hW=>folded_calls x1 da1 dn1 dc1 sa1 sn1 sc1 ta1 tn1 tc1 W (h1.defs.below hW)
 have HC6:Hid (∀ W,Below w.heap.size w W -> Calls Tryz.prog 14 #[.agg (rcCells x0 da0 dn0 dc0 sa0 sn0 sc0 ta0 tn0 tc0)] W fun e w'=>e = .returned (.bool (foldedR x0)) /\ Below W.heap.size W w'):=fun W hW=>reffolded_calls x0 da0 dn0 dc0 sa0 sn0 sc0 ta0 tn0 tc0 W (h0.defs.below hW)
 have HC7:Hid (∀ W,Below w.heap.size w W -> Calls Tryz.prog 14 #[.agg (rcCells x1 da1 dn1 dc1 sa1 sn1 sc1 ta1 tn1 tc1)] W fun e w'=>e = .returned (.bool (foldedR x1)) /\ Below W.heap.size W w'):=fun W hW=>reffolded_calls x1 da1 dn1 dc1 sa1 sn1 sc1 ta1 tn1 tc1 W (h1.defs.below hW)
 clear h0 h1
 generalize rightR x0 = R0 at *
 generalize rightR x1 = R1 at *
 generalize foldedR x0 = F0 at *
 generalize foldedR x1 = F1 at *
 unfold rcCells at *
 go_enter Tryz.func4,Tryz.ntmps4
 go_wp2_with fail
 refine (awakeR_calls _).mono ?_
 rintro e w0 ⟨rfl,hb⟩
 have HX0:Hid (T2 w #[.int .i64 x0.letters,.slice da0 dn0 dc0,.slice sa0 sn0 sc0,.int .i64 x0.beg,.int .i64 x0.fin,.int .i64 x0.front,.int .i64 x0.back,.bool x0.banded,.int .i64 x0.lo,.int .i64 x0.hi,.slice ta0 tn0 tc0] #[.int .i64 x1.letters,.slice da1 dn1 dc1,.slice sa1 sn1 sc1,.int .i64 x1.beg,.int .i64 x1.fin,.int .i64 x1.front,.int .i64 x1.back,.bool x1.banded,.int .i64 x1.lo,.int .i64 x1.hi,.slice ta1 tn1 tc1] w0):=HB.out.next hb
 clear hb HB
 have c0:w0.cell? ⟨w.heap.size,0,none⟩ = some (.int .i64 x0.letters):=blk HX0.out.b1 rfl
 have c1:w0.cell? ⟨w.heap.size,1,none⟩ = some (.slice da0 dn0 dc0):=blk HX0.out.b1 rfl
 have c2:w0.cell? ⟨w.heap.size,2,none⟩ = some (.slice sa0 sn0 sc0):=blk HX0.out.b1 rfl
 have c3:w0.cell? ⟨w.heap.size,3,none⟩ = some (.int .i64 x0.beg):=blk HX0.out.b1 rfl
 have c4:w0.cell? ⟨w.heap.size,4,none⟩ = some (.int .i64 x0.fin):=blk HX0.out.b1 rfl
 have c5:w0.cell? ⟨w.heap.size,5,none⟩ = some (.int .i64 x0.front):=blk HX0.out.b1 rfl
 have c6:w0.cell? ⟨w.heap.size,6,none⟩ = some (.int .i64 x0.back):=blk HX0.out.b1 rfl
 have c7:w0.cell? ⟨w.heap.size,7,none⟩ = some (.bool x0.banded):=blk HX0.out.b1 rfl
 have c8:w0.cell? ⟨w.heap.size,8,none⟩ = some (.int .i64 x0.lo):=blk HX0.out.b1 rfl
 have c9:w0.cell? ⟨w.heap.size,9,none⟩ = some (.int .i64 x0.hi):=blk HX0.out.b1 rfl
 have c10:w0.cell? ⟨w.heap.size,10,none⟩ = some (.slice ta0 tn0 tc0):=blk HX0.out.b1 rfl
 go_wp2_with fail
 refine (HC0.out _ HX0.out.low).mono ?_
 rintro e w1 ⟨rfl,hb⟩
 have HX1:Hid (T2 w #[.int .i64 x0.letters,.slice da0 dn0 dc0,.slice sa0 sn0 sc0,.int .i64 x0.beg,.int .i64 x0.fin,.int .i64 x0.front,.int .i64 x0.back,.bool x0.banded,.int .i64 x0.lo,.int .i64 x0.hi,.slice ta0 tn0 tc0] #[.int .i64 x1.letters,.slice da1 dn1 dc1,.slice sa1 sn1 sc1,.int .i64 x1.beg,.int .i64 x1.fin,.int .i64 x1.front,.int .i64 x1.back,.bool x1.banded,.int .i64 x1.lo,.int .i64 x1.hi,.slice ta1 tn1 tc1] w1):=HX0.out.next hb
 clear hb HX0 HC0 c0 c1 c2 c3 c4 c5 c6 c7 c8 c9 c10
 have c0:w1.cell? ⟨w.heap.size + 1,0,none⟩ = some (.int .i64 x1.letters):=blk HX1.out.b2 rfl
 have c1:w1.cell? ⟨w.heap.size + 1,1,none⟩ = some (.slice da1 dn1 dc1):=blk HX1.out.b2 rfl
 have c2:w1.cell? ⟨w.heap.size + 1,2,none⟩ = some (.slice sa1 sn1 sc1):=blk HX1.out.b2 rfl
 have c3:w1.cell? ⟨w.heap.size + 1,3,none⟩ = some (.int .i64 x1.beg):=blk HX1.out.b2 rfl
 have c4:w1.cell? ⟨w.heap.size + 1,4,none⟩ = some (.int .i64 x1.fin):=blk HX1.out.b2 rfl
 have c5:w1.cell? ⟨w.heap.size + 1,5,none⟩ = some (.int .i64 x1.front):=blk HX1.out.b2 rfl
 have c6:w1.cell? ⟨w.heap.size + 1,6,none⟩ = some (.int .i64 x1.back):=blk HX1.out.b2 rfl
 have c7:w1.cell? ⟨w.heap.size + 1,7,none⟩ = some (.bool x1.banded):=blk HX1.out.b2 rfl
 have c8:w1.cell? ⟨w.heap.size + 1,8,none⟩ = some (.int .i64 x1.lo):=blk HX1.out.b2 rfl
 have c9:w1.cell? ⟨w.heap.size + 1,9,none⟩ = some (.int .i64 x1.hi):=blk HX1.out.b2 rfl
 have c10:w1.cell? ⟨w.heap.size + 1,10,none⟩ = some (.slice ta1 tn1 tc1):=blk HX1.out.b2 rfl
 go_wp2_with fail
 refine (HC1.out _ HX1.out.low).mono ?_
 rintro e w2 ⟨rfl,hb⟩
 have HX2:Hid (T2 w #[.int .i64 x0.letters,.slice da0 dn0 dc0,.slice sa0 sn0 sc0,.int .i64 x0.beg,.int .i64 x0.fin,.int .i64 x0.front,.int .i64 x0.back,.bool x0.banded,.int .i64 x0.lo,.int .i64 x0.hi,.slice ta0 tn0 tc0] #[.int .i64 x1.letters,.slice da1 dn1 dc1,.slice sa1 sn1 sc1,.int .i64 x1.beg,.int .i64 x1.fin,.int .i64 x1.front,.int .i64 x1.back,.bool x1.banded,.int .i64 x1.lo,.int .i64 x1.hi,.slice ta1 tn1 tc1] w2):=HX1.out.next hb
 clear hb HX1 HC1 c0 c1 c2 c3 c4 c5 c6 c7 c8 c9 c10
 have c0:w2.cell? ⟨w.heap.size,0,none⟩ = some (.int .i64 x0.letters):=blk HX2.out.b1 rfl
 have c1:w2.cell? ⟨w.heap.size,1,none⟩ = some (.slice da0 dn0 dc0):=blk HX2.out.b1 rfl
 have c2:w2.cell? ⟨w.heap.size,2,none⟩ = some (.slice sa0 sn0 sc0):=blk HX2.out.b1 rfl
 have c3:w2.cell? ⟨w.heap.size,3,none⟩ = some (.int .i64 x0.beg):=blk HX2.out.b1 rfl
 have c4:w2.cell? ⟨w.heap.size,4,none⟩ = some (.int .i64 x0.fin):=blk HX2.out.b1 rfl
 have c5:w2.cell? ⟨w.heap.size,5,none⟩ = some (.int .i64 x0.front):=blk HX2.out.b1 rfl
 have c6:w2.cell? ⟨w.heap.size,6,none⟩ = some (.int .i64 x0.back):=blk HX2.out.b1 rfl
 have c7:w2.cell? ⟨w.heap.size,7,none⟩ = some (.bool x0.banded):=blk HX2.out.b1 rfl
 have c8:w2.cell? ⟨w.heap.size,8,none⟩ = some (.int .i64 x0.lo):=blk HX2.out.b1 rfl
 have c9:w2.cell? ⟨w.heap.size,9,none⟩ = some (.int .i64 x0.hi):=blk HX2.out.b1 rfl
 have c10:w2.cell? ⟨w.heap.size,10,none⟩ = some (.slice ta0 tn0 tc0):=blk HX2.out.b1 rfl
 go_wp2_with fail
 refine (HC2.out _ HX2.out.low).mono ?_
 rintro e w3 ⟨rfl,hb⟩
 have HX3:Hid (T2 w #[.int .i64 x0.letters,.slice da0 dn0 dc0,.slice sa0 sn0 sc0,.int .i64 x0.beg,.int .i64 x0.fin,.int .i64 x0.front,.int .i64 x0.back,.bool x0.banded,.int .i64 x0.lo,.int .i64 x0.hi,.slice ta0 tn0 tc0] #[.int .i64 x1.letters,.slice da1 dn1 dc1,.slice sa1 sn1 sc1,.int .i64 x1.beg,.int .i64 x1.fin,.int .i64 x1.front,.int .i64 x1.back,.bool x1.banded,.int .i64 x1.lo,.int .i64 x1.hi,.slice ta1 tn1 tc1] w3):=HX2.out.next hb
 clear hb HX2 HC2 c0 c1 c2 c3 c4 c5 c6 c7 c8 c9 c10
 have c0:w3.cell? ⟨w.heap.size + 1,0,none⟩ = some (.int .i64 x1.letters):=blk HX3.out.b2 rfl
 have c1:w3.cell? ⟨w.heap.size + 1,1,none⟩ = some (.slice da1 dn1 dc1):=blk HX3.out.b2 rfl
 have c2:w3.cell? ⟨w.heap.size + 1,2,none⟩ = some (.slice sa1 sn1 sc1):=blk HX3.out.b2 rfl
 have c3:w3.cell? ⟨w.heap.size + 1,3,none⟩ = some (.int .i64 x1.beg):=blk HX3.out.b2 rfl
 have c4:w3.cell? ⟨w.heap.size + 1,4,none⟩ = some (.int .i64 x1.fin):=blk HX3.out.b2 rfl
 have c5:w3.cell? ⟨w.heap.size + 1,5,none⟩ = some (.int .i64 x1.front):=blk HX3.out.b2 rfl
 have c6:w3.cell? ⟨w.heap.size + 1,6,none⟩ = some (.int .i64 x1.back):=blk HX3.out.b2 rfl
 have c7:w3.cell? ⟨w.heap.size + 1,7,none⟩ = some (.bool x1.banded):=blk HX3.out.b2 rfl
 have c8:w3.cell? ⟨w.heap.size + 1,8,none⟩ = some (.int .i64 x1.lo):=blk HX3.out.b2 rfl
 have c9:w3.cell? ⟨w.heap.size + 1,9,none⟩ = some (.int .i64 x1.hi):=blk HX3.out.b2 rfl
 have c10:w3.cell? ⟨w.heap.size + 1,10,none⟩ = some (.slice ta1 tn1 tc1):=blk HX3.out.b2 rfl
 go_wp2_with fail
 refine (HC3.out _ HX3.out.low).mono ?_
 rintro e w4 ⟨rfl,hb⟩
 have HX4:Hid (T2 w #[.int .i64 x0.letters,.slice da0 dn0 dc0,.slice sa0 sn0 sc0,.int .i64 x0.beg,.int .i64 x0.fin,.int .i64 x0.front,.int .i64 x0.back,.bool x0.banded,.int .i64 x0.lo,.int .i64 x0.hi,.slice ta0 tn0 tc0] #[.int .i64 x1.letters,.slice da1 dn1 dc1,.slice sa1 sn1 sc1,.int .i64 x1.beg,.int .i64 x1.fin,.int .i64 x1.front,.int .i64 x1.back,.bool x1.banded,.int .i64 x1.lo,.int .i64 x1.hi,.slice ta1 tn1 tc1] w4):=HX3.out.next hb
 clear hb HX3 HC3 c0 c1 c2 c3 c4 c5 c6 c7 c8 c9 c10
 have c0:w4.cell? ⟨w.heap.size,0,none⟩ = some (.int .i64 x0.letters):=blk HX4.out.b1 rfl
 have c1:w4.cell? ⟨w.heap.size,1,none⟩ = some (.slice da0 dn0 dc0):=blk HX4.out.b1 rfl
 have c2:w4.cell? ⟨w.heap.size,2,none⟩ = some (.slice sa0 sn0 sc0):=blk HX4.out.b1 rfl
 have c3:w4.cell? ⟨w.heap.size,3,none⟩ = some (.int .i64 x0.beg):=blk HX4.out.b1 rfl
 have c4:w4.cell? ⟨w.heap.size,4,none⟩ = some (.int .i64 x0.fin):=blk HX4.out.b1 rfl
 have c5:w4.cell? ⟨w.heap.size,5,none⟩ = some (.int .i64 x0.front):=blk HX4.out.b1 rfl
 have c6:w4.cell? ⟨w.heap.size,6,none⟩ = some (.int .i64 x0.back):=blk HX4.out.b1 rfl
 have c7:w4.cell? ⟨w.heap.size,7,none⟩ = some (.bool x0.banded):=blk HX4.out.b1 rfl
 have c8:w4.cell? ⟨w.heap.size,8,none⟩ = some (.int .i64 x0.lo):=blk HX4.out.b1 rfl
 have c9:w4.cell? ⟨w.heap.size,9,none⟩ = some (.int .i64 x0.hi):=blk HX4.out.b1 rfl
 have c10:w4.cell? ⟨w.heap.size,10,none⟩ = some (.slice ta0 tn0 tc0):=blk HX4.out.b1 rfl
 go_wp2_with fail
 refine (HC4.out _ HX4.out.low).mono ?_
 rintro e w5 ⟨rfl,hb⟩
 have HX5:Hid (T2 w #[.int .i64 x0.letters,.slice da0 dn0 dc0,.slice sa0 sn0 sc0,.int .i64 x0.beg,.int .i64 x0.fin,.int .i64 x0.front,.int .i64 x0.back,.bool x0.banded,.int .i64 x0.lo,.int .i64 x0.hi,.slice ta0 tn0 tc0] #[.int .i64 x1.letters,.slice da1 dn1 dc1,.slice sa1 sn1 sc1,.int .i64 x1.beg,.int .i64 x1.fin,.int .i64 x1.front,.int .i64 x1.back,.bool x1.banded,.int .i64 x1.lo,.int .i64 x1.hi,.slice ta1 tn1 tc1] w5):=HX4.out.next hb
 clear hb HX4 HC4 c0 c1 c2 c3 c4 c5 c6 c7 c8 c9 c10
 have c0:w5.cell? ⟨w.heap.size + 1,0,none⟩ = some (.int .i64 x1.letters):=blk HX5.out.b2 rfl
 have c1:w5.cell? ⟨w.heap.size + 1,1,none⟩ = some (.slice da1 dn1 dc1):=blk HX5.out.b2 rfl
 have c2:w5.cell? ⟨w.heap.size + 1,2,none⟩ = some (.slice sa1 sn1 sc1):=blk HX5.out.b2 rfl
 have c3:w5.cell? ⟨w.heap.size + 1,3,none⟩ = some (.int .i64 x1.beg):=blk HX5.out.b2 rfl
 have c4:w5.cell? ⟨w.heap.size + 1,4,none⟩ = some (.int .i64 x1.fin):=blk HX5.out.b2 rfl
 have c5:w5.cell? ⟨w.heap.size + 1,5,none⟩ = some (.int .i64 x1.front):=blk HX5.out.b2 rfl
 have c6:w5.cell? ⟨w.heap.size + 1,6,none⟩ = some (.int .i64 x1.back):=blk HX5.out.b2 rfl
 have c7:w5.cell? ⟨w.heap.size + 1,7,none⟩ = some (.bool x1.banded):=blk HX5.out.b2 rfl
 have c8:w5.cell? ⟨w.heap.size + 1,8,none⟩ = some (.int .i64 x1.lo):=blk HX5.out.b2 rfl
 have c9:w5.cell? ⟨w.heap.size + 1,9,none⟩ = some (.int .i64 x1.hi):=blk HX5.out.b2 rfl
 have c10:w5.cell? ⟨w.heap.size + 1,10,none⟩ = some (.slice ta1 tn1 tc1):=blk HX5.out.b2 rfl
 go_wp2_with fail
 refine (HC5.out _ HX5.out.low).mono ?_
 rintro e w6 ⟨rfl,hb⟩
 have HX6:Hid (T2 w #[.int .i64 x0.letters,.slice da0 dn0 dc0,.slice sa0 sn0 sc0,.int .i64 x0.beg,.int .i64 x0.fin,.int .i64 x0.front,.int .i64 x0.back,.bool x0.banded,.int .i64 x0.lo,.int .i64 x0.hi,.slice ta0 tn0 tc0] #[.int .i64 x1.letters,.slice da1 dn1 dc1,.slice sa1 sn1 sc1,.int .i64 x1.beg,.int .i64 x1.fin,.int .i64 x1.front,.int .i64 x1.back,.bool x1.banded,.int .i64 x1.lo,.int .i64 x1.hi,.slice ta1 tn1 tc1] w6):=HX5.out.next hb
 clear hb HX5 HC5 c0 c1 c2 c3 c4 c5 c6 c7 c8 c9 c10
 have c0:w6.cell? ⟨w.heap.size,0,none⟩ = some (.int .i64 x0.letters):=blk HX6.out.b1 rfl
 have c1:w6.cell? ⟨w.heap.size,1,none⟩ = some (.slice da0 dn0 dc0):=blk HX6.out.b1 rfl
 have c2:w6.cell? ⟨w.heap.size,2,none⟩ = some (.slice sa0 sn0 sc0):=blk HX6.out.b1 rfl
 have c3:w6.cell? ⟨w.heap.size,3,none⟩ = some (.int .i64 x0.beg):=blk HX6.out.b1 rfl
 have c4:w6.cell? ⟨w.heap.size,4,none⟩ = some (.int .i64 x0.fin):=blk HX6.out.b1 rfl
 have c5:w6.cell? ⟨w.heap.size,5,none⟩ = some (.int .i64 x0.front):=blk HX6.out.b1 rfl
 have c6:w6.cell? ⟨w.heap.size,6,none⟩ = some (.int .i64 x0.back):=blk HX6.out.b1 rfl
 have c7:w6.cell? ⟨w.heap.size,7,none⟩ = some (.bool x0.banded):=blk HX6.out.b1 rfl
 have c8:w6.cell? ⟨w.heap.size,8,none⟩ = some (.int .i64 x0.lo):=blk HX6.out.b1 rfl
 have c9:w6.cell? ⟨w.heap.size,9,none⟩ = some (.int .i64 x0.hi):=blk HX6.out.b1 rfl
 have c10:w6.cell? ⟨w.heap.size,10,none⟩ = some (.slice ta0 tn0 tc0):=blk HX6.out.b1 rfl
 go_wp2_with fail
 refine (HC6.out _ HX6.out.low).mono ?_
 rintro e w7 ⟨rfl,hb⟩
 have HX7:Hid (T2 w #[.int .i64 x0.letters,.slice da0 dn0 dc0,.slice sa0 sn0 sc0,.int .i64 x0.beg,.int .i64 x0.fin,.int .i64 x0.front,.int .i64 x0.back,.bool x0.banded,.int .i64 x0.lo,.int .i64 x0.hi,.slice ta0 tn0 tc0] #[.int .i64 x1.letters,.slice da1 dn1 dc1,.slice sa1 sn1 sc1,.int .i64 x1.beg,.int .i64 x1.fin,.int .i64 x1.front,.int .i64 x1.back,.bool x1.banded,.int .i64 x1.lo,.int .i64 x1.hi,.slice ta1 tn1 tc1] w7):=HX6.out.next hb
 clear hb HX6 HC6 c0 c1 c2 c3 c4 c5 c6 c7 c8 c9 c10
 have c0:w7.cell? ⟨w.heap.size + 1,0,none⟩ = some (.int .i64 x1.letters):=blk HX7.out.b2 rfl
 have c1:w7.cell? ⟨w.heap.size + 1,1,none⟩ = some (.slice da1 dn1 dc1):=blk HX7.out.b2 rfl
 have c2:w7.cell? ⟨w.heap.size + 1,2,none⟩ = some (.slice sa1 sn1 sc1):=blk HX7.out.b2 rfl
 have c3:w7.cell? ⟨w.heap.size + 1,3,none⟩ = some (.int .i64 x1.beg):=blk HX7.out.b2 rfl
 have c4:w7.cell? ⟨w.heap.size + 1,4,none⟩ = some (.int .i64 x1.fin):=blk HX7.out.b2 rfl
 have c5:w7.cell? ⟨w.heap.size + 1,5,none⟩ = some (.int .i64 x1.front):=blk HX7.out.b2 rfl
 have c6:w7.cell? ⟨w.heap.size + 1,6,none⟩ = some (.int .i64 x1.back):=blk HX7.out.b2 rfl
 have c7:w7.cell? ⟨w.heap.size + 1,7,none⟩ = some (.bool x1.banded):=blk HX7.out.b2 rfl
 have c8:w7.cell? ⟨w.heap.size + 1,8,none⟩ = some (.int .i64 x1.lo):=blk HX7.out.b2 rfl
 have c9:w7.cell? ⟨w.heap.size + 1,9,none⟩ = some (.int .i64 x1.hi):=blk HX7.out.b2 rfl
 have c10:w7.cell? ⟨w.heap.size + 1,10,none⟩ = some (.slice ta1 tn1 tc1):=blk HX7.out.b2 rfl
 go_wp2_with fail
 refine (HC7.out _ HX7.out.low).mono ?_
 rintro e w8 ⟨rfl,hb⟩
 have HX8:Hid (T2 w #[.int .i64 x0.letters,.slice da0 dn0 dc0,.slice sa0 sn0 sc0,.int .i64 x0.beg,.int .i64 x0.fin,.int .i64 x0.front,.int .i64 x0.back,.bool x0.banded,.int .i64 x0.lo,.int .i64 x0.hi,.slice ta0 tn0 tc0] #[.int .i64 x1.letters,.slice da1 dn1 dc1,.slice sa1 sn1 sc1,.int .i64 x1.beg,.int .i64 x1.fin,.int .i64 x1.front,.int .i64 x1.back,.bool x1.banded,.int .i64 x1.lo,.int .i64 x1.hi,.slice ta1 tn1 tc1] w8):=HX7.out.next hb
 clear hb HX7 HC7 c0 c1 c2 c3 c4 c5 c6 c7 c8 c9 c10
 have q0:(R0 == R0) = true:=by simp
 have q1:(R1 == R1) = true:=by simp
 have q2:(F0 == F0) = true:=by simp
 have q3:(F1 == F1) = true:=by simp
 go_wp2
 go_ret
 exact ⟨rfl,HX8.out.low⟩
namespace recurRights
open Go.ChangeShapes Go.WideShapes Go.ChangeAt Go.RowKit
open Go.ChangeMaps (open_string shut_string)
theorem own:ownKnob Tryz.prog.godebug = none:=by kernel_rfl
theorem laidOut:laidOutB Tryz.prog = true:=by kernel_rfl
theorem lifted (os:Os) (started:os.Started) (H:Type) (enc:TypeId × Value -> H) :
 ReturnsInHanded {} Tryz.checked os 4 .any (Rows.recurRightsSpec.pre6 enc Tryz.prog Tryz.f4 Rows.recurRightsRow.domain false) (Rows.recurRightsSpec.post enc Tryz.prog Tryz.f4 false true false false):=by
 refine returnsInHanded_of_change_sized (C:=Tryz.checked) own started (by kernel_rfl) Tryz.func4
  (ChangeSpec.witness6 (enc:=enc) (C:=Tryz.checked) false ⟨#[],#[.agg #[.int .i64 0,.slice none 0 0,.slice none 0 0,.int .i64 0,.int .i64 0,.int .i64 0,.int .i64 0,.bool false,.int .i64 0,.int .i64 0,.slice none 0 0],.agg #[.int .i64 0,.slice none 0 0,.slice none 0 0,.int .i64 0,.int .i64 0,.int .i64 0,.int .i64 0,.bool false,.int .i64 0,.int .i64 0,.slice none 0 0]],[]⟩ 8 (by kernel_rfl) (by kernel_rfl) (by kernel_rfl) (by kernel_rfl)) ?_
 intro W base args ds gs before hval0 hW _ hsz0 _
 have hval:∀ (j:Nat) t v,Tryz.f4.params[j]? = some t -> args[j]? = some v -> Value.okWide Tryz.prog W .any base t v:=hval0
 have hsz:(DataW.weightsEach Tryz.prog (Tryz.f4.params.toList ++ Rows.recurRightsSpec.plain.varTypes Tryz.prog) (ds ++ gs)).all (· <= reachBytes) = true:=hsz0
 have hW':=hW
 obtain ⟨p,q,hA0,hV,rfl,hfz,hnd⟩:=hW
 have hA:DataW.TrodAll enc Tryz.prog W 0 (fun _=>true) true Tryz.f4.params.toList args.toList ds p:=hA0
 rw [Tryz.params4] at hA hval hsz
 obtain ⟨v0,vs0,d0,ds0,p0,q0,hargs,rfl,rfl,h0,r0⟩:=trodAll_cons hA
 obtain ⟨v1,vs1,d1,ds1,p1,q1,rfl,rfl,rfl,h1,r1⟩:=trodAll_cons r0
 obtain ⟨rfl,rfl,rfl⟩:=trodAll_nil r1
 obtain rfl:args = #[v0,v1]:=by cases args; simp_all
 obtain ⟨rfl,rfl⟩:=trodVars_none hV
 have hw:∀ (j:Nat) (t:TypeId) (d:DataW H),([30,30] ++ Rows.recurRightsSpec.plain.varTypes Tryz.prog)[j]? = some t -> ([d0,d1] ++ [])[j]? = some d -> ∀ n ∈ d.weights Tryz.prog t,n <= reachBytes:=fun j t d ht hd n hn=>
  of_decide_eq_true (List.all_eq_true.1 hsz _ (DataW.weights_mem_each ht hd n hn))
 obtain ⟨cs0,rfl,hcs0⟩:=okWide_struct Tryz.underlying30 (hval 0 30 v0 rfl rfl)
 have lt0:∀ x ∈ p0,x.block < W.heap.size:=by obtain ⟨m,hm⟩:=h0; exact DataW.trod_lt m _ _ _ hm
 obtain ⟨x0,da0,dn0,dc0,sa0,sn0,sc0,ta0,tn0,tc0,e0,in0⟩:=rc_in hcs0 h0 (hw 0 30 d0 rfl rfl)
 subst e0
 obtain ⟨cs1,rfl,hcs1⟩:=okWide_struct Tryz.underlying30 (hval 1 30 v1 rfl rfl)
 have lt1:∀ x ∈ p1,x.block < W.heap.size:=by obtain ⟨m,hm⟩:=h1; exact DataW.trod_lt m _ _ _ hm
 obtain ⟨x1,da1,dn1,dc1,sa1,sn1,sc1,ta1,tn1,tc1,e1,in1⟩:=rc_in hcs1 h1 (hw 1 30 d1 rfl rfl)
 subst e1
 clear hA0 hval0
 refine (rights_walk x0 da0 dn0 dc0 sa0 sn0 sc0 ta0 tn0 tc0 x1 da1 dn1 dc1 sa1 sn1 sc1 ta1 tn1 tc1 W in0 in1).mono fun e W' ⟨he,bel⟩=>?_
 subst he
 exact ⟨_,rfl,_,_,_,[],_,[],hW',trodAll_mk1 (shut_bool Tryz.underlying4 _),(trodAll_cons_mk (Below.trod laidOut (by kernel_rfl) (of_decide_eq_true (by kernel_rfl)) h0 bel lt0) (trodAll_cons_mk (Below.trod laidOut (by kernel_rfl) (of_decide_eq_true (by kernel_rfl)) h1 bel lt1) trodAll_mk0)),rfl,bel.frame _,fun h=>by cases h⟩
end recurRights
theorem recurRights_holds:Rows.RecurRightsSaid:=
 OpenClaim.holds_of_wide 4 Tryz.f4 rfl rfl rfl rfl rfl rfl rfl ⟨rfl,rfl,rfl,rfl,rfl⟩ rfl rfl rfl rfl rfl (by kernel_rfl) Tryz.func4 (by kernel_rfl)
  (of_decide_eq_true (by kernel_rfl)) (by unfold Func.isWrapper; first | (rw [if_pos (by decide +kernel)]; kernel_rfl) | (rw [if_neg (by decide +kernel)]; exact ⟨rfl,rfl⟩))
  (fun os started H enc _=>recurRights.lifted os started H enc)
end Go.Proofs.YtidmjjalpbbfkaaGreat
