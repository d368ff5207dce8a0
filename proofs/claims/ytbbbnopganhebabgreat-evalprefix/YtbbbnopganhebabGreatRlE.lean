/-
  Lower: the recurrence of a scheme.
-/
import Derived.Deep.RegionHeld3
import Derived.Deep.MidRow
import Derived.Test.YtbbbnopganhebabGreatG48
import Derived.Test.YtbbbnopganhebabGreatVlG
namespace Go.Proofs.YtbbbnopganhebabGreat
open Go.RowKit Go.Deep Go.Maps
open Go.Value renaming int->I
open Go.IntKind renaming i64->J
set_option maxRecDepth 20000
set_option maxHeartbeats 8000000
theorem below_el {w W:World} (h:Below w.heap.size w W) (v0 v1 v2 v3 v4 v5 v6 v7 v8 v9 v10:Value):Below w.heap.size w (((((((((((W.setCell ⟨w.heap.size + 1,0,none⟩ v0).setCell ⟨w.heap.size + 1,1,none⟩ v1).setCell ⟨w.heap.size + 1,2,none⟩ v2).setCell ⟨w.heap.size + 1,3,none⟩ v3).setCell ⟨w.heap.size + 1,4,none⟩ v4).setCell ⟨w.heap.size + 1,5,none⟩ v5).setCell ⟨w.heap.size + 1,6,none⟩ v6).setCell ⟨w.heap.size + 1,7,none⟩ v7).setCell ⟨w.heap.size + 1,8,none⟩ v8).setCell ⟨w.heap.size + 1,9,none⟩ v9).setCell ⟨w.heap.size + 1,10,none⟩ v10):=by
 have a:∀ (W:World) (i:Nat) (v:Value),Below w.heap.size w W -> Below w.heap.size w (W.setCell ⟨w.heap.size + 1,i,none⟩ v):=fun W i v h=>h.setCell (p:=⟨w.heap.size + 1,i,none⟩) (show w.heap.size <= w.heap.size + 1 by omega) v
 exact (a _ 10 v10 (a _ 9 v9 (a _ 8 v8 (a _ 7 v7 (a _ 6 v6 (a _ 5 v5 (a _ 4 v4 (a _ 3 v3 (a _ 2 v2 (a _ 1 v1 (a _ 0 v0 h)))))))))))
theorem own_el {w W:World} {base:Nat} {e:TypeId} {size:Nat} {v:Value} {n:Nat} {xs:List Value} (h:W.ownsRow base e size v n xs) (hb:w.heap.size + 1 < base) (v0 v1 v2 v3 v4 v5 v6 v7 v8 v9 v10:Value):(((((((((((W.setCell ⟨w.heap.size + 1,0,none⟩ v0).setCell ⟨w.heap.size + 1,1,none⟩ v1).setCell ⟨w.heap.size + 1,2,none⟩ v2).setCell ⟨w.heap.size + 1,3,none⟩ v3).setCell ⟨w.heap.size + 1,4,none⟩ v4).setCell ⟨w.heap.size + 1,5,none⟩ v5).setCell ⟨w.heap.size + 1,6,none⟩ v6).setCell ⟨w.heap.size + 1,7,none⟩ v7).setCell ⟨w.heap.size + 1,8,none⟩ v8).setCell ⟨w.heap.size + 1,9,none⟩ v9).setCell ⟨w.heap.size + 1,10,none⟩ v10).ownsRow base e size v n xs:=by
 have a:∀ (W:World) (i:Nat) (u:Value),W.ownsRow base e size v n xs -> (W.setCell ⟨w.heap.size + 1,i,none⟩ u).ownsRow base e size v n xs:=fun W i u h=>ownsRow_setCell_below h (a:=⟨w.heap.size + 1,i,none⟩) hb u
 exact (a _ 10 v10 (a _ 9 v9 (a _ 8 v8 (a _ 7 v7 (a _ 6 v6 (a _ 5 v5 (a _ 4 v4 (a _ 3 v3 (a _ 2 v2 (a _ 1 v1 (a _ 0 v0 h)))))))))))
theorem sts_el {w W:World} {base:Nat} {v:Value} {l:List St} (h:StsOwn W base v l) (hb:w.heap.size + 1 < base) (v0 v1 v2 v3 v4 v5 v6 v7 v8 v9 v10:Value):StsOwn (((((((((((W.setCell ⟨w.heap.size + 1,0,none⟩ v0).setCell ⟨w.heap.size + 1,1,none⟩ v1).setCell ⟨w.heap.size + 1,2,none⟩ v2).setCell ⟨w.heap.size + 1,3,none⟩ v3).setCell ⟨w.heap.size + 1,4,none⟩ v4).setCell ⟨w.heap.size + 1,5,none⟩ v5).setCell ⟨w.heap.size + 1,6,none⟩ v6).setCell ⟨w.heap.size + 1,7,none⟩ v7).setCell ⟨w.heap.size + 1,8,none⟩ v8).setCell ⟨w.heap.size + 1,9,none⟩ v9).setCell ⟨w.heap.size + 1,10,none⟩ v10) base v l:=by
 obtain ⟨sl,h1,h2⟩:=h.rows
 exact ⟨sl,own_el h1 hb v0 v1 v2 v3 v4 v5 v6 v7 v8 v9 v10,h2.1,fun i r s hi hs=>⟨(h2.2 i r s hi hs).1,(h2.2 i r s hi hs).2.1,(h2.2 i r s hi hs).2.2.1,own_el (h2.2 i r s hi hs).2.2.2 hb v0 v1 v2 v3 v4 v5 v6 v7 v8 v9 v10⟩⟩
theorem StsOwn.base {w:World} {b b':Nat} {v:Value} {l:List St} (h:StsOwn w b v l) (hb:b' <= b):StsOwn w b' v l:=by
 obtain ⟨sl,h1,h2⟩:=h.rows
 exact ⟨sl,owned_base h1 hb,h2.1,fun i r s hi hs=>⟨(h2.2 i r s hi hs).1,(h2.2 i r s hi hs).2.1,(h2.2 i r s hi hs).2.2.1,owned_base (h2.2 i r s hi hs).2.2.2 hb⟩⟩
theorem cel_el {w W:World} {b i:Nat} {u:Value} (h:W.cell? ⟨b,i,none⟩ = some u) (hb:b ≠ w.heap.size + 1) (v0 v1 v2 v3 v4 v5 v6 v7 v8 v9 v10:Value):(((((((((((W.setCell ⟨w.heap.size + 1,0,none⟩ v0).setCell ⟨w.heap.size + 1,1,none⟩ v1).setCell ⟨w.heap.size + 1,2,none⟩ v2).setCell ⟨w.heap.size + 1,3,none⟩ v3).setCell ⟨w.heap.size + 1,4,none⟩ v4).setCell ⟨w.heap.size + 1,5,none⟩ v5).setCell ⟨w.heap.size + 1,6,none⟩ v6).setCell ⟨w.heap.size + 1,7,none⟩ v7).setCell ⟨w.heap.size + 1,8,none⟩ v8).setCell ⟨w.heap.size + 1,9,none⟩ v9).setCell ⟨w.heap.size + 1,10,none⟩ v10).cell? ⟨b,i,none⟩ = some u:=by
 have a:∀ (W:World) (j:Nat) (v:Value),W.cell? ⟨b,i,none⟩ = some u -> (W.setCell ⟨w.heap.size + 1,j,none⟩ v).cell? ⟨b,i,none⟩ = some u:=fun W j v h=>by
  rw [<- h]
  exact World.cell?_setCells_out (w.heap.size + 1) [v] j W ⟨b,i,none⟩ (fun e=>absurd e hb)
 exact (a _ 10 v10 (a _ 9 v9 (a _ 8 v8 (a _ 7 v7 (a _ 6 v6 (a _ 5 v5 (a _ 4 v4 (a _ 3 v3 (a _ 2 v2 (a _ 1 v1 (a _ 0 v0 h)))))))))))
def lowB (x:Sc):Rc:=⟨x.letters.length,x.defs ++ openL x.pieces,x.subst,(endsM x.mode).1,(endsM x.mode).2,x.front,x.back,x.banded,if x.banded then vAt (valsB x.defs).1 x.lo else 0,if x.banded then vAt (valsB x.defs).1 x.hi else 0,statesL x.pieces x.defs.length⟩
/-- A recurrence whose lists are rows of the call's own. -/
structure RcOwn (w:World) (base:Nat) (x:Rc) (da:Option Addr) (dn dc:Nat) (sa:Option Addr) (sn sc:Nat) (ta:Option Addr) (tn tc:Nat):Prop where
 dl:dn = x.defs.length
 sl:sn = x.subst.length
 tl:tn = x.states.length
 defs:w.ownsRow base 53 4 (.slice da dn dc) dn (dfRow x.defs)
 subst:w.ownsRow base 3 1 (.slice sa sn sc) sn (itRow x.subst)
 states:StsOwn w base (.slice ta tn tc) x.states
def LowPost (x:Sc) (w:World) (e:Ending) (w':World):Prop:=
 if rightS x then ∃ da dn dc sa sn sc ta tn tc,e = .returned (.tuple #[.agg (rcCells (lowB x) da dn dc sa sn sc ta tn tc),I J 0]) /\ Below w.heap.size w w' /\ RcOwn w' w.heap.size (lowB x) da dn dc sa sn sc ta tn tc
 else e = .returned (.tuple #[.agg #[I J 0,.slice none 0 0,.slice none 0 0,I J 0,I J 0,I J 0,I J 0,.bool false,I J 0,I J 0,.slice none 0 0],I J 95]) /\ Below w.heap.size w w'
/-- The scheme's box and the result's. -/
structure L5 (w:World) (cs:Array Value) (wr:World):Prop where
 low:Below w.heap.size w wr
 box:wr.heap[w.heap.size]? = some (.cells cs 57 (0,0))
 res:wr.heap[w.heap.size + 1]? = some (.cells #[I J 0,.slice none 0 0,.slice none 0 0,I J 0,I J 0,I J 0,I J 0,.bool false,I J 0,I J 0,.slice none 0 0] 26 (0,0))
theorem L5.start (w:World) (cs:Array Value):L5 w cs ((w.alloc (.cells cs 57)).alloc (.cells #[I J 0,.slice none 0 0,.slice none 0 0,I J 0,I J 0,I J 0,I J 0,.bool false,I J 0,I J 0,.slice none 0 0] 26)):=by
 refine ⟨((Below.refl _ _).alloc (Nat.le_refl _) _).alloc (by simp) _,?_,?_⟩
 ·have hb:=(Below.refl (w.alloc (.cells cs 57)).heap.size (w.alloc (.cells cs 57))).alloc (Nat.le_refl _) (.cells #[I J 0,.slice none 0 0,.slice none 0 0,I J 0,I J 0,I J 0,I J 0,.bool false,I J 0,I J 0,.slice none 0 0] 26)
  rw [hb.block _ (by simp)]
  exact heap_alloc_new w _
 ·have h:=heap_alloc_new (w.alloc (.cells cs 57)) (.cells #[I J 0,.slice none 0 0,.slice none 0 0,I J 0,I J 0,I J 0,I J 0,.bool false,I J 0,I J 0,.slice none 0 0] 26)
  rwa [show (w.alloc (.cells cs 57)).heap.size = w.heap.size + 1 by simp] at h
theorem L5.next {w:World} {cs:Array Value} {wr w2:World} (h:L5 w cs wr) (hb:Below wr.heap.size wr w2):L5 w cs w2:=
 ⟨h.low.trans (hb.mono h.low.size),by rw [hb.block _ (lt_block h.box)]; exact h.box,by rw [hb.block _ (lt_block h.res)]; exact h.res⟩
theorem lower_no (x:Sc) (da:Option Addr) (dn dc:Nat) (sa:Option Addr) (sn sc:Nat) (pa:Option Addr) (pn pc:Nat) (w:World) (h:ScAt w x da dn sa sn pa pn) (hr:rightS x = false) :
 Calls Tryz.prog 16 #[.agg (scCells x da dn dc sa sn sc pa pn pc)] w fun e w'=>LowPost x w e w':=by
 have hres:Tryz.f16.results = #[.cell 2 26,.tmp 3]:=by kernel_rfl
 have HS:Hid (ScAt w x da dn sa sn pa pn):=h
 have HR:Hid (rightS x = false):=hr
 have HB0:Hid (L5 w (scCells x da dn dc sa sn sc pa pn pc) ((w.alloc (.cells (scCells x da dn dc sa sn sc pa pn pc) 57)).alloc (.cells #[I J 0,.slice none 0 0,.slice none 0 0,I J 0,I J 0,I J 0,I J 0,.bool false,I J 0,I J 0,.slice none 0 0] 26))):=L5.start w _
 have HC:Hid (∀ W,Below w.heap.size w W -> Calls Tryz.prog 30 #[.agg (scCells x da dn dc sa sn sc pa pn pc)] W fun e w'=>NumPost x W e w'):=fun W hW=>numbers_calls x da dn dc sa sn sc pa pn pc W (h.below hW)
 clear h hr
 have HP:Hid (∀ e w',e = .returned (.tuple #[.agg #[I J 0,.slice none 0 0,.slice none 0 0,I J 0,I J 0,I J 0,I J 0,.bool false,I J 0,I J 0,.slice none 0 0],I J 95]) -> Below w.heap.size w w' -> LowPost x w e w'):=fun e w' h1 h2=>by unfold LowPost; rw [HR.out,if_neg (by decide)]; exact ⟨h1,h2⟩
 have HN:Hid (∀ W e w',NumPost x W e w' -> e = .returned (.tuple #[.agg #[I J 0,.slice none 0 0,.slice none 0 0,I J 0,.bool false,I J 0,I J 0,I J 0,I J 0,I J 0],I J 95]) /\ Below W.heap.size W w'):=fun W e w' h=>by unfold NumPost at h; rw [HR.out,if_neg (by decide)] at h; exact h
 obtain ⟨letters,defs,subst,pieces,mode,banded,lo,hi,front,back,least⟩:=x
 unfold scCells at HB0 HC ⊢
 simp only at HB0 HC ⊢
 go_enter Tryz.func16,Tryz.ntmps16
 go_wp2_with fail
 refine (HC.out _ HB0.out.low).mono ?_
 intro e w1 hp
 obtain ⟨rfl,hb1⟩:=HN.out _ _ _ hp
 have HB1:Hid (L5 w #[.string (bs letters),.slice da dn dc,.slice sa sn sc,.slice pa pn pc,I J mode,.bool banded,I J lo,I J hi,I J front,I J back,I J least] (w1.alloc (.cells #[I J 0,.slice none 0 0,.slice none 0 0,I J 0,.bool false,I J 0,I J 0,I J 0,I J 0,I J 0] 94))):=(HB0.out.next hb1).next ((Below.refl _ _).alloc (Nat.le_refl _) _)
 clear hb1 hp
 have r0:(w1.alloc (.cells #[I J 0,.slice none 0 0,.slice none 0 0,I J 0,.bool false,I J 0,I J 0,I J 0,I J 0,I J 0] 94)).cell? ⟨w.heap.size + 1,0,none⟩ = some (I J 0):=blk HB1.out.res rfl
 have r1:(w1.alloc (.cells #[I J 0,.slice none 0 0,.slice none 0 0,I J 0,.bool false,I J 0,I J 0,I J 0,I J 0,I J 0] 94)).cell? ⟨w.heap.size + 1,1,none⟩ = some (.slice none 0 0):=blk HB1.out.res rfl
 have r2:(w1.alloc (.cells #[I J 0,.slice none 0 0,.slice none 0 0,I J 0,.bool false,I J 0,I J 0,I J 0,I J 0,I J 0] 94)).cell? ⟨w.heap.size + 1,2,none⟩ = some (.slice none 0 0):=blk HB1.out.res rfl
 have r3:(w1.alloc (.cells #[I J 0,.slice none 0 0,.slice none 0 0,I J 0,.bool false,I J 0,I J 0,I J 0,I J 0,I J 0] 94)).cell? ⟨w.heap.size + 1,3,none⟩ = some (I J 0):=blk HB1.out.res rfl
 have r4:(w1.alloc (.cells #[I J 0,.slice none 0 0,.slice none 0 0,I J 0,.bool false,I J 0,I J 0,I J 0,I J 0,I J 0] 94)).cell? ⟨w.heap.size + 1,4,none⟩ = some (I J 0):=blk HB1.out.res rfl
 have r5:(w1.alloc (.cells #[I J 0,.slice none 0 0,.slice none 0 0,I J 0,.bool false,I J 0,I J 0,I J 0,I J 0,I J 0] 94)).cell? ⟨w.heap.size + 1,5,none⟩ = some (I J 0):=blk HB1.out.res rfl
 have r6:(w1.alloc (.cells #[I J 0,.slice none 0 0,.slice none 0 0,I J 0,.bool false,I J 0,I J 0,I J 0,I J 0,I J 0] 94)).cell? ⟨w.heap.size + 1,6,none⟩ = some (I J 0):=blk HB1.out.res rfl
 have r7:(w1.alloc (.cells #[I J 0,.slice none 0 0,.slice none 0 0,I J 0,.bool false,I J 0,I J 0,I J 0,I J 0,I J 0] 94)).cell? ⟨w.heap.size + 1,7,none⟩ = some (.bool false):=blk HB1.out.res rfl
 have r8:(w1.alloc (.cells #[I J 0,.slice none 0 0,.slice none 0 0,I J 0,.bool false,I J 0,I J 0,I J 0,I J 0,I J 0] 94)).cell? ⟨w.heap.size + 1,8,none⟩ = some (I J 0):=blk HB1.out.res rfl
 have r9:(w1.alloc (.cells #[I J 0,.slice none 0 0,.slice none 0 0,I J 0,.bool false,I J 0,I J 0,I J 0,I J 0,I J 0] 94)).cell? ⟨w.heap.size + 1,9,none⟩ = some (I J 0):=blk HB1.out.res rfl
 have r10:(w1.alloc (.cells #[I J 0,.slice none 0 0,.slice none 0 0,I J 0,.bool false,I J 0,I J 0,I J 0,I J 0,I J 0] 94)).cell? ⟨w.heap.size + 1,10,none⟩ = some (.slice none 0 0):=blk HB1.out.res rfl
 have rf:∀ i,(w1.alloc (.cells #[I J 0,.slice none 0 0,.slice none 0 0,I J 0,.bool false,I J 0,I J 0,I J 0,I J 0,I J 0] 94)).frozen? ⟨w.heap.size + 1,i,none⟩ = false:=fun i=>blkf i HB1.out.res
 go_wp2
 refine bodyPost_ret (v:=.tuple #[.agg #[I J 0,.slice none 0 0,.slice none 0 0,I J 0,I J 0,I J 0,I J 0,.bool false,I J 0,I J 0,.slice none 0 0],I J 95]) ?_ rfl ?_
 ·simp only [results,hres]
  go_simp
 ·exact HP.out _ _ rfl (below_el HB1.out.low _ _ _ _ _ _ _ _ _ _ _)
theorem lower_yes (x:Sc) (da:Option Addr) (dn dc:Nat) (sad:Addr) (sn sc:Nat) (pa:Option Addr) (pn pc:Nat) (w:World) (h:ScAt w x da dn (some sad) sn pa pn) (hr:rightS x = true) (hd5:dn <= 5000) (hs4:sn <= 400) (hp4:pn <= 4) :
 Calls Tryz.prog 16 #[.agg (scCells x da dn dc (some sad) sn sc pa pn pc)] w fun e w'=>LowPost x w e w':=by
 have hres:Tryz.f16.results = #[.cell 2 26,.tmp 3]:=by kernel_rfl
 have HS:Hid (ScAt w x da dn (some sad) sn pa pn):=h
 have HR:Hid (rightS x = true):=hr
 have HB0:Hid (L5 w (scCells x da dn dc (some sad) sn sc pa pn pc) ((w.alloc (.cells (scCells x da dn dc (some sad) sn sc pa pn pc) 57)).alloc (.cells #[I J 0,.slice none 0 0,.slice none 0 0,I J 0,I J 0,I J 0,I J 0,.bool false,I J 0,I J 0,.slice none 0 0] 26))):=L5.start w _
 have HC:Hid (∀ W,Below w.heap.size w W -> Calls Tryz.prog 30 #[.agg (scCells x da dn dc (some sad) sn sc pa pn pc)] W fun e w'=>NumPost x W e w'):=fun W hW=>numbers_calls x da dn dc (some sad) sn sc pa pn pc W (h.below hW)
 have HLen:Hid (x.defs.length = dn /\ x.subst.length = sn /\ x.pieces.length = pn):=⟨h.defs.length,h.subst.length,h.pieces.length⟩
 clear h hr
 have HP:Hid (∀ e w' da' dn' dc' sa' sn' sc' ta' tn' tc',e = .returned (.tuple #[.agg (rcCells (lowB x) da' dn' dc' sa' sn' sc' ta' tn' tc'),I J 0]) -> Below w.heap.size w w' -> RcOwn w' w.heap.size (lowB x) da' dn' dc' sa' sn' sc' ta' tn' tc' -> LowPost x w e w'):=fun e w' _ _ _ _ _ _ _ _ _ h1 h2 h3=>by unfold LowPost; rw [HR.out,if_pos rfl]; exact ⟨_,_,_,_,_,_,_,_,_,h1,h2,h3⟩
 have HN:Hid (∀ W e w',NumPost x W e w' -> ∃ ma mn mc ga gn gc,e = .returned (.tuple #[.agg (moCells (numS (valsB x.defs).1 x) ma mn mc ga gn gc),I J 0]) /\ Below W.heap.size W w'):=fun W e w' h=>by
  unfold NumPost at h; rw [HR.out,if_pos rfl] at h
  obtain ⟨ma,mn,mc,ga,gn,gc,h1,h2,_⟩:=h
  exact ⟨ma,mn,mc,ga,gn,gc,h1,h2⟩
 have HLow:Hid (lowB x = ⟨(numS (valsB x.defs).1 x).letters,x.defs ++ openL x.pieces,x.subst,(endsM x.mode).1,(endsM x.mode).2,x.front,x.back,(numS (valsB x.defs).1 x).banded,(numS (valsB x.defs).1 x).lo,(numS (valsB x.defs).1 x).hi,statesL x.pieces x.defs.length⟩):=rfl
 obtain ⟨M,hM⟩:∃ M,numS (valsB x.defs).1 x = M:=⟨_,rfl⟩
 rw [hM] at HN HLow
 obtain ⟨X,hX⟩:∃ X,lowB x = X:=⟨_,rfl⟩
 rw [hX] at HP HLow
 clear hM hX
 obtain ⟨letters,defs,subst,pieces,mode,banded,lo,hi,front,back,least⟩:=x
 unfold scCells at HB0 HC ⊢
 simp only at HB0 HC HLow HLen HS ⊢
 go_enter Tryz.func16,Tryz.ntmps16
 go_wp2_with fail
 refine (HC.out _ HB0.out.low).mono ?_
 intro e w1 hp
 obtain ⟨ma,mn,mc,ga,gn,gc,rfl,hb1⟩:=HN.out _ _ _ hp
 clear hp
 unfold moCells
 obtain ⟨wm,hwm⟩:∃ wm,wm = w1.alloc (.cells #[I J M.letters,.slice ma mn mc,.slice ga gn gc,I J M.mode,.bool M.banded,I J M.lo,I J M.hi,I J M.front,I J M.back,I J M.least] 94):=⟨_,rfl⟩
 obtain ⟨mb,hmb⟩:∃ mb,mb = w1.heap.size:=⟨_,rfl⟩
 have HM:Hid (L5 w #[.string (bs letters),.slice da dn dc,.slice (some sad) sn sc,.slice pa pn pc,I J mode,.bool banded,I J lo,I J hi,I J front,I J back,I J least] wm /\ wm.heap[mb]? = some (.cells #[I J M.letters,.slice ma mn mc,.slice ga gn gc,I J M.mode,.bool M.banded,I J M.lo,I J M.hi,I J M.front,I J M.back,I J M.least] 94 (0,0)) /\ w.heap.size + 1 < wm.heap.size):=by
  have hq:L5 w #[.string (bs letters),.slice da dn dc,.slice (some sad) sn sc,.slice pa pn pc,I J mode,.bool banded,I J lo,I J hi,I J front,I J back,I J least] wm:=by rw [hwm]; exact (HB0.out.next hb1).next ((Below.refl _ _).alloc (Nat.le_refl _) _)
  exact ⟨hq,by rw [hwm,hmb]; exact heap_alloc_new w1 _,lt_block hq.res⟩
 have HMB:Hid (mb ≠ w.heap.size + 1):=by
  have h1:=lt_block (HB0.out.next hb1).res
  show mb ≠ w.heap.size + 1
  rw [hmb]
  omega
 clear hb1 HB0 HC HN
 have c4:wm.cell? ⟨w.heap.size,4,none⟩ = some (I J mode):=blk HM.out.1.box rfl
 go_upto_region 4 with (fail)
 rw [<- hwm,<- hmb]
 clear hwm hmb
 go_wp2_with (go_at_call 31; refine (ends_calls mode _).mono ?_; rintro e w' ⟨rfl,rfl⟩)
 clear c4
 generalize (endsM mode).1 = eb at *
 generalize (endsM mode).2 = ee at *
 have HF:Hid (∀ W,Below wm.heap.size wm W -> W.cell? ⟨w.heap.size,1,none⟩ = some (.slice da dn dc) /\ W.cell? ⟨w.heap.size,2,none⟩ = some (.slice (some sad) sn sc) /\ W.cell? ⟨w.heap.size,3,none⟩ = some (.slice pa pn pc) /\ W.cell? ⟨w.heap.size,8,none⟩ = some (I J front) /\ W.cell? ⟨w.heap.size,9,none⟩ = some (I J back) /\ W.cell? ⟨mb,0,none⟩ = some (I J M.letters) /\ W.cell? ⟨mb,4,none⟩ = some (.bool M.banded) /\ W.cell? ⟨mb,5,none⟩ = some (I J M.lo) /\ W.cell? ⟨mb,6,none⟩ = some (I J M.hi)):=fun W hW=>⟨keepc hW (blk HM.out.1.box rfl),keepc hW (blk HM.out.1.box rfl),keepc hW (blk HM.out.1.box rfl),keepc hW (blk HM.out.1.box rfl),keepc hW (blk HM.out.1.box rfl),keepc hW (blk HM.out.2.1 rfl),keepc hW (blk HM.out.2.1 rfl),keepc hW (blk HM.out.2.1 rfl),keepc hW (blk HM.out.2.1 rfl)⟩
 have hJ1:Below wm.heap.size wm wm.drew:=(Below.refl _ _).drew
 have y:=HF.out _ hJ1
 have HFS:Hid (∀ (W:World) (v0 v1 v2 v3 v4 v5 v6 v7 v8 v9 v10:Value),Below wm.heap.size wm W -> (((((((((((W.setCell ⟨w.heap.size + 1,0,none⟩ v0).setCell ⟨w.heap.size + 1,1,none⟩ v1).setCell ⟨w.heap.size + 1,2,none⟩ v2).setCell ⟨w.heap.size + 1,3,none⟩ v3).setCell ⟨w.heap.size + 1,4,none⟩ v4).setCell ⟨w.heap.size + 1,5,none⟩ v5).setCell ⟨w.heap.size + 1,6,none⟩ v6).setCell ⟨w.heap.size + 1,7,none⟩ v7).setCell ⟨w.heap.size + 1,8,none⟩ v8).setCell ⟨w.heap.size + 1,9,none⟩ v9).setCell ⟨w.heap.size + 1,10,none⟩ v10).cell? ⟨w.heap.size,1,none⟩ = some (.slice da dn dc) /\ (((((((((((W.setCell ⟨w.heap.size + 1,0,none⟩ v0).setCell ⟨w.heap.size + 1,1,none⟩ v1).setCell ⟨w.heap.size + 1,2,none⟩ v2).setCell ⟨w.heap.size + 1,3,none⟩ v3).setCell ⟨w.heap.size + 1,4,none⟩ v4).setCell ⟨w.heap.size + 1,5,none⟩ v5).setCell ⟨w.heap.size + 1,6,none⟩ v6).setCell ⟨w.heap.size + 1,7,none⟩ v7).setCell ⟨w.heap.size + 1,8,none⟩ v8).setCell ⟨w.heap.size + 1,9,none⟩ v9).setCell ⟨w.heap.size + 1,10,none⟩ v10).cell? ⟨w.heap.size,2,none⟩ = some (.slice (some sad) sn sc) /\ (((((((((((W.setCell ⟨w.heap.size + 1,0,none⟩ v0).setCell ⟨w.heap.size + 1,1,none⟩ v1).setCell ⟨w.heap.size + 1,2,none⟩ v2).setCell ⟨w.heap.size + 1,3,none⟩ v3).setCell ⟨w.heap.size + 1,4,none⟩ v4).setCell ⟨w.heap.size + 1,5,none⟩ v5).setCell ⟨w.heap.size + 1,6,none⟩ v6).setCell ⟨w.heap.size + 1,7,none⟩ v7).setCell ⟨w.heap.size + 1,8,none⟩ v8).setCell ⟨w.heap.size + 1,9,none⟩ v9).setCell ⟨w.heap.size + 1,10,none⟩ v10).cell? ⟨w.heap.size,3,none⟩ = some (.slice pa pn pc) /\ (((((((((((W.setCell ⟨w.heap.size + 1,0,none⟩ v0).setCell ⟨w.heap.size + 1,1,none⟩ v1).setCell ⟨w.heap.size + 1,2,none⟩ v2).setCell ⟨w.heap.size + 1,3,none⟩ v3).setCell ⟨w.heap.size + 1,4,none⟩ v4).setCell ⟨w.heap.size + 1,5,none⟩ v5).setCell ⟨w.heap.size + 1,6,none⟩ v6).setCell ⟨w.heap.size + 1,7,none⟩ v7).setCell ⟨w.heap.size + 1,8,none⟩ v8).setCell ⟨w.heap.size + 1,9,none⟩ v9).setCell ⟨w.heap.size + 1,10,none⟩ v10).cell? ⟨w.heap.size,8,none⟩ = some (I J front) /\ (((((((((((W.setCell ⟨w.heap.size + 1,0,none⟩ v0).setCell ⟨w.heap.size + 1,1,none⟩ v1).setCell ⟨w.heap.size + 1,2,none⟩ v2).setCell ⟨w.heap.size + 1,3,none⟩ v3).setCell ⟨w.heap.size + 1,4,none⟩ v4).setCell ⟨w.heap.size + 1,5,none⟩ v5).setCell ⟨w.heap.size + 1,6,none⟩ v6).setCell ⟨w.heap.size + 1,7,none⟩ v7).setCell ⟨w.heap.size + 1,8,none⟩ v8).setCell ⟨w.heap.size + 1,9,none⟩ v9).setCell ⟨w.heap.size + 1,10,none⟩ v10).cell? ⟨w.heap.size,9,none⟩ = some (I J back) /\ (((((((((((W.setCell ⟨w.heap.size + 1,0,none⟩ v0).setCell ⟨w.heap.size + 1,1,none⟩ v1).setCell ⟨w.heap.size + 1,2,none⟩ v2).setCell ⟨w.heap.size + 1,3,none⟩ v3).setCell ⟨w.heap.size + 1,4,none⟩ v4).setCell ⟨w.heap.size + 1,5,none⟩ v5).setCell ⟨w.heap.size + 1,6,none⟩ v6).setCell ⟨w.heap.size + 1,7,none⟩ v7).setCell ⟨w.heap.size + 1,8,none⟩ v8).setCell ⟨w.heap.size + 1,9,none⟩ v9).setCell ⟨w.heap.size + 1,10,none⟩ v10).cell? ⟨mb,0,none⟩ = some (I J M.letters) /\ (((((((((((W.setCell ⟨w.heap.size + 1,0,none⟩ v0).setCell ⟨w.heap.size + 1,1,none⟩ v1).setCell ⟨w.heap.size + 1,2,none⟩ v2).setCell ⟨w.heap.size + 1,3,none⟩ v3).setCell ⟨w.heap.size + 1,4,none⟩ v4).setCell ⟨w.heap.size + 1,5,none⟩ v5).setCell ⟨w.heap.size + 1,6,none⟩ v6).setCell ⟨w.heap.size + 1,7,none⟩ v7).setCell ⟨w.heap.size + 1,8,none⟩ v8).setCell ⟨w.heap.size + 1,9,none⟩ v9).setCell ⟨w.heap.size + 1,10,none⟩ v10).cell? ⟨mb,4,none⟩ = some (.bool M.banded) /\ (((((((((((W.setCell ⟨w.heap.size + 1,0,none⟩ v0).setCell ⟨w.heap.size + 1,1,none⟩ v1).setCell ⟨w.heap.size + 1,2,none⟩ v2).setCell ⟨w.heap.size + 1,3,none⟩ v3).setCell ⟨w.heap.size + 1,4,none⟩ v4).setCell ⟨w.heap.size + 1,5,none⟩ v5).setCell ⟨w.heap.size + 1,6,none⟩ v6).setCell ⟨w.heap.size + 1,7,none⟩ v7).setCell ⟨w.heap.size + 1,8,none⟩ v8).setCell ⟨w.heap.size + 1,9,none⟩ v9).setCell ⟨w.heap.size + 1,10,none⟩ v10).cell? ⟨mb,5,none⟩ = some (I J M.lo) /\ (((((((((((W.setCell ⟨w.heap.size + 1,0,none⟩ v0).setCell ⟨w.heap.size + 1,1,none⟩ v1).setCell ⟨w.heap.size + 1,2,none⟩ v2).setCell ⟨w.heap.size + 1,3,none⟩ v3).setCell ⟨w.heap.size + 1,4,none⟩ v4).setCell ⟨w.heap.size + 1,5,none⟩ v5).setCell ⟨w.heap.size + 1,6,none⟩ v6).setCell ⟨w.heap.size + 1,7,none⟩ v7).setCell ⟨w.heap.size + 1,8,none⟩ v8).setCell ⟨w.heap.size + 1,9,none⟩ v9).setCell ⟨w.heap.size + 1,10,none⟩ v10).cell? ⟨mb,6,none⟩ = some (I J M.hi)):=fun W v0 v1 v2 v3 v4 v5 v6 v7 v8 v9 v10 hW=>by
  obtain ⟨q0,q1,q2,q3,q4,q5,q6,q7,q8⟩:=HF.out W hW
  have hne:mb ≠ w.heap.size + 1:=HMB.out
  have hne2:w.heap.size ≠ w.heap.size + 1:=by omega
  exact ⟨cel_el q0 hne2 v0 v1 v2 v3 v4 v5 v6 v7 v8 v9 v10,cel_el q1 hne2 v0 v1 v2 v3 v4 v5 v6 v7 v8 v9 v10,cel_el q2 hne2 v0 v1 v2 v3 v4 v5 v6 v7 v8 v9 v10,cel_el q3 hne2 v0 v1 v2 v3 v4 v5 v6 v7 v8 v9 v10,cel_el q4 hne2 v0 v1 v2 v3 v4 v5 v6 v7 v8 v9 v10,cel_el q5 hne v0 v1 v2 v3 v4 v5 v6 v7 v8 v9 v10,cel_el q6 hne v0 v1 v2 v3 v4 v5 v6 v7 v8 v9 v10,cel_el q7 hne v0 v1 v2 v3 v4 v5 v6 v7 v8 v9 v10,cel_el q8 hne v0 v1 v2 v3 v4 v5 v6 v7 v8 v9 v10⟩
 have HBA:Hid (∀ W o,Below wm.heap.size wm W -> Below wm.heap.size wm (W.alloc o)):=fun W o h=>h.alloc h.size o
 have HBT:Hid (∀ W V,Below wm.heap.size wm W -> Below W.heap.size W V -> Below wm.heap.size wm V):=fun W V h1 h2=>h1.trans (h2.mono h1.size)
 have HSc:Hid (∀ W,Below wm.heap.size wm W -> ScAt W ⟨letters,defs,subst,pieces,mode,banded,lo,hi,front,back,least⟩ da dn (some sad) sn pa pn):=fun W hW=>(HS.out.below HM.out.1.low).below hW
 have HRs:Hid (∀ W,Below wm.heap.size wm W -> W.cell? ⟨w.heap.size + 1,0,none⟩ = some (I J 0) /\ W.cell? ⟨w.heap.size + 1,1,none⟩ = some (.slice none 0 0) /\ W.cell? ⟨w.heap.size + 1,2,none⟩ = some (.slice none 0 0) /\ W.cell? ⟨w.heap.size + 1,3,none⟩ = some (I J 0) /\ W.cell? ⟨w.heap.size + 1,4,none⟩ = some (I J 0) /\ W.cell? ⟨w.heap.size + 1,5,none⟩ = some (I J 0) /\ W.cell? ⟨w.heap.size + 1,6,none⟩ = some (I J 0) /\ W.cell? ⟨w.heap.size + 1,7,none⟩ = some (.bool false) /\ W.cell? ⟨w.heap.size + 1,8,none⟩ = some (I J 0) /\ W.cell? ⟨w.heap.size + 1,9,none⟩ = some (I J 0) /\ W.cell? ⟨w.heap.size + 1,10,none⟩ = some (.slice none 0 0) /\ ∀ i,W.frozen? ⟨w.heap.size + 1,i,none⟩ = false):=fun W hW=>by
  have hq:=(HM.out.1.next hW).res
  exact ⟨blk hq rfl,blk hq rfl,blk hq rfl,blk hq rfl,blk hq rfl,blk hq rfl,blk hq rfl,blk hq rfl,blk hq rfl,blk hq rfl,blk hq rfl,fun i=>blkf i hq⟩
 have HC22:Hid (∀ W,Below wm.heap.size wm W -> Calls Tryz.prog 33 #[.slice pa pn pc] W fun e w'=>RowPost 53 4 pn (dfRow (openL pieces)) W e w'):=fun W hW=>openings_calls pieces pa pn pc W (HSc.out W hW).pieces hp4
 have HC21:Hid (∀ (W:World) oa oc b g,Below wm.heap.size wm W -> W.ownsRow b 53 4 (.slice oa pn oc) pn (dfRow (openL pieces)) -> g = W.heap.size -> Calls Tryz.prog 32 #[.slice (some ⟨g,0,none⟩) 2 2] (W.alloc (.cells #[.slice da dn dc,.slice oa pn oc] 22)) fun e w'=>RowPost 53 4 (dn + pn) (dfRow (defs ++ openL pieces)) (W.alloc (.cells #[.slice da dn dc,.slice oa pn oc] 22)) e w'):=fun W oa oc b g hW ho hg=>by
  subst hg
  have hb:Below W.heap.size W (W.alloc (.cells #[.slice da dn dc,.slice oa pn oc] 22)):=(Below.refl _ _).alloc (Nat.le_refl _) _
  have hn:=heap_alloc_new W (.cells #[.slice da dn dc,.slice oa pn oc] 22)
  have hd1:∀ u ∈ dfRow (openL pieces),u.oneCell' = true:=fun u hu=>by
   obtain ⟨d,_,hd⟩:=List.mem_flatMap.1 hu
   exact df_one d u hd
  have:=concat67_calls [dfRow defs,dfRow (openL pieces)] [dn,pn] W.heap.size 2 (W.alloc (.cells #[.slice da dn dc,.slice oa pn oc] 22)) rfl rfl (by omega) (by simp; omega) (fun i xs n hi hn2=>by
   match i,hi,hn2 with
   | 0,hi,hn2=>cases hi; cases hn2; exact ⟨da,dc,blk hn rfl,(src_dfs (HSc.out W hW).defs).below hb⟩
   | 1,hi,hn2=>cases hi; cases hn2; exact ⟨oa,oc,blk hn rfl,(src_row ho hd1).below hb⟩
   | i + 2,hi,hn2=>simp at hi) 2
  rw [show [dn,pn].sum = dn + pn by simp,show [dfRow defs,dfRow (openL pieces)].flatten = dfRow (defs ++ openL pieces) by simp [dfRow]] at this
  exact this
 have HC23:Hid (∀ W,Below wm.heap.size wm W -> Calls Tryz.prog 34 #[.slice (some sad) sn sc] W fun e w'=>RowPost 3 1 sn (itRow subst) W e w'):=fun W hW=>cloneI_calls subst sad sn sc W (HSc.out W hW).subst hs4
 have HC24:Hid (∀ W,Below wm.heap.size wm W -> Calls Tryz.prog 35 #[.slice pa pn pc,I J (dn:Int)] W fun e w'=>StPost (statesL pieces dn) W e w'):=fun W hW=>states_calls pieces pa pn pc dn W (HSc.out W hW).pieces hp4 hd5
 go_wp2_with fail
 go_region_held3 (fun W=>W.cell? ⟨w.heap.size,1,none⟩ = some (.slice da dn dc) /\ W.cell? ⟨w.heap.size,2,none⟩ = some (.slice (some sad) sn sc) /\ W.cell? ⟨w.heap.size,3,none⟩ = some (.slice pa pn pc) /\ W.cell? ⟨w.heap.size,8,none⟩ = some (I J front) /\ W.cell? ⟨w.heap.size,9,none⟩ = some (I J back) /\ W.cell? ⟨mb,0,none⟩ = some (I J M.letters) /\ W.cell? ⟨mb,4,none⟩ = some (.bool M.banded) /\ W.cell? ⟨mb,5,none⟩ = some (I J M.lo) /\ W.cell? ⟨mb,6,none⟩ = some (I J M.hi)) (first | (with_reducible exact y) | (with_reducible exact HF.out _ (by assumption)) | (with_reducible exact HF.out _ (HBA.out _ _ (by assumption))) | (with_reducible exact HFS.out _ _ _ _ _ _ _ _ _ _ _ _ (by assumption))) (first
  | (go_at_call 33; (with_reducible refine (HC22.out _ (by assumption)).mono ?_); rintro e V1 ⟨oa,oc,rfl,ho1,hv1⟩; have hB1:=HBT.out _ _ (by assumption) hv1)
  | (go_at_call 32; (with_reducible refine (HC21.out _ oa oc _ _ hB1 ho1 rfl).mono ?_); rintro e V2 ⟨ea,ec,rfl,ho2,hv2⟩; have hB2:=HBT.out _ _ (HBA.out _ _ hB1) hv2)
  | (go_at_call 34; (with_reducible refine (HC23.out _ hB2).mono ?_); rintro e V3 ⟨ua,uc,rfl,ho3,hv3⟩; have hB3:=HBT.out _ _ hB2 hv3)
  | (go_at_call 35; (with_reducible refine (HC24.out _ hB3).mono ?_); rintro e V4 ⟨ta,tn,tc,rfl,htn,ho4,hv4⟩; have HTN:Hid (tn = (statesL pieces dn).length):=htn; clear htn; have hB4:=HBT.out _ _ hB3 hv4; obtain ⟨r0,r1,r2,r3,r4,r5,r6,r7,r8,r9,r10,rf⟩:=HRs.out _ hB4; clear y))
 have HOwn:Hid (RcOwn V4 wm.heap.size X ea (dn + pn) ec ua sn uc ta tn tc /\ Below w.heap.size w V4 /\ rcCells X ea (dn + pn) ec ua sn uc ta tn tc = #[I J M.letters,.slice ea (dn + pn) ec,.slice ua sn uc,I J eb,I J ee,I J front,I J back,.bool M.banded,I J M.lo,I J M.hi,.slice ta tn tc]):=by
  have hl:=HLen.out
  have hw1:wm.heap.size <= (V1.alloc (.cells #[.slice da dn dc,.slice oa pn oc] 22)).heap.size:=(HBA.out _ _ hB1).size
  rw [HLow.out]
  refine ⟨⟨?_,hl.2.1.symm,by rw [HTN.out]; simp only; rw [hl.1],owned_base (owned_below (owned_below ho2 hv3) hv4) hw1,owned_base (owned_below ho3 hv4) hB2.size,?_⟩,HM.out.1.low.trans (hB4.mono HM.out.1.low.size),rfl⟩
  ·simp [openL,hl.1,hl.2.2]
  ·simp only
   rw [hl.1]
   exact ho4.base hB3.size
 clear HC22 HC21 HC23 HC24 HSc HBT HBA HF HFS hJ1 ho1 ho2 ho3 ho4 hv1 hv2 hv3 hv4 hB1 hB2 hB3 hB4 HRs HTN
 go_wp2
 refine bodyPost_ret (v:=.tuple #[.agg (rcCells X ea (dn + pn) ec ua sn uc ta tn tc),I J 0]) ?_ rfl ?_
 ·rw [HOwn.out.2.2]
  simp only [results,hres]
  go_simp
 ·refine HP.out _ _ _ _ _ _ _ _ _ _ _ rfl (below_el HOwn.out.2.1 _ _ _ _ _ _ _ _ _ _ _) ?_
  have ho:=HOwn.out.1
  have hlt:=HM.out.2.2
  exact ⟨ho.dl,ho.sl,ho.tl,owned_base (own_el ho.defs hlt _ _ _ _ _ _ _ _ _ _ _) (by omega),owned_base (own_el ho.subst hlt _ _ _ _ _ _ _ _ _ _ _) (by omega),(sts_el ho.states hlt _ _ _ _ _ _ _ _ _ _ _).base (by omega)⟩
theorem lower_calls (x:Sc) (da:Option Addr) (dn dc:Nat) (sa:Option Addr) (sn sc:Nat) (pa:Option Addr) (pn pc:Nat) (w:World) (h:ScAt w x da dn sa sn pa pn) :
 Calls Tryz.prog 16 #[.agg (scCells x da dn dc sa sn sc pa pn pc)] w fun e w'=>LowPost x w e w':=by
 cases hr:rightS x
 ·exact lower_no x da dn dc sa sn sc pa pn pc w h hr
 ·have hq:=hr
  unfold rightS shapeS at hq
  simp only [Bool.and_eq_true,decide_eq_true_eq] at hq
  obtain ⟨⟨⟨⟨⟨⟨q1,q2⟩,q3⟩,q4⟩,q5⟩,q6⟩,q7⟩:=hq
  rw [h.defs.length] at q2
  rw [h.subst.length] at q3
  rw [h.pieces.length] at q4
  have hf:=right_few q1
  have hm:=Nat.mul_le_mul hf.2 hf.2
  have hm2:=Nat.mul_le_mul hf.1 hf.1
  cases sa with
  | none=>
    have h0:0 < sn:=by rw [q3]; omega
    obtain ⟨g,off,e,_⟩:=h.subst.isI 0 (x.subst[0]'(by rw [h.subst.length]; exact h0)) (List.getElem?_eq_getElem _)
    cases e
  | some sad=>exact lower_yes x da dn dc sad sn sc pa pn pc w h hr q2 (by omega) q4
end Go.Proofs.YtbbbnopganhebabGreat
