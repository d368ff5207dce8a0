/-
  What is told of a recurrence and two sequences: the path and its score. What a state has at a cell. What a state has at a cell hangs on what is ahead of it alone: in plain lists.
-/
import Derived.BigRegion
import Derived.Test.YtbbbnopganhebabGreatG38
namespace Go.Proofs.YtbbbnopganhebabGreat
open Go.RowKit Go.Deep Go.Maps
open Go.Value renaming int->I
open Go.IntKind renaming i64->J
set_option maxRecDepth 20000
set_option maxHeartbeats 8000000
theorem evalE_bad {r:Rc} {xs ys:List Int} (h:errE r xs ys ≠ 0):evalE r xs ys = ((0,0,0,[]),errE r xs ys):=by unfold evalE; rw [if_pos h]
theorem evalE_none {r:Rc} {xs ys:List Int} (h:errE r xs ys = 0) (hb:bestE (feOf r xs ys) (vlE (feOf r xs ys)) = none):evalE r xs ys = ((0,0,0,[]),130):=by
 unfold evalE
 rw [if_neg (by omega),hb]
theorem evalE_some {r:Rc} {xs ys:List Int} {e:En} (h:errE r xs ys = 0) (hb:bestE (feOf r xs ys) (vlE (feOf r xs ys)) = some e):evalE r xs ys = ((e.2.2.1,pathE (feOf r xs ys) (vlE (feOf r xs ys)) e),0):=by
 unfold evalE
 rw [if_neg (by omega),hb]
structure Rse (w W:World):Prop where
 low:Below w.heap.size w W
 res:W.heap[w.heap.size + 1]? = some (.cells #[I J 0,I J 0,I J 0,.string ⟨#[]⟩] 49 (0,0))
theorem Rse.next {w W V:World} (h:Rse w W) (hb:Below W.heap.size W V):Rse w V:=
 ⟨h.low.trans (hb.mono h.low.size),by rw [hb.block _ (lt_block h.res)]; exact h.res⟩
theorem Rse.cells {w W:World} (h:Rse w W):W.cell? ⟨w.heap.size + 1,0,none⟩ = some (I J 0) /\ W.cell? ⟨w.heap.size + 1,1,none⟩ = some (I J 0) /\ W.cell? ⟨w.heap.size + 1,2,none⟩ = some (I J 0) /\ W.cell? ⟨w.heap.size + 1,3,none⟩ = some (.string ⟨#[]⟩) /\ (∀ i,W.frozen? ⟨w.heap.size + 1,i,none⟩ = false):=
 ⟨blk h.res rfl,blk h.res rfl,blk h.res rfl,blk h.res rfl,fun i=>blkf i h.res⟩
theorem belowE4 {w0 W:World} {g:Nat} (h:Below w0.heap.size w0 W) (hg:w0.heap.size <= g) (v0 v1 v2 v3:Value):Below w0.heap.size w0 ((((W.setCell ⟨g,0,none⟩ v0).setCell ⟨g,1,none⟩ v1).setCell ⟨g,2,none⟩ v2).setCell ⟨g,3,none⟩ v3):=
 below_set (below_set (below_set (below_set h hg v0) hg v1) hg v2) hg v3
theorem cellE4 {W:World} {g b i:Nat} {u:Value} (h:W.cell? ⟨b,i,none⟩ = some u) (hne:b ≠ g) (v0 v1 v2 v3:Value):((((W.setCell ⟨g,0,none⟩ v0).setCell ⟨g,1,none⟩ v1).setCell ⟨g,2,none⟩ v2).setCell ⟨g,3,none⟩ v3).cell? ⟨b,i,none⟩ = some u:=by
 rw [World.cell?_of_block (w:=W) (by
  show ((((W.setCell ⟨g,0,none⟩ v0).setCell ⟨g,1,none⟩ v1).setCell ⟨g,2,none⟩ v2).setCell ⟨g,3,none⟩ v3).heap[b]? = W.heap[b]?
  exact heap_other (heap_other (heap_other (heap_other rfl hne) hne) hne) hne)]
 exact h
def evV (q:(Int × Int × Int × List UInt8) × Int):Value:=.tuple #[.agg #[I J q.1.1,I J q.1.2.1,I J q.1.2.2.1,.string ⟨q.1.2.2.2.toArray⟩],I J q.2]
theorem eval_calls (r:Rc) (d s t x y:Sq) (xs ys:List Int) (w:World) (hr:RcAt w r d.a d.n s.a s.n t.a t.n) (hx:IntA w x.a x.n xs) (hy:IntA w y.a y.n ys) :
 Calls Tryz.prog 14 #[.agg (rcCells r d.a d.n d.c s.a s.n s.c t.a t.n t.c),.slice x.a x.n x.c,.slice y.a y.n y.c] w fun e w'=>e = .returned (evV (evalE r xs ys)) /\ Below w.heap.size w w':=by
 have hres:Tryz.f14.results = #[.cell 6 49,.tmp 7]:=by kernel_rfl
 have HM:Hid (∀ W,Below w.heap.size w W -> RcAt W r d.a d.n s.a s.n t.a t.n /\ IntA W x.a x.n xs /\ IntA W y.a y.n ys):=fun W hW=>⟨hr.below hW,hx.below hW,hy.below hW⟩
 have HC1:Hid (∀ W,Below w.heap.size w W -> Calls Tryz.prog 17 #[.agg #[I J r.letters,.slice d.a d.n d.c,.slice s.a s.n s.c,I J r.beg,I J r.fin,I J r.front,I J r.back,.bool r.banded,I J r.lo,I J r.hi,.slice t.a t.n t.c],.slice x.a x.n x.c,.slice y.a y.n y.c] W fun e w'=>FoPost r d s t x y xs ys W e w'):=fun W hW=>fieldOf_calls r d s t x y xs ys W (hr.below hW) (hx.below hW) (hy.below hW)
 have HR0:Hid (Rse w ((w.alloc (.cells #[I J r.letters,.slice d.a d.n d.c,.slice s.a s.n s.c,I J r.beg,I J r.fin,I J r.front,I J r.back,.bool r.banded,I J r.lo,I J r.hi,.slice t.a t.n t.c] 26)).alloc (.cells #[I J 0,I J 0,I J 0,.string ⟨#[]⟩] 49))):=by
  refine ⟨((Below.refl _ _).alloc (Nat.le_refl _) _).alloc (by simp) _,?_⟩
  have:=heap_alloc_new (w.alloc (.cells #[I J r.letters,.slice d.a d.n d.c,.slice s.a s.n s.c,I J r.beg,I J r.fin,I J r.front,I J r.back,.bool r.banded,I J r.lo,I J r.hi,.slice t.a t.n t.c] 26)) (.cells #[I J 0,I J 0,I J 0,.string ⟨#[]⟩] 49)
  rw [show (w.alloc (.cells #[I J r.letters,.slice d.a d.n d.c,.slice s.a s.n s.c,I J r.beg,I J r.fin,I J r.front,I J r.back,.bool r.banded,I J r.lo,I J r.hi,.slice t.a t.n t.c] 26)).heap.size = w.heap.size + 1 by simp] at this
  exact this
 have HA:Hid (∀ W o,Rse w W -> Rse w (W.alloc o)):=fun W o hW=>hW.next ((Below.refl _ _).alloc (Nat.le_refl _) o)
 clear hr hx hy
 unfold rcCells
 go_enter Tryz.func14,Tryz.ntmps14
 go_wp2_with fail
 refine (HC1.out _ HR0.out.low).mono ?_
 rintro e w1 (⟨he,rfl,hb1⟩ | ⟨he,v,hv,rfl,hb1,ho⟩)
 ·have HS:Hid (evalE r xs ys = ((0,0,0,[]),errE r xs ys)):=evalE_bad he
  have HR1:Hid (Rse w (w1.alloc (.cells #[I J 0,.slice none 0 0,.slice none 0 0,I J 0,I J 0,I J 0,I J 0,.bool false,I J 0,I J 0,.slice none 0 0,.slice none 0 0,.slice none 0 0,.slice none 0 0] 63))):=HA.out _ _ (HR0.out.next hb1)
  have kn:(errE r xs ys != 0) = true:=by simpa using he
  unfold zer14
  obtain ⟨r0,r1,r2,r3,rf⟩:=HR1.out.cells
  clear he hb1
  generalize errE r xs ys = er at *
  go_wp2
  refine bodyPost_ret (v:=.tuple #[.agg #[I J 0,I J 0,I J 0,.string ⟨#[]⟩],I J er]) ?_ rfl ?_
  ·simp only [results,hres]
   go_simp
  ·rw [HS.out]
   exact ⟨rfl,belowE4 HR1.out.low (by simp) _ _ _ _⟩
 ·have HR1:Hid (Rse w w1):=HR0.out.next hb1
  obtain ⟨h1,h2,h3⟩:=fe_made (HM.out _ HR1.out.low).1 (HM.out _ HR1.out.low).2.1 (HM.out _ HR1.out.low).2.2 (Below.refl _ _) hv ho he
  have HC2:Hid (Calls Tryz.prog 19 #[.pointer (some ⟨w1.heap.size,0,none⟩)] (w1.alloc (.cells #[I J r.letters,.slice d.a d.n d.c,.slice s.a s.n s.c,I J r.beg,I J r.fin,I J r.front,I J r.back,.bool r.banded,I J r.lo,I J r.hi,.slice t.a t.n t.c,.slice v.a v.n v.c,.slice x.a x.n x.c,.slice y.a y.n y.c] 63)) fun e w'=>∃ p:Wp,e = .returned (.pointer (some ⟨p.b,0,none⟩)) /\ Wk (w1.alloc (.cells #[I J r.letters,.slice d.a d.n d.c,.slice s.a s.n s.c,I J r.beg,I J r.fin,I J r.front,I J r.back,.bool r.banded,I J r.lo,I J r.hi,.slice t.a t.n t.c,.slice v.a v.n v.c,.slice x.a x.n x.c,.slice y.a y.n y.c] 63)) (feOf r xs ys) ⟨d,s,t,v,x,y⟩ p w' (vlE (feOf r xs ys))):=workOut_calls _ h1 h2 h3
  have HFe:Hid (FeR (feOf r xs ys)):=h3.toFeR
  have HEr:Hid (errE r xs ys = 0):=he
  unfold feCells feOf
  simp only
  clear he hb1 ho h1 h2 h3 hv HC1 HM
  go_wp2_with fail
  refine HC2.out.mono ?_
  rintro e w2 ⟨p,rfl,hwk⟩
  have HW:Hid (Wk (w1.alloc (.cells #[I J r.letters,.slice d.a d.n d.c,.slice s.a s.n s.c,I J r.beg,I J r.fin,I J r.front,I J r.back,.bool r.banded,I J r.lo,I J r.hi,.slice t.a t.n t.c,.slice v.a v.n v.c,.slice x.a x.n x.c,.slice y.a y.n y.c] 63)) (feOf r xs ys) ⟨d,s,t,v,x,y⟩ p w2 (vlE (feOf r xs ys))):=hwk
  have HR2:Hid (Rse w w2):=(HA.out _ _ HR1.out).next hwk.low
  clear hwk HC2
  go_wp2_with fail
  refine (bestEnd_calls w2 HW.out).mono ?_
  rintro e w3 ⟨rfl,hb3⟩
  have HW3:Hid (Wk (w1.alloc (.cells #[I J r.letters,.slice d.a d.n d.c,.slice s.a s.n s.c,I J r.beg,I J r.fin,I J r.front,I J r.back,.bool r.banded,I J r.lo,I J r.hi,.slice t.a t.n t.c,.slice v.a v.n v.c,.slice x.a x.n x.c,.slice y.a y.n y.c] 63)) (feOf r xs ys) ⟨d,s,t,v,x,y⟩ p w3 (vlE (feOf r xs ys))):=HW.out.below hb3
  have HR3:Hid (Rse w w3):=HR2.out.next hb3
  clear hb3 HW HR2
  unfold enV
  cases hbe:bestE (feOf r xs ys) (vlE (feOf r xs ys)) with
  | none=>
    have HS:Hid (evalE r xs ys = ((0,0,0,[]),130)):=evalE_none HEr.out hbe
    have HR4:Hid (Rse w (w3.alloc (.cells #[I J 0,I J 0,I J 0,.int .u16 0] 75))):=HA.out _ _ HR3.out
    simp only [enG,Option.getD_none,Option.isSome_none]
    obtain ⟨r0,r1,r2,r3,rf⟩:=HR4.out.cells
    clear hbe HW3
    go_wp2
    refine bodyPost_ret (v:=.tuple #[.agg #[I J 0,I J 0,I J 0,.string ⟨#[]⟩],I J 130]) ?_ rfl ?_
    ·simp only [results,hres]
     go_simp
    ·rw [HS.out]
     exact ⟨rfl,belowE4 HR4.out.low (by simp) _ _ _ _⟩
  | some en=>
    have HS:Hid (evalE r xs ys = ((en.2.2.1,pathE (feOf r xs ys) (vlE (feOf r xs ys)) en),0)):=evalE_some HEr.out hbe
    have HPv:=best_pv HFe.out hbe
    simp only [enG,Option.getD_some,Option.isSome_some]
    have HR4:Hid (Rse w (w3.alloc (.cells (enV en) 75))):=HA.out _ _ HR3.out
    have HW4:Hid (Wk (w1.alloc (.cells #[I J r.letters,.slice d.a d.n d.c,.slice s.a s.n s.c,I J r.beg,I J r.fin,I J r.front,I J r.back,.bool r.banded,I J r.lo,I J r.hi,.slice t.a t.n t.c,.slice v.a v.n v.c,.slice x.a x.n x.c,.slice y.a y.n y.c] 63)) (feOf r xs ys) ⟨d,s,t,v,x,y⟩ p (w3.alloc (.cells (enV en) 75)) (vlE (feOf r xs ys))):=HW3.out.below ((Below.refl _ _).alloc (Nat.le_refl _) _)
    have HC5:Hid (∀ W,Below (w3.alloc (.cells (enV en) 75)).heap.size (w3.alloc (.cells (enV en) 75)) W -> Calls Tryz.prog 27 #[.pointer (some ⟨p.b,0,none⟩),.agg #[I J en.1,I J en.2.1,I J en.2.2.1,.int .u16 (en.2.2.2:Int)]] W fun e w'=>e = .returned (.agg #[I J (pathE (feOf r xs ys) (vlE (feOf r xs ys)) en).1,I J (pathE (feOf r xs ys) (vlE (feOf r xs ys)) en).2.1,.string ⟨(pathE (feOf r xs ys) (vlE (feOf r xs ys)) en).2.2.toArray⟩]) /\ Below W.heap.size W w'):=fun W hW=>pathTo_calls en W (HW4.out.below hW) HPv
    have hbk:=heap_alloc_new w3 (.cells (enV en) 75)
    have e0:(w3.alloc (.cells (enV en) 75)).cell? ⟨w3.heap.size,0,none⟩ = some (I J en.1):=blk hbk rfl
    have e1:(w3.alloc (.cells (enV en) 75)).cell? ⟨w3.heap.size,1,none⟩ = some (I J en.2.1):=blk hbk rfl
    have e2:(w3.alloc (.cells (enV en) 75)).cell? ⟨w3.heap.size,2,none⟩ = some (I J en.2.2.1):=blk hbk rfl
    have e3:(w3.alloc (.cells (enV en) 75)).cell? ⟨w3.heap.size,3,none⟩ = some (.int .u16 (en.2.2.2:Int)):=blk hbk rfl
    have hne:w3.heap.size ≠ w.heap.size + 1:=by have:=lt_block HR3.out.res; omega
    unfold enV at e0 e1 e2 e3 HC5 HR4
    generalize pathE (feOf r xs ys) (vlE (feOf r xs ys)) en = P at *
    obtain ⟨pi,pj,pc⟩:=P
    simp only at HC5
    clear hbe HPv HW3 HW4 hbk HFe HEr HR3 HR1
    go_upto_region 8 with (fail)
    generalize w3.alloc (.cells #[I J en.1,I J en.2.1,I J en.2.2.1,.int .u16 (en.2.2.2:Int)] 75) = w4 at *
    have HRd:Hid (Rse w w4.drew):=HR4.out.next (Below.refl _ _).drew
    obtain ⟨r0,r1,r2,r3,rf⟩:=HR4.out.cells
    obtain ⟨t0,t1,t2,t3,tf⟩:=HRd.out.cells
    have hS0:w4.drew.cell? ⟨w3.heap.size,0,none⟩ = some (I J en.1) /\ w4.drew.cell? ⟨w3.heap.size,1,none⟩ = some (I J en.2.1) /\ w4.drew.cell? ⟨w3.heap.size,2,none⟩ = some (I J en.2.2.1) /\ w4.drew.cell? ⟨w3.heap.size,3,none⟩ = some (.int .u16 (en.2.2.2:Int)):=⟨keepc (Below.refl _ _).drew e0,keepc (Below.refl _ _).drew e1,keepc (Below.refl _ _).drew e2,keepc (Below.refl _ _).drew e3⟩
    go_region_held3 (fun W=>W.cell? ⟨w3.heap.size,0,none⟩ = some (I J en.1) /\ W.cell? ⟨w3.heap.size,1,none⟩ = some (I J en.2.1) /\ W.cell? ⟨w3.heap.size,2,none⟩ = some (I J en.2.2.1) /\ W.cell? ⟨w3.heap.size,3,none⟩ = some (.int .u16 (en.2.2.2:Int))) (first | exact ⟨e0,e1,e2,e3⟩ | exact hS0 | exact hS1 | exact hS2 | exact ⟨cellE4 hS1.1 hne _ _ _ _,cellE4 hS1.2.1 hne _ _ _ _,cellE4 hS1.2.2.1 hne _ _ _ _,cellE4 hS1.2.2.2 hne _ _ _ _⟩) (first
     | (go_at_call 27; refine (HC5.out _ (by first | exact Below.refl _ _ | exact (Below.refl _ _).drew)).mono ?_; rintro e V ⟨rfl,hv⟩
        have hS1:=And.intro (keepc hv hS0.1) (And.intro (keepc hv hS0.2.1) (And.intro (keepc hv hS0.2.2.1) (keepc hv hS0.2.2.2)))
        have hRv:=HRd.out.next hv
        obtain ⟨u0,u1,u2,u3,uf⟩:=hRv.cells))
    all_goals (
     go_wp2
     refine bodyPost_ret (v:=.tuple #[.agg #[I J en.2.2.1,I J pi,I J pj,.string ⟨pc.toArray⟩],I J 0]) ?_ rfl ?_
     ·simp only [results,hres]
      go_simp
     ·rw [HS.out]
      exact ⟨rfl,belowE4 hRv.low (by simp) _ _ _ _⟩)
set_option maxRecDepth 20000
set_option maxHeartbeats 8000000
theorem IntA.take {w:World} {ao:Option Addr} {n i:Nat} {l:List Int} (h:IntA w ao n l) (hi:i <= n):IntA w ao i (l.take i):=
 ⟨by rw [List.length_take,h.length]; omega,Nat.le_trans hi h.short,fun k p hk=>h.isI k p (by rw [List.getElem?_take] at hk; split at hk; exact hk; cases hk)⟩
theorem FeOk.take {r:Rc} {xs ys:List Int} (h:FeOk (feOf r xs ys)) (i j:Nat):FeOk (feOf r (xs.take i) (ys.take j)):=by
 refine ⟨⟨h.lo,h.hi,h.count,h.places,h.front,h.back,h.few,h.kinds,h.edges,fun x hx=>h.xs x (List.mem_of_mem_take hx),fun x hx=>h.ys x (List.mem_of_mem_take hx),h.vals⟩,?_,?_,?_⟩
 ·have:=h.lx
  show (xs.take i).length <= 65536
  have h2:xs.length <= 65536:=this
  rw [List.length_take]; omega
 ·have:=h.ly
  show (ys.take j).length <= 65536
  have h2:ys.length <= 65536:=this
  rw [List.length_take]; omega
 ·have h2:(xs.length + 1) * (ys.length + 1) <= 1048576:=h.cells
  have h3:((xs.take i).length + 1) * ((ys.take j).length + 1) <= (xs.length + 1) * (ys.length + 1):=Nat.mul_le_mul (by rw [List.length_take]; omega) (by rw [List.length_take]; omega)
  exact Nat.le_trans h3 h2
theorem fe_made2 {r:Rc} {d s t x y v:Sq} {xs ys:List Int} {w1:World} {B:Nat} (hr:RcAt w1 r d.a d.n s.a s.n t.a t.n) (hx:IntA w1 x.a x.n xs) (hy:IntA w1 y.a y.n ys) (hv:v.n = (valsB r.defs).1.length) (ho:w1.ownsRow B 3 1 (.slice v.a v.n v.c) v.n (itRow (valsB r.defs).1)) :
 FcC w1.heap.size (feOf r xs ys) ⟨d,s,t,v,x,y⟩ (w1.alloc (.cells (feCells (feOf r xs ys) ⟨d,s,t,v,x,y⟩) 63)).drew /\ FcM (w1.alloc (.cells (feCells (feOf r xs ys) ⟨d,s,t,v,x,y⟩) 63)).drew (feOf r xs ys) ⟨d,s,t,v,x,y⟩:=by
 have hbk:(w1.alloc (.cells (feCells (feOf r xs ys) ⟨d,s,t,v,x,y⟩) 63)).drew.heap[w1.heap.size]? = _:=heap_alloc_new w1 (.cells (feCells (feOf r xs ys) ⟨d,s,t,v,x,y⟩) 63)
 have hw:Below w1.heap.size w1 (w1.alloc (.cells (feCells (feOf r xs ys) ⟨d,s,t,v,x,y⟩) 63)).drew:=((Below.refl _ _).alloc (Nat.le_refl _) _).drew
 refine ⟨⟨blk hbk rfl,blk hbk rfl,blk hbk rfl,blk hbk rfl,blk hbk rfl,blk hbk rfl,blk hbk rfl,blk hbk rfl,blk hbk rfl,blk hbk rfl,blk hbk rfl,blk hbk rfl,blk hbk rfl,blk hbk rfl⟩,⟨hr.subst.below hw,hr.states.below hw,?_,hx.below hw,hy.below hw⟩⟩
 have:=valsB_few r.defs
 exact intA_own (owned_below ho hw) hv.symm (by show v.n <= maxLen; unfold maxLen; omega)
theorem valueE_bad {r:Rc} {xs ys:List Int} {s i j:Int} (h:errE r xs ys ≠ 0):valueE r xs ys s i j = (0,false,errE r xs ys):=by unfold valueE; rw [if_pos h]
theorem valueE_arg {r:Rc} {xs ys:List Int} {s i j:Int} (h:errE r xs ys = 0) (ha:s < -1 \/ (r.states.length:Int) <= s \/ cellE (feOf r xs ys) i j = false):valueE r xs ys s i j = (0,false,1):=by
 unfold valueE
 rw [if_neg (by omega),if_pos]
 unfold cellE at ha
 simp only [Bool.and_eq_false_iff,decide_eq_false_iff_not] at ha
 have e1:((feOf r xs ys).xs.length:Int) = xs.length:=rfl
 have e2:((feOf r xs ys).ys.length:Int) = ys.length:=rfl
 omega
theorem valueE_ok {r:Rc} {xs ys:List Int} {s:Int} {i j:Nat} (h:errE r xs ys = 0) (h1:-1 <= s) (h2:s < r.states.length) (hi:i <= xs.length) (hj:j <= ys.length):valueE r xs ys s i j = ((vlE (feOf r (xs.take i) (ys.take j)) i j s).getD 0,(vlE (feOf r (xs.take i) (ys.take j)) i j s).isSome,0):=by
 unfold valueE
 rw [if_neg (by omega),if_neg (by omega)]
 rfl
def vaV (q:Int × Bool × Int):Value:=.tuple #[I J q.1,.bool q.2.1,I J q.2.2]
theorem valueX_calls (r:Rc) (d s t x y:Sq) (xs ys:List Int) (st ci cj:Int) (w:World) (hr:RcAt w r d.a d.n s.a s.n t.a t.n) (hx:IntA w x.a x.n xs) (hy:IntA w y.a y.n ys) (hxc:x.n <= x.c) (hyc:y.n <= y.c) :
 Calls Tryz.prog 8 #[.agg (rcCells r d.a d.n d.c s.a s.n s.c t.a t.n t.c),.slice x.a x.n x.c,.slice y.a y.n y.c,I J st,I J ci,I J cj] w fun e w'=>e = .returned (vaV (valueE r xs ys st ci cj)) /\ Below w.heap.size w w':=by
 have HM:Hid (∀ W,Below w.heap.size w W -> RcAt W r d.a d.n s.a s.n t.a t.n /\ IntA W x.a x.n xs /\ IntA W y.a y.n ys):=fun W hW=>⟨hr.below hW,hx.below hW,hy.below hW⟩
 have HC1:Hid (∀ W,Below w.heap.size w W -> Calls Tryz.prog 17 #[.agg #[I J r.letters,.slice d.a d.n d.c,.slice s.a s.n s.c,I J r.beg,I J r.fin,I J r.front,I J r.back,.bool r.banded,I J r.lo,I J r.hi,.slice t.a t.n t.c],.slice x.a x.n x.c,.slice y.a y.n y.c] W fun e w'=>FoPost r d s t x y xs ys W e w'):=fun W hW=>fieldOf_calls r d s t x y xs ys W (hr.below hW) (hx.below hW) (hy.below hW)
 have HB0:Hid (Below w.heap.size w (w.alloc (.cells #[I J r.letters,.slice d.a d.n d.c,.slice s.a s.n s.c,I J r.beg,I J r.fin,I J r.front,I J r.back,.bool r.banded,I J r.lo,I J r.hi,.slice t.a t.n t.c] 26))):=(Below.refl _ _).alloc (Nat.le_refl _) _
 have HT:Hid (∀ U V,Below w.heap.size w U -> Below U.heap.size U V -> Below w.heap.size w V):=fun U V h1 h2=>h1.trans (h2.mono h1.size)
 have htl:=hr.states.length
 have htn:=hr.states.short
 have hxl:=hx.length
 have hyl:=hy.length
 unfold maxLen at htn
 clear hr hx hy
 unfold rcCells
 go_enter Tryz.func8,Tryz.ntmps8
 go_wp2_with fail
 refine (HC1.out _ HB0.out).mono ?_
 rintro e w1 (⟨he,rfl,hb1⟩ | ⟨he,v,hv,rfl,hb1,ho⟩)
 ·have HS:Hid (valueE r xs ys st ci cj = (0,false,errE r xs ys)):=valueE_bad he
  have HB1:Hid (Below w.heap.size w w1):=HT.out _ _ HB0.out hb1
  have kn:(errE r xs ys != 0) = true:=by simpa using he
  unfold zer14
  clear he hb1
  generalize errE r xs ys = er at *
  go_wp2
  go_ret3
  rw [HS.out]
  exact ⟨rfl,HB1.out.alloc HB1.out.size _⟩
 ·have HB1:Hid (Below w.heap.size w w1):=HT.out _ _ HB0.out hb1
  have hb26:w1.heap[w.heap.size]? = some (.cells #[I J r.letters,.slice d.a d.n d.c,.slice s.a s.n s.c,I J r.beg,I J r.fin,I J r.front,I J r.back,.bool r.banded,I J r.lo,I J r.hi,.slice t.a t.n t.c] 26 (0,0)):=by
   rw [hb1.block _ (by simp)]
   exact heap_alloc_new w _
  obtain ⟨h1,h2,h3⟩:=fe_made (HM.out _ HB1.out).1 (HM.out _ HB1.out).2.1 (HM.out _ HB1.out).2.2 (Below.refl _ _) hv ho he
  have HB2:Hid (Below w.heap.size w (w1.alloc (.cells #[I J r.letters,.slice d.a d.n d.c,.slice s.a s.n s.c,I J r.beg,I J r.fin,I J r.front,I J r.back,.bool r.banded,I J r.lo,I J r.hi,.slice t.a t.n t.c,.slice v.a v.n v.c,.slice x.a x.n x.c,.slice y.a y.n y.c] 63))):=HB1.out.alloc HB1.out.size _
  have x10:(w1.alloc (.cells #[I J r.letters,.slice d.a d.n d.c,.slice s.a s.n s.c,I J r.beg,I J r.fin,I J r.front,I J r.back,.bool r.banded,I J r.lo,I J r.hi,.slice t.a t.n t.c,.slice v.a v.n v.c,.slice x.a x.n x.c,.slice y.a y.n y.c] 63)).cell? ⟨w.heap.size,10,none⟩ = some (.slice t.a t.n t.c):=keepc ((Below.refl _ _).alloc (Nat.le_refl _) _) (blk hb26 rfl)
  have HFC:Hid (FcC w1.heap.size (feOf r xs ys) ⟨d,s,t,v,x,y⟩ (w1.alloc (.cells #[I J r.letters,.slice d.a d.n d.c,.slice s.a s.n s.c,I J r.beg,I J r.fin,I J r.front,I J r.back,.bool r.banded,I J r.lo,I J r.hi,.slice t.a t.n t.c,.slice v.a v.n v.c,.slice x.a x.n x.c,.slice y.a y.n y.c] 63)) /\ FcM (w1.alloc (.cells #[I J r.letters,.slice d.a d.n d.c,.slice s.a s.n s.c,I J r.beg,I J r.fin,I J r.front,I J r.back,.bool r.banded,I J r.lo,I J r.hi,.slice t.a t.n t.c,.slice v.a v.n v.c,.slice x.a x.n x.c,.slice y.a y.n y.c] 63)) (feOf r xs ys) ⟨d,s,t,v,x,y⟩ /\ FeOk (feOf r xs ys)):=⟨h1,h2,h3⟩
  have HEr:Hid (errE r xs ys = 0):=he
  have HO:Hid (w1.ownsRow (w.alloc (.cells #[I J r.letters,.slice d.a d.n d.c,.slice s.a s.n s.c,I J r.beg,I J r.fin,I J r.front,I J r.back,.bool r.banded,I J r.lo,I J r.hi,.slice t.a t.n t.c] 26)).heap.size 3 1 (.slice v.a v.n v.c) v.n (itRow (valsB r.defs).1) /\ v.n = (valsB r.defs).1.length):=⟨ho,hv⟩
  have HM1:Hid (RcAt w1 r d.a d.n s.a s.n t.a t.n /\ IntA w1 x.a x.n xs /\ IntA w1 y.a y.n ys):=HM.out _ HB1.out
  unfold feCells feOf
  simp only
  clear he hb1 ho h1 h2 h3 hv HC1 HM hb26
  by_cases c1:st < -1
  ·have k1:decide (st < -1) = true:=by simpa using c1
   have HS:Hid (valueE r xs ys st ci cj = (0,false,1)):=valueE_arg HEr.out (.inl c1)
   go_wp2
   go_ret3
   rw [HS.out]
   exact ⟨rfl,HB2.out⟩
  ·have k1:decide (st < -1) = false:=by simpa using c1
   by_cases c2:(t.n:Int) <= st
   ·have k2:decide ((t.n:Int) <= st) = true:=by simpa using c2
    have HS:Hid (valueE r xs ys st ci cj = (0,false,1)):=valueE_arg HEr.out (.inr (.inl (by rw [htl]; exact c2)))
    go_wp2
    go_ret3
    rw [HS.out]
    exact ⟨rfl,HB2.out⟩
   ·have k2:decide ((t.n:Int) <= st) = false:=by simpa using c2
    go_wp2_with fail
    refine (isCell_calls (F:=feOf r xs ys) (A:=⟨d,s,t,v,x,y⟩) ci cj _ (HFC.out.1.at HFC.out.2.1)).mono ?_
    rintro e w2 ⟨rfl,rfl⟩
    cases hcl:cellE (feOf r xs ys) ci cj with
    | false=>
      have HS:Hid (valueE r xs ys st ci cj = (0,false,1)):=valueE_arg HEr.out (.inr (.inr hcl))
      go_wp2
      go_ret3
      rw [HS.out]
      exact ⟨rfl,HB2.out⟩
    | true=>
      have hc:=hcl
      unfold cellE at hc
      simp only [Bool.and_eq_true,decide_eq_true_eq] at hc
      have e1:((feOf r xs ys).xs.length:Int) = x.n:=by show (xs.length:Int) = _; rw [hxl]
      have e2:((feOf r xs ys).ys.length:Int) = y.n:=by show (ys.length:Int) = _; rw [hyl]
      rw [e1,e2] at hc
      obtain ⟨i,rfl⟩:=Int.eq_ofNat_of_zero_le hc.1.1.1
      obtain ⟨j,rfl⟩:=Int.eq_ofNat_of_zero_le hc.1.2
      have hin:i <= x.n:=by omega
      have hjn:j <= y.n:=by omega
      have hic:(i:Int) <= (x.c:Int):=by omega
      have hjc:(j:Int) <= (y.c:Int):=by omega
      have HS:Hid (valueE r xs ys st i j = ((vlE (feOf r (xs.take i) (ys.take j)) i j st).getD 0,(vlE (feOf r (xs.take i) (ys.take j)) i j st).isSome,0)):=valueE_ok HEr.out (by omega) (by rw [htl]; omega) (by rw [hxl]; exact hin) (by rw [hyl]; exact hjn)
      clear hc e1 e2 hcl
      go_wp2_with fail
      go_region
      have HC2:Hid (Calls Tryz.prog 19 #[.pointer (some ⟨w1.heap.size,0,none⟩)] (w1.alloc (.cells #[I J r.letters,.slice d.a d.n d.c,.slice s.a s.n s.c,I J r.beg,I J r.fin,I J r.front,I J r.back,.bool r.banded,I J r.lo,I J r.hi,.slice t.a t.n t.c,.slice v.a v.n v.c,.slice x.a i x.c,.slice y.a j y.c] 63)).drew fun e w'=>∃ p:Wp,e = .returned (.pointer (some ⟨p.b,0,none⟩)) /\ Wk (w1.alloc (.cells #[I J r.letters,.slice d.a d.n d.c,.slice s.a s.n s.c,I J r.beg,I J r.fin,I J r.front,I J r.back,.bool r.banded,I J r.lo,I J r.hi,.slice t.a t.n t.c,.slice v.a v.n v.c,.slice x.a i x.c,.slice y.a j y.c] 63)).drew (feOf r (xs.take i) (ys.take j)) ⟨d,s,t,v,⟨x.a,i,x.c⟩,⟨y.a,j,y.c⟩⟩ p w' (vlE (feOf r (xs.take i) (ys.take j)))):=by
       have hf:=fe_made2 (x:=⟨x.a,i,x.c⟩) (y:=⟨y.a,j,y.c⟩) HM1.out.1 (HM1.out.2.1.take hin) (HM1.out.2.2.take hjn) HO.out.2 HO.out.1
       exact workOut_calls _ hf.1 hf.2 (HFC.out.2.2.take i j)
      have HB3:Hid (Below w.heap.size w (w1.alloc (.cells #[I J r.letters,.slice d.a d.n d.c,.slice s.a s.n s.c,I J r.beg,I J r.fin,I J r.front,I J r.back,.bool r.banded,I J r.lo,I J r.hi,.slice t.a t.n t.c,.slice v.a v.n v.c,.slice x.a i x.c,.slice y.a j y.c] 63)).drew):=(HB1.out.alloc HB1.out.size _).drew
      have hxt:(feOf r (xs.take i) (ys.take j)).xs.length = i:=by show (xs.take i).length = i; rw [List.length_take]; omega
      have hyt:(feOf r (xs.take i) (ys.take j)).ys.length = j:=by show (ys.take j).length = j; rw [List.length_take]; omega
      have HV:Hid (∀ W0 W p,Wk W0 (feOf r (xs.take i) (ys.take j)) ⟨d,s,t,v,⟨x.a,i,x.c⟩,⟨y.a,j,y.c⟩⟩ p W (vlE (feOf r (xs.take i) (ys.take j))) -> Calls Tryz.prog 20 #[.pointer (some ⟨p.b,0,none⟩),I J st,I J (i:Int),I J (j:Int)] W fun e w'=>e = .returned (.tuple #[I J ((vlE (feOf r (xs.take i) (ys.take j)) i j st).getD 0),.bool (vlE (feOf r (xs.take i) (ys.take j)) i j st).isSome]) /\ Below W.heap.size W w'):=fun W0 W p hW=>value_calls st i j W hW (by omega) (by show st < (r.states.length:Int); rw [htl]; omega) (by rw [hxt]; omega) (by rw [hyt]; omega)
      clear hxt hyt HO HM1 HFC HB2 x10 HB1
      generalize (w1.alloc (.cells #[I J r.letters,.slice d.a d.n d.c,.slice s.a s.n s.c,I J r.beg,I J r.fin,I J r.front,I J r.back,.bool r.banded,I J r.lo,I J r.hi,.slice t.a t.n t.c,.slice v.a v.n v.c,.slice x.a i x.c,.slice y.a j y.c] 63)).drew = w5 at *
      generalize vlE (feOf r (xs.take i) (ys.take j)) i j st = R at *
      go_wp2_with fail
      refine HC2.out.mono ?_
      rintro e w6 ⟨p,rfl,hwk⟩
      have HW6:Hid (Wk w5 (feOf r (xs.take i) (ys.take j)) ⟨d,s,t,v,⟨x.a,i,x.c⟩,⟨y.a,j,y.c⟩⟩ p w6 (vlE (feOf r (xs.take i) (ys.take j)))):=hwk
      have HB6:Hid (Below w.heap.size w w6):=HT.out _ _ HB3.out hwk.low
      clear hwk HC2
      go_wp2_with fail
      refine (HV.out _ _ _ HW6.out).mono ?_
      rintro e w7 ⟨rfl,hb7⟩
      have HB7:Hid (Below w.heap.size w w7):=HT.out _ _ HB6.out hb7
      clear hb7 HW6 HV
      go_wp2
      go_ret3
      rw [HS.out]
      exact ⟨rfl,HB7.out⟩
theorem lets_take {n:Int} {xs:List Int} (h:letsE n xs = true) (i:Nat):letsE n (xs.take i) = true:=by
 unfold letsE at h ⊢
 rw [List.all_eq_true] at h ⊢
 exact fun x hx=>h x (List.mem_of_mem_take hx)
theorem cast_le {a b c:Nat} (h:(a + 1) * (b + 1) <= c):((a:Int) + 1) * ((b:Int) + 1) <= (c:Int):=by exact_mod_cast h
theorem err_take {r:Rc} {xs ys:List Int} (h:errE r xs ys = 0) (i j:Nat):errE r (xs.take i) (ys.take j) = 0:=by
 have hk:=(err_ok h).2.1.take i j
 have h1:(xs.take i).length <= 65536:=hk.lx
 have h2:(ys.take j).length <= 65536:=hk.ly
 have h3:((xs.take i).length + 1) * ((ys.take j).length + 1) <= 1048576:=hk.cells
 have lx:(xs.take i).length <= xs.length:=by rw [List.length_take]; omega
 have ly:(ys.take j).length <= ys.length:=by rw [List.length_take]; omega
 have h4:(((xs.take i).length:Int) + 1) * (((ys.take j).length:Int) + 1) <= 1048576:=cast_le h3
 unfold errE at h ⊢
 split at h
 ·cases h
 ·next g1=>
  rw [if_neg g1]
  split at h
  ·cases h
  ·next g2=>
   have hx:letsE r.letters xs = true:=by cases hl:letsE r.letters xs <;> simp_all
   have hy:letsE r.letters ys = true:=by cases hl:letsE r.letters ys <;> simp_all
   rw [if_neg (by rw [lets_take hx,lets_take hy]; simp)]
   split at h
   ·cases h
   ·next g3=>
    rw [if_neg (by omega),if_neg (by omega)]
/-- The law, in plain lists. -/
theorem prefix_plain {r:Rc} {xs ys:List Int} {s i j n:Int} {b:Bool} (h:valueE r xs ys s i j = (n,b,0)) (hi:i <= xs.length) (hj:j <= ys.length) (h0:0 <= i) (h1:0 <= j):valueE r (xs.take i.toNat) (ys.take j.toNat) s i j = (n,b,0):=by
 unfold valueE at h
 split at h
 ·next g=>exact absurd (congrArg (·.2.2) h) g
 ·next g=>
  split at h
  ·cases h
  ·next g2=>
   have he:=err_take (Decidable.not_not.1 g) i.toNat j.toNat
   unfold valueE
   have lx:((xs.take i.toNat).length:Int) = i:=by rw [List.length_take]; omega
   have ly:((ys.take j.toNat).length:Int) = j:=by rw [List.length_take]; omega
   rw [if_neg (by rw [he]; simp),if_neg (by rw [lx,ly]; omega),List.take_take,List.take_take,Nat.min_self,Nat.min_self]
   exact h
end Go.Proofs.YtbbbnopganhebabGreat
