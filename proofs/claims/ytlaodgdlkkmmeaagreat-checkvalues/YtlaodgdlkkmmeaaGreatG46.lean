/-
  The numbers of a scheme that may be: valuesOf, Right. A model that Numbers builds, its lists rows of the call's own. A scheme in numbers: Numbers.
-/
import Derived.Deep.RegionLaw
import Derived.Test.YtlaodgdlkkmmeaaGreatG45
namespace Go.Proofs.YtlaodgdlkkmmeaaGreat
open Go.RowKit Go.Deep Go.Maps
open Go.Value renaming int->I,string->Ψ,slice->Γ
open Go.IntKind renaming i64->J
open Go.Ending renaming returned->Ω
set_option maxRecDepth 20000
set_option maxHeartbeats 1000000
def shapeS (x:Sc):Bool:=Al.rightB x.letters && decide (x.defs.length <= 5000) && decide (x.subst.length = x.letters.length * x.letters.length) && decide (x.pieces.length <= 4) && decide (1 <= x.mode /\ x.mode <= 4)
def rightS (x:Sc):Bool:=shapeS x && decide ((valsB x.defs).2 = 0) && arePl (valsB x.defs).1 x
/-- What valuesOf tells. -/
def VoPost (x:Sc) (w:World) (e:Ending) (w':World):Prop:=
 ∃ ao n cap,e = Ω (.tuple #[Γ ao n cap,.bool (rightS x)]) /\ Below w.heap.size w w' /\ (rightS x = true -> n = (valsB x.defs).1.length /\ w'.ownsRow w.heap.size 3 1 (Γ ao n cap) n (itRow (valsB x.defs).1))
structure Bo (w:World) (cs:Array Value) (wr:World):Prop where
 low:Below w.heap.size w wr
 box:wr.heap[w.heap.size]? = some (.cells cs 29 (0,0))
theorem Bo.start (w:World) (cs:Array Value):Bo w cs (w.alloc (.cells cs 29)):=⟨(Below.refl _ _).alloc (Nat.le_refl _) _,heap_alloc_new w _⟩
theorem Bo.next {w:World} {cs:Array Value} {wr w2:World} (h:Bo w cs wr) (hb:Below wr.heap.size wr w2):Bo w cs w2:=
 ⟨h.low.trans (hb.mono h.low.size),by rw [hb.block _ (lt_block h.box)]; exact h.box⟩
theorem al_right (l:List UInt8) (w:World) (hl:l.length <= maxLen):Calls Tryz.prog 82 #[Ψ (bs l)] w fun e w'=>e = Ω (.bool (Al.rightB l)) /\ Below w.heap.size w w':=by
 refine (Al.right_calls (bs l) w (by rw [bs_size]; exact hl)).mono ?_
 rintro e w' ⟨rfl,n,rfl⟩
 rw [bs_list]
 exact ⟨rfl,(Below.refl _ _).trans ⟨rfl,rfl,rfl,Nat.le_refl _,fun _ _=>rfl⟩⟩
theorem valuesOf_calls (x:Sc) (da:Option Addr) (dn dc:Nat) (sa:Option Addr) (sn sc:Nat) (pa:Option Addr) (pn pc:Nat) (w:World) (h:ScAt w x da dn sa sn pa pn) :
 Calls Tryz.prog 44 #[.agg (scCells x da dn dc sa sn sc pa pn pc)] w fun e w'=>VoPost x w e w':=by
 have hdn:=h.defs.short
 have hsn:=h.subst.short
 have hpn:=h.pieces.short
 have hll:=h.letters
 unfold maxLen at hdn hsn hpn hll
 have e1:=h.defs.length
 have e2:=h.subst.length
 have e3:=h.pieces.length
 have HS:Hid (ScAt w x da dn sa sn pa pn):=h
 have HNo:Hid (∀ e w',e = Ω (.tuple #[Γ none 0 0,.bool false]) -> Below w.heap.size w w' -> rightS x = false -> VoPost x w e w'):=by
  intro e w' h1 h2 h3
  exact ⟨none,0,0,by rw [h3]; exact h1,h2,fun h4=>by rw [h3] at h4; cases h4⟩
 have hbz:(bs x.letters).size = x.letters.length:=bs_size _
 clear h
 rw [show scCells x da dn dc sa sn sc pa pn pc = #[Ψ (bs x.letters),Γ da dn dc,Γ sa sn sc,Γ pa pn pc,I J x.mode,.bool x.banded,I J x.lo,I J x.hi,I J x.front,I J x.back,I J x.least] from rfl]
 obtain ⟨nl,hnl⟩:∃ nl,(bs x.letters).size = nl:=⟨_,rfl⟩
 have hnl2:nl = x.letters.length:=by rw [<- hnl]; exact hbz
 have hnl3:nl <= 2 ^ 63 - 1:=by omega
 have HNL:Hid (nl = x.letters.length):=hnl2
 clear hnl2 hbz
 go_enter Tryz.func44,Tryz.ntmps44
 go_wp2_with fail
 refine (al_right x.letters _ HS.out.letters).mono ?_
 rintro e w1 ⟨rfl,hb1⟩
 have HB:Hid (Bo w (scCells x da dn dc sa sn sc pa pn pc) w1):=(Bo.start w _).next hb1
 clear hb1
 cases hr:Al.rightB x.letters with
 | false=>
   have HR:Hid (rightS x = false):=by show rightS x = _; unfold rightS shapeS; rw [hr]; rfl
   clear hr
   go_wp2
   go_ret2
   exact HNo.out _ _ rfl HB.out.low HR.out
 | true=>
   have hf:=right_few hr
   have hl20:nl <= 20:=by rw [HNL.out]; exact hf.2
   have hsq:nl * nl <= 400:=by have:=Nat.mul_le_mul hl20 hl20; omega
   have hsqi:(nl:Int) * (nl:Int) = ((nl * nl:Nat):Int):=by simp
   have c0:w1.cell? ⟨w.heap.size,0,none⟩ = some (Ψ (bs x.letters)):=blk HB.out.box rfl
   have c1:w1.cell? ⟨w.heap.size,1,none⟩ = some (Γ da dn dc):=blk HB.out.box rfl
   have c2:w1.cell? ⟨w.heap.size,2,none⟩ = some (Γ sa sn sc):=blk HB.out.box rfl
   have c3:w1.cell? ⟨w.heap.size,3,none⟩ = some (Γ pa pn pc):=blk HB.out.box rfl
   have c4:w1.cell? ⟨w.heap.size,4,none⟩ = some (I J x.mode):=blk HB.out.box rfl
   have c5:w1.cell? ⟨w.heap.size,5,none⟩ = some (.bool x.banded):=blk HB.out.box rfl
   have c6:w1.cell? ⟨w.heap.size,6,none⟩ = some (I J x.lo):=blk HB.out.box rfl
   have c7:w1.cell? ⟨w.heap.size,7,none⟩ = some (I J x.hi):=blk HB.out.box rfl
   have c8:w1.cell? ⟨w.heap.size,8,none⟩ = some (I J x.front):=blk HB.out.box rfl
   have c9:w1.cell? ⟨w.heap.size,9,none⟩ = some (I J x.back):=blk HB.out.box rfl
   have c10:w1.cell? ⟨w.heap.size,10,none⟩ = some (I J x.least):=blk HB.out.box rfl
   have HSh:Hid (shapeS x = (decide (dn <= 5000) && decide (sn = nl * nl) && decide (pn <= 4) && decide (1 <= x.mode /\ x.mode <= 4))):=by
    show shapeS x = _
    unfold shapeS
    rw [hr,e1,e2,e3,HNL.out,Bool.true_and]
   clear hr e1 e2 e3 hf
   by_cases g1:5000 < dn
   ·have HR:Hid (rightS x = false):=by show rightS x = _; unfold rightS; rw [HSh.out,show decide (dn <= 5000) = false by simp; omega]; rfl
    have k1:decide ((5000:Int) < (dn:Int)) = true:=by simp; omega
    go_wp2
    go_ret2
    exact HNo.out _ _ rfl HB.out.low HR.out
   have k1:decide ((5000:Int) < (dn:Int)) = false:=by simp; omega
   by_cases g2:sn = nl * nl
   ·have k2:((sn:Int) != (nl:Int) * (nl:Int)) = false:=by rw [hsqi]; simp [g2]
    have hmul:0 <= (nl:Int) * (nl:Int) /\ (nl:Int) * (nl:Int) <= 400:=by rw [hsqi]; omega
    obtain ⟨hmul1,hmul2⟩:=hmul
    have G2:Hid (sn = nl * nl):=g2
    clear g2 hsqi hsq
    by_cases g3:4 < pn
    ·have HR:Hid (rightS x = false):=by show rightS x = _; unfold rightS; rw [HSh.out,show decide (pn <= 4) = false by simp; omega]; simp
     have k3:decide ((4:Int) < (pn:Int)) = true:=by simp; omega
     go_wp2
     go_ret2
     exact HNo.out _ _ rfl HB.out.low HR.out
    have k3:decide ((4:Int) < (pn:Int)) = false:=by simp; omega
    by_cases g4:x.mode < 1
    ·have HR:Hid (rightS x = false):=by show rightS x = _; unfold rightS; rw [HSh.out,show decide (1 <= x.mode /\ x.mode <= 4) = false by simp; omega]; simp
     go_wp2
     go_ret2
     exact HNo.out _ _ rfl HB.out.low HR.out
    by_cases g5:4 < x.mode
    ·have HR:Hid (rightS x = false):=by show rightS x = _; unfold rightS; rw [HSh.out,show decide (1 <= x.mode /\ x.mode <= 4) = false by simp; omega]; simp
     go_wp2
     go_ret2
     exact HNo.out _ _ rfl HB.out.low HR.out
    have HSt:Hid (shapeS x = true):=by
     have h1:dn <= 5000:=by omega
     have h2:pn <= 4:=by omega
     have h3:1 <= x.mode /\ x.mode <= 4:=by omega
     rw [HSh.out,decide_eq_true h1,decide_eq_true G2.out,decide_eq_true h2,decide_eq_true h3]
     rfl
    clear HSh
    go_wp2_with fail
    refine (values_calls x.defs _ _ _ _ (HS.out.defs.below HB.out.low)).mono ?_
    intro e w2 hp
    obtain ⟨vo,vc,he,hown,hb2⟩:=hp
    subst he
    have HB2:Hid (Bo w (scCells x da dn dc sa sn sc pa pn pc) w2):=HB.out.next hb2
    have hfew:=valsB_few x.defs
    obtain ⟨vs,hvs⟩:∃ vs,(valsB x.defs).1 = vs:=⟨_,rfl⟩
    obtain ⟨er,her⟩:∃ er,(valsB x.defs).2 = er:=⟨_,rfl⟩
    rw [hvs] at hown hfew
    rw [hvs,her]
    have HVV:Hid (rightS x = (decide (er = 0) && arePl vs x) /\ (valsB x.defs).1 = vs):=⟨by unfold rightS; rw [HSt.out,hvs,her]; rfl,hvs⟩
    have HOw:Hid (w2.ownsRow w.heap.size 3 1 (Γ vo vs.length vc) vs.length (itRow vs) /\ IntA w2 vo vs.length vs):=by
     refine ⟨?_,intA_own hown rfl (by unfold maxLen; omega)⟩
     refine ⟨hown.1,?_⟩
     rcases hown.2 with h1 | ⟨q,cap,cur,a1,a2,a3⟩
     ·exact .inl h1
     ·exact .inr ⟨q,cap,cur,a1,Nat.le_trans HB.out.low.size a2,a3⟩
    clear hown hb2 hvs her HSt HB c0 c1 c2 c3 c4 c5 c6 c7 c8 c9 c10
    by_cases hz:er = 0
    ·subst hz
     have n0:((0:Int) != 0) = false:=rfl
     have c0:w2.cell? ⟨w.heap.size,0,none⟩ = some (Ψ (bs x.letters)):=blk HB2.out.box rfl
     have c1:w2.cell? ⟨w.heap.size,1,none⟩ = some (Γ da dn dc):=blk HB2.out.box rfl
     have c2:w2.cell? ⟨w.heap.size,2,none⟩ = some (Γ sa sn sc):=blk HB2.out.box rfl
     have c3:w2.cell? ⟨w.heap.size,3,none⟩ = some (Γ pa pn pc):=blk HB2.out.box rfl
     have c4:w2.cell? ⟨w.heap.size,4,none⟩ = some (I J x.mode):=blk HB2.out.box rfl
     have c5:w2.cell? ⟨w.heap.size,5,none⟩ = some (.bool x.banded):=blk HB2.out.box rfl
     have c6:w2.cell? ⟨w.heap.size,6,none⟩ = some (I J x.lo):=blk HB2.out.box rfl
     have c7:w2.cell? ⟨w.heap.size,7,none⟩ = some (I J x.hi):=blk HB2.out.box rfl
     have c8:w2.cell? ⟨w.heap.size,8,none⟩ = some (I J x.front):=blk HB2.out.box rfl
     have c9:w2.cell? ⟨w.heap.size,9,none⟩ = some (I J x.back):=blk HB2.out.box rfl
     have c10:w2.cell? ⟨w.heap.size,10,none⟩ = some (I J x.least):=blk HB2.out.box rfl
     go_wp2_with fail
     refine (arePlaces_calls x da dn dc sa sn sc pa pn pc vs vo vs.length vc _ (HS.out.below HB2.out.low) HOw.out.2).mono ?_
     rintro e w3 ⟨rfl,hb3⟩
     have HQ:Hid (Below w.heap.size w w3 /\ w3.ownsRow w.heap.size 3 1 (Γ vo vs.length vc) vs.length (itRow vs)):=⟨(HB2.out.next hb3).low,owned_below HOw.out.1 hb3⟩
     clear hb3 c0 c1 c2 c3 c4 c5 c6 c7 c8 c9 c10
     go_wp2
     go_ret2
     have e1:rightS x = arePl vs x:=by have:=HVV.out.1; simpa using this
     refine ⟨vo,vs.length,vc,by rw [e1]; rfl,HQ.out.1,fun _=>?_⟩
     rw [HVV.out.2]
     exact ⟨rfl,HQ.out.2⟩
    ·have n0:(er != 0) = true:=by simpa using hz
     have HR:Hid (rightS x = false):=by show rightS x = _; rw [HVV.out.1]; simp [hz]
     go_wp2
     go_ret2
     exact HNo.out _ _ rfl HB2.out.low HR.out
   ·have k2:((sn:Int) != (nl:Int) * (nl:Int)) = true:=by rw [hsqi]; simp; omega
    have HR:Hid (rightS x = false):=by show rightS x = _; unfold rightS; rw [HSh.out,show decide (sn = nl * nl) = false by simpa using g2]; simp
    have hmul:0 <= (nl:Int) * (nl:Int) /\ (nl:Int) * (nl:Int) <= 400:=by rw [hsqi]; omega
    obtain ⟨hmul1,hmul2⟩:=hmul
    clear g2 hsqi hsq
    go_wp2
    go_ret2
    exact HNo.out _ _ rfl HB.out.low HR.out
open Go.Value renaming int->I,slice->Γ
open Go.Obj renaming cells->Δ
structure Mo where
 letters:Int
 subst:List Int
 gaps:List (Int × Int)
 mode:Int
 banded:Bool
 lo:Int
 hi:Int
 front:Int
 back:Int
 least:Int
def moCells (m:Mo) (sa:Option Addr) (sn sc:Nat) (ga:Option Addr) (gn gc:Nat):Array Value:=
 #[I J m.letters,Γ sa sn sc,Γ ga gn gc,I J m.mode,.bool m.banded,I J m.lo,I J m.hi,I J m.front,I J m.back,I J m.least]
def gapS (vs:List Int) (p:Int × Int):Int × Int:=(vAt vs p.1,vAt vs p.2)
def num0 (vs:List Int) (x:Sc):Mo:=⟨x.letters.length,[],[],x.mode,x.banded,0,0,vAt vs x.front,vAt vs x.back,vAt vs x.least⟩
def numS (vs:List Int) (x:Sc):Mo:=⟨x.letters.length,x.subst.map (vAt vs),x.pieces.map (gapS vs),x.mode,x.banded,if x.banded then vAt vs x.lo else 0,if x.banded then vAt vs x.hi else 0,vAt vs x.front,vAt vs x.back,vAt vs x.least⟩
theorem step_append_own {P:Program} {ops:Array Oper} {o:Oper} {a:Act} {w:World} {K:Act -> World -> Prop} {Q:Exit -> Act -> World -> Prop} {E:Prop}
 (hg:o.guard = none) (s x:Operand) (t:TypeId) (hop:o.op = Op.call { callee:=Callee.builtin Builtin.append,args:=#[s,x],argTypes:=#[t,t] })
 (base:Nat) (e:TypeId) (i:TypeInfo) (z:Value) (size bytes:Nat) (h1:P.underlying t = some (.slice e)) (h2:P.info? e = some i) (h3:i.zero = some z) (h4:i.size = size) (h5:i.bytes = bytes) (h6:z.cells.size = size) (h7:0 < size)
 (v:Value) (n:Nat) (xs:List Value) (hs:a.eval s = v) (hown:w.ownsRow base e size v n xs)
 (ad:Addr) (m c:Nat) (news:List Value) (hx:a.eval x = Γ (some ad) m c) (hn:news.length = m * size) (hc:∀ j u,news[j]? = some u -> w.cell? (ad.add j) = some u) (h1c:∀ u ∈ news,u.oneCell' = true)
 (b1:n + m <= maxLen) (b2:(n + m) * bytes <= 140737488355328) (hbase:base <= w.heap.size)
 (hK:∀ v' w',w'.ownsRow base e size v' (n + m) (xs ++ news) -> w.grownBy w' v.ownBlock -> K (a.put o.dst v') w') :
 if Region.wanted o (yielded ops a.tmps) = true then Oper.wp P o a w K Q else E:=by
 have hw:Region.wanted o (yielded ops a.tmps) = true:=by simp [Region.wanted,hg]
 rw [if_pos hw]
 obtain ⟨v',w',hrun,r1,r2,_⟩:=run_append_own (P:=P) w base t o.type e i z size bytes h1 h2 h3 h4 h5 h6 h7 v n xs hown ad m c news hn hc h1c b1 b2 hbase
 unfold Oper.wp
 simp [execOp,hop,resolve,invoke,builtin,hs,hx,hrun,Result.andThen]
 exact hK v' w' r1 r2
theorem owned_from {w:World} {base:Nat} {e:TypeId} {size:Nat} {v:Value} {n:Nat} {xs:List Value} (h:w.ownsRow base e size v n xs):∀ k,v.ownBlock = some k -> base <= k:=by
 intro k hk
 rcases h.2 with ⟨hv,_⟩ | ⟨g,cap,cur,hv,hb,_⟩
 ·rw [hv] at hk; cases hk
 ·rw [hv] at hk; cases hk; exact hb
structure NX (W1:World) (m:Mo) (ma:Option Addr) (mn mc:Nat) (ga:Option Addr) (gn gc:Nat) (xs:List Int) (ys:List (Int × Int)) (wr:World):Prop where
 bel:Below W1.heap.size W1 wr
 mb:wr.heap[W1.heap.size]? = some (Δ (moCells m ma mn mc ga gn gc) 52 (0,0))
 su:wr.ownsRow (W1.heap.size + 1) 3 1 (Γ ma mn mc) mn (itRow xs)
 gp:wr.ownsRow (W1.heap.size + 1) 81 2 (Γ ga gn gc) gn (pcRow ys)
theorem NX.start (W:World) (m:Mo):NX W m none 0 0 none 0 0 [] [] (W.alloc (Δ (moCells m none 0 0 none 0 0) 52)):=
 ⟨(Below.refl _ _).alloc (Nat.le_refl _) _,heap_alloc_new W _,⟨rfl,.inl ⟨rfl,rfl⟩⟩,⟨rfl,.inl ⟨rfl,rfl⟩⟩⟩
section
variable {W1:World} {m:Mo} {ma:Option Addr} {mn mc:Nat} {ga:Option Addr} {gn gc:Nat} {xs:List Int} {ys:List (Int × Int)} {wr:World}
theorem NX.next (h:NX W1 m ma mn mc ga gn gc xs ys wr) {w2:World} (hb:Below wr.heap.size wr w2):NX W1 m ma mn mc ga gn gc xs ys w2:=
 ⟨h.bel.trans (hb.mono h.bel.size),by rw [hb.block _ (lt_block h.mb)]; exact h.mb,owned_below h.su hb,owned_below h.gp hb⟩
theorem NX.alloc (h:NX W1 m ma mn mc ga gn gc xs ys wr) (o:Obj):NX W1 m ma mn mc ga gn gc xs ys (wr.alloc o):=h.next ((Below.refl _ _).alloc (Nat.le_refl _) _)
theorem NX.drew (h:NX W1 m ma mn mc ga gn gc xs ys wr):NX W1 m ma mn mc ga gn gc xs ys wr.drew:=h.next (Below.refl _ _).drew
theorem NX.put (h:NX W1 m ma mn mc ga gn gc xs ys wr) {i:Nat} {u:Value} {m':Mo} (hc:(moCells m ma mn mc ga gn gc).setIfInBounds i u = moCells m' ma mn mc ga gn gc):NX W1 m' ma mn mc ga gn gc xs ys (wr.setCell ⟨W1.heap.size,i,none⟩ u):=by
 refine ⟨h.bel.setCell (p:=⟨W1.heap.size,i,none⟩) (Nat.le_refl _) _,heap_put h.mb hc,ownsRow_setCell_below h.su (a:=⟨W1.heap.size,i,none⟩) (by show W1.heap.size < _; omega) _,ownsRow_setCell_below h.gp (a:=⟨W1.heap.size,i,none⟩) (by show W1.heap.size < _; omega) _⟩
theorem NX.addS (h:NX W1 m ma mn mc ga gn gc xs ys wr) {v':Value} {w4:World} {z:Int} (ho:w4.ownsRow (W1.heap.size + 1) 3 1 v' (mn + 1) (itRow xs ++ [I J z])) (hg:wr.grownBy w4 (Value.slice ma mn mc).ownBlock) :
 w4.cell? ⟨W1.heap.size,1,none⟩ = some (Γ ma mn mc) /\ w4.frozen? ⟨W1.heap.size,1,none⟩ = false /\ ∃ va' vc',v' = Γ va' (mn + 1) vc' /\ NX W1 m va' (mn + 1) vc' ga gn gc (xs ++ [z]) ys (w4.setCell ⟨W1.heap.size,1,none⟩ v'):=by
 have hf:=owned_from h.su
 have hbl:=lt_block h.mb
 have e1:w4.heap[W1.heap.size]? = wr.heap[W1.heap.size]?:=hg.block _ hbl (fun e=>by have:=hf _ e.symm; omega)
 have mb4:w4.heap[W1.heap.size]? = some (Δ (moCells m ma mn mc ga gn gc) 52 (0,0)):=e1.trans h.mb
 have bel4:Below W1.heap.size W1 w4:=h.bel.grown hg (by omega) (fun q hq=>by have:=hf q hq; omega)
 have gp4:w4.ownsRow (W1.heap.size + 1) 81 2 (Γ ga gn gc) gn (pcRow ys):=own_row h.gp hg (fun g hg1 e=>own_two h.gp h.su (by decide) g hg1 e)
 refine ⟨blk mb4 rfl,blkf 1 mb4,?_⟩
 obtain ⟨va',vc',rfl⟩:=owned_shape ho
 refine ⟨va',vc',rfl,bel4.setCell (p:=⟨W1.heap.size,1,none⟩) (Nat.le_refl _) _,heap_put mb4 rfl,?_,ownsRow_setCell_below gp4 (a:=⟨W1.heap.size,1,none⟩) (by show W1.heap.size < _; omega) _⟩
 rw [itRow_snoc]
 exact ownsRow_setCell_below ho (a:=⟨W1.heap.size,1,none⟩) (by show W1.heap.size < _; omega) _
theorem NX.addG (h:NX W1 m ma mn mc ga gn gc xs ys wr) {v':Value} {w4:World} {g:Int × Int} (ho:w4.ownsRow (W1.heap.size + 1) 81 2 v' (gn + 1) (pcRow ys ++ pcCells g)) (hg:wr.grownBy w4 (Value.slice ga gn gc).ownBlock) :
 w4.cell? ⟨W1.heap.size,2,none⟩ = some (Γ ga gn gc) /\ w4.frozen? ⟨W1.heap.size,2,none⟩ = false /\ ∃ va' vc',v' = Γ va' (gn + 1) vc' /\ NX W1 m ma mn mc va' (gn + 1) vc' xs (ys ++ [g]) (w4.setCell ⟨W1.heap.size,2,none⟩ v'):=by
 have hf:=owned_from h.gp
 have hbl:=lt_block h.mb
 have e1:w4.heap[W1.heap.size]? = wr.heap[W1.heap.size]?:=hg.block _ hbl (fun e=>by have:=hf _ e.symm; omega)
 have mb4:w4.heap[W1.heap.size]? = some (Δ (moCells m ma mn mc ga gn gc) 52 (0,0)):=e1.trans h.mb
 have bel4:Below W1.heap.size W1 w4:=h.bel.grown hg (by omega) (fun q hq=>by have:=hf q hq; omega)
 have su4:w4.ownsRow (W1.heap.size + 1) 3 1 (Γ ma mn mc) mn (itRow xs):=own_row h.su hg (fun g hg1 e=>own_two h.su h.gp (by decide) g hg1 e)
 refine ⟨blk mb4 rfl,blkf 2 mb4,?_⟩
 obtain ⟨va',vc',rfl⟩:=owned_shape ho
 refine ⟨va',vc',rfl,bel4.setCell (p:=⟨W1.heap.size,2,none⟩) (Nat.le_refl _) _,heap_put mb4 rfl,ownsRow_setCell_below su4 (a:=⟨W1.heap.size,2,none⟩) (by show W1.heap.size < _; omega) _,?_⟩
 rw [pcRow_snoc]
 exact ownsRow_setCell_below ho (a:=⟨W1.heap.size,2,none⟩) (by show W1.heap.size < _; omega) _
end
theorem placeB_out {vs:List Int} {least p:Int} (h:placeB vs least p = true):∃ q:Nat,p = (q:Int) /\ q < vs.length /\ least <= vAt vs p /\ vAt vs p <= 72057594037927936:=by
 have:=of_decide_eq_true h
 obtain ⟨q,hq⟩:=Int.eq_ofNat_of_zero_le this.1
 exact ⟨q,hq,by omega,this.2.2⟩
theorem fromP_mem {vs:List Int} {least:Int} {ps:List Int} (h:fromP vs least ps = true) {p:Int} (hp:p ∈ ps):placeB vs least p = true:=by
 unfold fromP at h
 rw [List.all_eq_true] at h
 exact h p hp
/-- What is known of a scheme that may be, and its numbers. -/
structure RtS (vs:List Int) (x:Sc):Prop where
 few:x.letters.length <= 20
 subst:∀ p ∈ x.subst,placeB vs (-72057594037927936) p = true
 pieces:∀ p ∈ x.pieces,placeB vs 0 p.1 = true /\ placeB vs 0 p.2 = true
 front:placeB vs 0 x.front = true
 back:placeB vs 0 x.back = true
 least:placeB vs (-72057594037927936) x.least = true
 band:x.banded = true -> placeB vs (-72057594037927936) x.lo = true /\ placeB vs (-72057594037927936) x.hi = true /\ vAt vs x.lo <= vAt vs x.hi
 sub400:x.subst.length <= 400
 pcs4:x.pieces.length <= 4
theorem rightS_out {x:Sc} (h:rightS x = true):RtS (valsB x.defs).1 x /\ (valsB x.defs).2 = 0:=by
 unfold rightS shapeS arePl at h
 simp only [Bool.and_eq_true,decide_eq_true_eq] at h
 obtain ⟨⟨⟨⟨⟨⟨h1,h2⟩,h3⟩,h4⟩,h5⟩,h6⟩,⟨⟨⟨p1,p2⟩,p3⟩,p4⟩,p5⟩:=h
 have hf:=right_few h1
 refine ⟨⟨hf.2,fun p hp=>fromP_mem p2 hp,fun p hp=>?_,fromP_mem p4 (by simp),fromP_mem p4 (by simp),fromP_mem p3 (by simp),fun hb=>?_,?_,h4⟩,h6⟩
 ·unfold pcsB at p1
  rw [List.all_eq_true] at p1
  have:=p1 p hp
  exact ⟨fromP_mem this (by simp),fromP_mem this (by simp)⟩
 ·unfold bandS at p5
  rw [if_pos hb] at p5
  simp only [Bool.and_eq_true,decide_eq_true_eq] at p5
  exact ⟨fromP_mem p5.1 (by simp),fromP_mem p5.1 (by simp),p5.2⟩
 ·rw [h3]
  have:=Nat.mul_le_mul hf.2 hf.2
  omega
open Go.Value renaming int->I,pointer->Φ,string->Ψ,slice->Γ
set_option maxRecDepth 20000
set_option maxHeartbeats 1000000
/-- What Numbers tells. -/
def NumPost (x:Sc) (w:World) (e:Ending) (w':World):Prop:=
 if rightS x then ∃ ma mn mc ga gn gc,e = Ω (.tuple #[.agg (moCells (numS (valsB x.defs).1 x) ma mn mc ga gn gc),I J 0]) /\ Below w.heap.size w w' /\ mn = x.subst.length /\ gn = x.pieces.length /\ w'.ownsRow 0 3 1 (Γ ma mn mc) mn (itRow (x.subst.map (vAt (valsB x.defs).1))) /\ w'.ownsRow 0 81 2 (Γ ga gn gc) gn (pcRow (x.pieces.map (gapS (valsB x.defs).1)))
 else e = Ω (.tuple #[.agg #[I J 0,Γ none 0 0,Γ none 0 0,I J 0,.bool false,I J 0,I J 0,I J 0,I J 0,I J 0],I J 95]) /\ Below w.heap.size w w'
structure B5 (w:World) (cs:Array Value) (wr:World):Prop where
 low:Below w.heap.size w wr
 box:wr.heap[w.heap.size]? = some (Δ cs 29 (0,0))
 res:wr.heap[w.heap.size + 1]? = some (Δ #[I J 0,Γ none 0 0,Γ none 0 0,I J 0,.bool false,I J 0,I J 0,I J 0,I J 0,I J 0] 52 (0,0))
theorem B5.start (w:World) (cs:Array Value):B5 w cs ((w.alloc (Δ cs 29)).alloc (Δ #[I J 0,Γ none 0 0,Γ none 0 0,I J 0,.bool false,I J 0,I J 0,I J 0,I J 0,I J 0] 52)):=by
 refine ⟨((Below.refl _ _).alloc (Nat.le_refl _) _).alloc (by simp) _,?_,?_⟩
 ·have hb:=(Below.refl (w.alloc (Δ cs 29)).heap.size (w.alloc (Δ cs 29))).alloc (Nat.le_refl _) (Δ #[I J 0,Γ none 0 0,Γ none 0 0,I J 0,.bool false,I J 0,I J 0,I J 0,I J 0,I J 0] 52)
  rw [hb.block _ (by simp)]
  exact heap_alloc_new w _
 ·have h:=heap_alloc_new (w.alloc (Δ cs 29)) (Δ #[I J 0,Γ none 0 0,Γ none 0 0,I J 0,.bool false,I J 0,I J 0,I J 0,I J 0,I J 0] 52)
  rwa [show (w.alloc (Δ cs 29)).heap.size = w.heap.size + 1 by simp] at h
theorem B5.next {w:World} {cs:Array Value} {wr w2:World} (h:B5 w cs wr) (hb:Below wr.heap.size wr w2):B5 w cs w2:=
 ⟨h.low.trans (hb.mono h.low.size),by rw [hb.block _ (lt_block h.box)]; exact h.box,by rw [hb.block _ (lt_block h.res)]; exact h.res⟩
theorem below_ten {w W:World} (h:Below w.heap.size w W) (v0 v1 v2 v3 v4 v5 v6 v7 v8 v9:Value):Below w.heap.size w ((((((((((W.setCell ⟨w.heap.size + 1,0,none⟩ v0).setCell ⟨w.heap.size + 1,1,none⟩ v1).setCell ⟨w.heap.size + 1,2,none⟩ v2).setCell ⟨w.heap.size + 1,3,none⟩ v3).setCell ⟨w.heap.size + 1,4,none⟩ v4).setCell ⟨w.heap.size + 1,5,none⟩ v5).setCell ⟨w.heap.size + 1,6,none⟩ v6).setCell ⟨w.heap.size + 1,7,none⟩ v7).setCell ⟨w.heap.size + 1,8,none⟩ v8).setCell ⟨w.heap.size + 1,9,none⟩ v9):=by
 have a:∀ (W:World) (i:Nat) (v:Value),Below w.heap.size w W -> Below w.heap.size w (W.setCell ⟨w.heap.size + 1,i,none⟩ v):=fun W i v h=>h.setCell (p:=⟨w.heap.size + 1,i,none⟩) (show w.heap.size <= w.heap.size + 1 by omega) v
 exact (a _ 9 v9 (a _ 8 v8 (a _ 7 v7 (a _ 6 v6 (a _ 5 v5 (a _ 4 v4 (a _ 3 v3 (a _ 2 v2 (a _ 1 v1 (a _ 0 v0 h))))))))))
theorem own_ten {w W:World} {base:Nat} {e:TypeId} {size:Nat} {v:Value} {n:Nat} {xs:List Value} (h:W.ownsRow base e size v n xs) (hb:w.heap.size + 1 < base) (v0 v1 v2 v3 v4 v5 v6 v7 v8 v9:Value):((((((((((W.setCell ⟨w.heap.size + 1,0,none⟩ v0).setCell ⟨w.heap.size + 1,1,none⟩ v1).setCell ⟨w.heap.size + 1,2,none⟩ v2).setCell ⟨w.heap.size + 1,3,none⟩ v3).setCell ⟨w.heap.size + 1,4,none⟩ v4).setCell ⟨w.heap.size + 1,5,none⟩ v5).setCell ⟨w.heap.size + 1,6,none⟩ v6).setCell ⟨w.heap.size + 1,7,none⟩ v7).setCell ⟨w.heap.size + 1,8,none⟩ v8).setCell ⟨w.heap.size + 1,9,none⟩ v9).ownsRow base e size v n xs:=by
 have a:∀ (W:World) (i:Nat) (u:Value),W.ownsRow base e size v n xs -> (W.setCell ⟨w.heap.size + 1,i,none⟩ u).ownsRow base e size v n xs:=fun W i u h=>ownsRow_setCell_below h (a:=⟨w.heap.size + 1,i,none⟩) hb u
 exact (a _ 9 v9 (a _ 8 v8 (a _ 7 v7 (a _ 6 v6 (a _ 5 v5 (a _ 4 v4 (a _ 3 v3 (a _ 2 v2 (a _ 1 v1 (a _ 0 v0 h))))))))))
theorem info81:(Tryz.prog.info? 81).map (fun i=>(i.zero,i.size,i.bytes)) = some (some (.agg #[I J 0,I J 0]),2,16):=by kernel_rfl
theorem own_zero {W:World} {base:Nat} {e:TypeId} {size:Nat} {v:Value} {n:Nat} {xs:List Value} (h:W.ownsRow base e size v n xs):W.ownsRow 0 e size v n xs:=by
 refine ⟨h.1,?_⟩
 rcases h.2 with h1 | ⟨q,cap,cur,a1,a2,a3⟩
 ·exact .inl h1
 ·exact .inr ⟨q,cap,cur,a1,Nat.zero_le _,a3⟩
theorem numbers_no (x:Sc) (da:Option Addr) (dn dc:Nat) (sa:Option Addr) (sn sc:Nat) (pa:Option Addr) (pn pc:Nat) (w:World) (h:ScAt w x da dn sa sn pa pn) (hr:rightS x = false) :
 Calls Tryz.prog 21 #[.agg (scCells x da dn dc sa sn sc pa pn pc)] w fun e w'=>NumPost x w e w':=by
 have hres:Tryz.f21.results = #[.cell 2 52,.tmp 3]:=by kernel_rfl
 have HS:Hid (ScAt w x da dn sa sn pa pn):=h
 have HR:Hid (rightS x = false):=hr
 clear h hr
 rw [show scCells x da dn dc sa sn sc pa pn pc = #[Ψ (bs x.letters),Γ da dn dc,Γ sa sn sc,Γ pa pn pc,I J x.mode,.bool x.banded,I J x.lo,I J x.hi,I J x.front,I J x.back,I J x.least] from rfl]
 go_enter Tryz.func21,Tryz.ntmps21
 go_wp2_with fail
 have hB0:=B5.start w (scCells x da dn dc sa sn sc pa pn pc)
 refine (valuesOf_calls x da dn dc sa sn sc pa pn pc _ (HS.out.below hB0.low)).mono ?_
 rintro e w1 ⟨vo,vn,vc,rfl,hb,_⟩
 rw [HR.out]
 have HB:Hid (B5 w (scCells x da dn dc sa sn sc pa pn pc) w1):=hB0.next hb
 clear hb hB0
 have r0:w1.cell? ⟨w.heap.size + 1,0,none⟩ = some (I J 0):=blk HB.out.res rfl
 have r1:w1.cell? ⟨w.heap.size + 1,1,none⟩ = some (Γ none 0 0):=blk HB.out.res rfl
 have r2:w1.cell? ⟨w.heap.size + 1,2,none⟩ = some (Γ none 0 0):=blk HB.out.res rfl
 have r3:w1.cell? ⟨w.heap.size + 1,3,none⟩ = some (I J 0):=blk HB.out.res rfl
 have r4:w1.cell? ⟨w.heap.size + 1,4,none⟩ = some (.bool false):=blk HB.out.res rfl
 have r5:w1.cell? ⟨w.heap.size + 1,5,none⟩ = some (I J 0):=blk HB.out.res rfl
 have r6:w1.cell? ⟨w.heap.size + 1,6,none⟩ = some (I J 0):=blk HB.out.res rfl
 have r7:w1.cell? ⟨w.heap.size + 1,7,none⟩ = some (I J 0):=blk HB.out.res rfl
 have r8:w1.cell? ⟨w.heap.size + 1,8,none⟩ = some (I J 0):=blk HB.out.res rfl
 have r9:w1.cell? ⟨w.heap.size + 1,9,none⟩ = some (I J 0):=blk HB.out.res rfl
 have rf:∀ i,w1.frozen? ⟨w.heap.size + 1,i,none⟩ = false:=fun i=>blkf i HB.out.res
 go_wp2
 refine bodyPost_ret (v:=.tuple #[.agg #[I J 0,Γ none 0 0,Γ none 0 0,I J 0,.bool false,I J 0,I J 0,I J 0,I J 0,I J 0],I J 95]) ?_ rfl ?_
 ·simp only [results,hres]
  go_simp
 ·show NumPost _ _ _ _
  unfold NumPost
  rw [HR.out,if_neg (by decide)]
  exact ⟨rfl,below_ten HB.out.low _ _ _ _ _ _ _ _ _ _⟩
theorem numbers_yes (x:Sc) (da:Option Addr) (dn dc:Nat) (sa:Option Addr) (sn sc:Nat) (pa:Option Addr) (pn pc:Nat) (w:World) (h:ScAt w x da dn sa sn pa pn) (hr:rightS x = true) :
 Calls Tryz.prog 21 #[.agg (scCells x da dn dc sa sn sc pa pn pc)] w fun e w'=>NumPost x w e w':=by
 have hres:Tryz.f21.results = #[.cell 2 52,.tmp 3]:=by kernel_rfl
 obtain ⟨i3,hi3,hz30,hz31,hz32⟩:=info_parts info3
 obtain ⟨i81,hi81,hz810,hz811,hz812⟩:=info_parts info81
 have hR:=rightS_out hr
 have HS:Hid (ScAt w x da dn sa sn pa pn):=h
 have hfew:=valsB_few x.defs
 obtain ⟨vs,hvs⟩:∃ vs,(valsB x.defs).1 = vs:=⟨_,rfl⟩
 rw [hvs] at hR hfew
 have HVs:Hid (rightS x = true /\ (valsB x.defs).1 = vs):=⟨hr,hvs⟩
 have HQ:Hid (RtS vs x):=hR.1
 have hsn:sn <= 400:=by rw [<- h.subst.length]; exact hR.1.sub400
 have hpn:pn <= 4:=by rw [<- h.pieces.length]; exact hR.1.pcs4
 have hlz:(bs x.letters).size <= 20:=by rw [bs_size]; exact hR.1.few
 have hlz2:((bs x.letters).size:Int) = (x.letters.length:Int):=by rw [bs_size]
 obtain ⟨nl,hnl⟩:∃ nl,(bs x.letters).size = nl:=⟨_,rfl⟩
 have HNL:Hid ((nl:Int) = (x.letters.length:Int)):=by rw [<- hnl]; exact hlz2
 obtain ⟨qf,eqf,lqf,_⟩:=placeB_out hR.1.front
 obtain ⟨qb,eqb,lqb,_⟩:=placeB_out hR.1.back
 obtain ⟨ql,eql,lql,_⟩:=placeB_out hR.1.least
 have HE:Hid ((x.front = (qf:Int) /\ x.back = (qb:Int) /\ x.least = (ql:Int)) /\ qf < vs.length /\ qb < vs.length /\ ql < vs.length):=⟨⟨eqf,eqb,eql⟩,lqf,lqb,lql⟩
 clear h hr hR hvs hlz2 eqf eqb eql lqf lqb lql
 rw [show scCells x da dn dc sa sn sc pa pn pc = #[Ψ (bs x.letters),Γ da dn dc,Γ sa sn sc,Γ pa pn pc,I J x.mode,.bool x.banded,I J x.lo,I J x.hi,I J x.front,I J x.back,I J x.least] from rfl]
 go_enter Tryz.func21,Tryz.ntmps21
 go_wp2_with fail
 have hB0:=B5.start w (scCells x da dn dc sa sn sc pa pn pc)
 refine (valuesOf_calls x da dn dc sa sn sc pa pn pc _ (HS.out.below hB0.low)).mono ?_
 rintro e w1 ⟨vo,vn,vc,rfl,hb,hv⟩
 obtain ⟨hvn,hown⟩:=hv HVs.out.1
 rw [HVs.out.2] at hvn hown
 rw [HVs.out.1]
 have HB:Hid (B5 w (scCells x da dn dc sa sn sc pa pn pc) w1):=hB0.next hb
 have HV:Hid (IntA w1 vo vn vs):=intA_own hown hvn.symm (by unfold maxLen; omega)
 clear hb hB0 hv hown
 have HVL:Hid (vs.length = vn):=hvn.symm
 clear hvn
 obtain ⟨⟨eqf,eqb,eql⟩,lqf,lqb,lql⟩:=HE.out
 obtain ⟨gv,ov,hvo,cf⟩:=HV.out.isI qf _ (vAt_get lqf)
 subst hvo
 obtain ⟨_,_,e2,cb⟩:=HV.out.isI qb _ (vAt_get lqb)
 cases e2
 obtain ⟨_,_,e2,cl⟩:=HV.out.isI ql _ (vAt_get lql)
 cases e2
 have b0:w1.cell? ⟨w.heap.size,0,none⟩ = some (Ψ (bs x.letters)):=blk HB.out.box rfl
 have b4:w1.cell? ⟨w.heap.size,4,none⟩ = some (I J x.mode):=blk HB.out.box rfl
 have b5:w1.cell? ⟨w.heap.size,5,none⟩ = some (.bool x.banded):=blk HB.out.box rfl
 have b8:w1.cell? ⟨w.heap.size,8,none⟩ = some (I J (qf:Int)):=by rw [<- eqf]; exact blk HB.out.box rfl
 have b9:w1.cell? ⟨w.heap.size,9,none⟩ = some (I J (qb:Int)):=by rw [<- eqb]; exact blk HB.out.box rfl
 have b10:w1.cell? ⟨w.heap.size,10,none⟩ = some (I J (ql:Int)):=by rw [<- eql]; exact blk HB.out.box rfl
 have kf:qf < vn:=by rw [<- HVL.out]; exact lqf
 have kb:qb < vn:=by rw [<- HVL.out]; exact lqb
 have kl:ql < vn:=by rw [<- HVL.out]; exact lql
 have hx0:NX w1 (num0 vs x) none 0 0 none 0 0 [] [] (w1.alloc (Δ (moCells (num0 vs x) none 0 0 none 0 0) 52)):=NX.start w1 _
 unfold moCells num0 at hx0
 simp only at hx0
 rw [<- HNL.out,eqf,eqb,eql] at hx0
 have HM0:Hid (num0 vs x = ⟨(nl:Int),[],[],x.mode,x.banded,0,0,vAt vs (qf:Int),vAt vs (qb:Int),vAt vs (ql:Int)⟩):=by show num0 vs x = _; unfold num0; rw [<- HNL.out,eqf,eqb,eql]
 generalize vAt vs (qf:Int) = yf at *
 generalize vAt vs (qb:Int) = yb at *
 generalize vAt vs (ql:Int) = yl at *
 rw [<- HM0.out] at hx0
 have HX0:Hid (NX w1 (num0 vs x) none 0 0 none 0 0 [] [] (w1.alloc (Δ #[I J (nl:Int),Γ none 0 0,Γ none 0 0,I J x.mode,.bool x.banded,I J 0,I J 0,I J yf,I J yb,I J yl] 52)).drew):=hx0.drew
 clear hx0 eqf eqb eql lqf lqb lql HE
 have b0o:∀ o,(w1.alloc o).drew.cell? ⟨w.heap.size,0,none⟩ = some (Ψ (bs x.letters)):=fun o=>by rw [((Below.refl w1.heap.size w1).alloc (Nat.le_refl _) o).drew.cell (World.block_lt_of_cell? w1 _ b0)]; exact b0
 have b4o:∀ o,(w1.alloc o).drew.cell? ⟨w.heap.size,4,none⟩ = some (I J x.mode):=fun o=>by rw [((Below.refl w1.heap.size w1).alloc (Nat.le_refl _) o).drew.cell (World.block_lt_of_cell? w1 _ b4)]; exact b4
 have b5o:∀ o,(w1.alloc o).drew.cell? ⟨w.heap.size,5,none⟩ = some (.bool x.banded):=fun o=>by rw [((Below.refl w1.heap.size w1).alloc (Nat.le_refl _) o).drew.cell (World.block_lt_of_cell? w1 _ b5)]; exact b5
 have b8o:∀ o,(w1.alloc o).drew.cell? ⟨w.heap.size,8,none⟩ = some (I J (qf:Int)):=fun o=>by rw [((Below.refl w1.heap.size w1).alloc (Nat.le_refl _) o).drew.cell (World.block_lt_of_cell? w1 _ b8)]; exact b8
 have b9o:∀ o,(w1.alloc o).drew.cell? ⟨w.heap.size,9,none⟩ = some (I J (qb:Int)):=fun o=>by rw [((Below.refl w1.heap.size w1).alloc (Nat.le_refl _) o).drew.cell (World.block_lt_of_cell? w1 _ b9)]; exact b9
 have b10o:∀ o,(w1.alloc o).drew.cell? ⟨w.heap.size,10,none⟩ = some (I J (ql:Int)):=fun o=>by rw [((Below.refl w1.heap.size w1).alloc (Nat.le_refl _) o).drew.cell (World.block_lt_of_cell? w1 _ b10)]; exact b10
 have cfo:∀ o,(w1.alloc o).drew.cell? ⟨gv,ov + qf,none⟩ = some (I J yf):=fun o=>by rw [((Below.refl w1.heap.size w1).alloc (Nat.le_refl _) o).drew.cell (World.block_lt_of_cell? w1 _ cf)]; exact cf
 have cbo:∀ o,(w1.alloc o).drew.cell? ⟨gv,ov + qb,none⟩ = some (I J yb):=fun o=>by rw [((Below.refl w1.heap.size w1).alloc (Nat.le_refl _) o).drew.cell (World.block_lt_of_cell? w1 _ cb)]; exact cb
 have clo:∀ o,(w1.alloc o).drew.cell? ⟨gv,ov + ql,none⟩ = some (I J yl):=fun o=>by rw [((Below.refl w1.heap.size w1).alloc (Nat.le_refl _) o).drew.cell (World.block_lt_of_cell? w1 _ cl)]; exact cl
 go_wp2_with fail
 go_region_held3 (fun W=>W.cell? ⟨w.heap.size,0,none⟩ = some (Ψ (bs x.letters)) /\ W.cell? ⟨w.heap.size,4,none⟩ = some (I J x.mode) /\ W.cell? ⟨w.heap.size,5,none⟩ = some (.bool x.banded) /\ W.cell? ⟨w.heap.size,8,none⟩ = some (I J (qf:Int)) /\ W.cell? ⟨w.heap.size,9,none⟩ = some (I J (qb:Int)) /\ W.cell? ⟨w.heap.size,10,none⟩ = some (I J (ql:Int)) /\ W.cell? ⟨gv,ov + qf,none⟩ = some (I J yf) /\ W.cell? ⟨gv,ov + qb,none⟩ = some (I J yb) /\ W.cell? ⟨gv,ov + ql,none⟩ = some (I J yl)) (first | with_reducible assumption | exact ⟨b0,b4,b5,b8,b9,b10,cf,cb,cl⟩ | exact ⟨b0o _,b4o _,b5o _,b8o _,b9o _,b10o _,cfo _,cbo _,clo _⟩) (fail)
 rename_i hh
 clear hh b0o b4o b5o b8o b9o b10o cfo cbo clo
 generalize (w1.alloc (Δ #[I J (nl:Int),Γ none 0 0,Γ none 0 0,I J x.mode,.bool x.banded,I J 0,I J 0,I J yf,I J yb,I J yl] 52)).drew = w2 at *
 clear b0 b4 b5 b8 b9 b10 cf cb cl kf kb kl HM0
 have HSu:Hid (IntA w1 sa sn x.subst):=HS.out.subst.below HB.out.low
 have HPc:Hid (PcsAt w1 pa pn x.pieces):=HS.out.pieces.below HB.out.low
 have c2:w2.cell? ⟨w.heap.size,2,none⟩ = some (Γ sa sn sc):=by
  have:w1.cell? ⟨w.heap.size,2,none⟩ = some (Γ sa sn sc):=blk HB.out.box rfl
  rw [HX0.out.bel.cell (World.block_lt_of_cell? w1 _ this)]; exact this
 go_wp2
 clear c2
 go_loopw [8,45] (fun _ i wr=>∃ (k:Nat) (ma:Option Addr) (mc:Nat),k <= sn /\ i = I J k /\ NX w1 (num0 vs x) ma k mc none 0 0 ((x.subst.map (vAt vs)).take k) [] wr) (fun _ i _=>sn - (intOf i).toNat)
 case atStart=>exact ⟨0,none,0,Nat.zero_le _,rfl,HX0.out⟩
 case round=>
  clear HX0
  obtain ⟨k,ma,mc,hk,rfl,hnx⟩:=hrel
  have HX:=hid hnx
  clear hnx
  by_cases hlt:k < sn
  ·obtain ⟨p,hpk⟩:∃ p,x.subst[k]? = some p:=⟨x.subst[k]'(by rw [HSu.out.length]; exact hlt),List.getElem?_eq_getElem _⟩
   obtain ⟨q,eq,lq,_⟩:=placeB_out (HQ.out.subst p (List.mem_of_getElem? hpk))
   subst eq
   obtain ⟨gs,os,hsa,cs0⟩:=HSu.out.isI k _ hpk
   subst hsa
   obtain ⟨_,_,e2,cv⟩:=HV.out.isI q _ (vAt_get lq)
   cases e2
   have HT:Hid ((x.subst.map (vAt vs)).take (k + 1) = (x.subst.map (vAt vs)).take k ++ [vAt vs (q:Int)]):=by
    have h1:(x.subst.map (vAt vs))[k]? = some (vAt vs (q:Int)):=by rw [List.getElem?_map,hpk]; rfl
    show (x.subst.map (vAt vs)).take (k + 1) = _
    obtain ⟨h2,h3⟩:=List.getElem?_eq_some_iff.1 h1
    rw [List.take_succ_eq_append_getElem h2,h3]
   have lqv:q < vn:=by rw [<- HVL.out]; exact lq
   clear hpk lq
   generalize vAt vs (q:Int) = z at *
   have hF:∀ W,NX w1 (num0 vs x) ma k mc none 0 0 ((x.subst.map (vAt vs)).take k) [] W -> W.cell? ⟨w1.heap.size,1,none⟩ = some (Γ ma k mc) /\ W.cell? ⟨gv,ov + q,none⟩ = some (I J z) /\ W.cell? ⟨gs,os + k,none⟩ = some (I J (q:Int)):=fun W hW=>
    ⟨blk hW.mb rfl,by rw [hW.bel.cell (World.block_lt_of_cell? w1 _ cv)]; exact cv,by rw [hW.bel.cell (World.block_lt_of_cell? w1 _ cs0)]; exact cs0⟩
   obtain ⟨x1,x2,x3⟩:=hF _ HX.out
   obtain ⟨x1d,x2d,x3d⟩:=hF _ HX.out.drew
   have x1o:∀ o,(wr.alloc o).drew.cell? ⟨w1.heap.size,1,none⟩ = some (Γ ma k mc):=fun o=>(hF _ (HX.out.alloc o).drew).1
   have x2o:∀ o,(wr.alloc o).drew.cell? ⟨gv,ov + q,none⟩ = some (I J z):=fun o=>(hF _ (HX.out.alloc o).drew).2.1
   have HJd:Hid (NX w1 (num0 vs x) ma k mc none 0 0 ((x.subst.map (vAt vs)).take k) [] wr.drew):=HX.out.drew
   have HJO:Hid (∀ W o,Hid (NX w1 (num0 vs x) ma k mc none 0 0 ((x.subst.map (vAt vs)).take k) [] W) -> (W.alloc o).ownsRow (w1.heap.size + 1) 3 1 (Γ ma k mc) k (itRow ((x.subst.map (vAt vs)).take k))):=fun W o hW=>(hW.out.alloc o).su
   have HJS:Hid (∀ W o,Hid (NX w1 (num0 vs x) ma k mc none 0 0 ((x.subst.map (vAt vs)).take k) [] W) -> w1.heap.size + 1 <= (W.alloc o).heap.size):=fun W o hW=>lt_block (hW.out.alloc o).mb
   have HJE:Hid (∀ W o v' w4,Hid (NX w1 (num0 vs x) ma k mc none 0 0 ((x.subst.map (vAt vs)).take k) [] W) -> w4.ownsRow (w1.heap.size + 1) 3 1 v' (k + 1) (itRow ((x.subst.map (vAt vs)).take k) ++ [I J z]) -> (W.alloc o).grownBy w4 (Value.slice ma k mc).ownBlock ->
    w4.cell? ⟨w1.heap.size,1,none⟩ = some (Γ ma k mc) /\ w4.frozen? ⟨w1.heap.size,1,none⟩ = false /\ Hid (∃ va' vc',v' = Γ va' (k + 1) vc' /\ NX w1 (num0 vs x) va' (k + 1) vc' none 0 0 ((x.subst.map (vAt vs)).take (k + 1)) [] (w4.setCell ⟨w1.heap.size,1,none⟩ v'))):=by
    intro W o v' w4 hW ho hg
    rw [HT.out]
    exact (hW.out.alloc o).addS ho hg
   clear hF HT cv cs0
   go_wp2_with fail
   go_region_law (first
    | (refine step_append_own rfl (.tmp 50) (.tmp 55) 26 rfl (w1.heap.size + 1) 3 i3 _ 1 8 Tryz.underlying26 hi3 hz30 hz31 hz32 rfl (by decide) _ _ _ (by simp [Act.eval]) (HJO.out _ _ (by assumption)) ⟨_,0,none⟩ 1 1 [I J z] (by simp [Act.eval]) rfl (it_new _ z) (it_one z) (by unfold maxLen; omega) (by omega) (HJS.out _ _ (by assumption)) ?_
       intro v' w4 ho hg
       obtain ⟨k1,k2,k3⟩:=HJE.out wr.drew _ _ _ HJd ho hg
       obtain ⟨ao2,cap2,rfl⟩:=owned_shape ho
       clear ho hg))
   all_goals (
    have HK3:Hid (NX w1 (num0 vs x) ao2 (k + 1) cap2 none 0 0 ((x.subst.map (vAt vs)).take (k + 1)) [] (w4.setCell ⟨w1.heap.size,1,none⟩ (Γ ao2 (k + 1) cap2))):=by
     obtain ⟨va',vc',q3,q4⟩:=k3.out
     cases q3
     exact q4
    clear k3 x1 x2 x3 x1d x2d x3d x1o x2o HJO HJS HJE HJd HX)
   all_goals (
    go_wp2
    go_roundw
    case rel=>exact ⟨k + 1,ao2,cap2,by omega,by go_num,HK3.out⟩
    case measure=>simp [intOf]; omega)
  ·have hksn:k = sn:=by omega
   subst hksn
   have HX6:Hid (NX w1 (num0 vs x) ma k mc none 0 0 (x.subst.map (vAt vs)) [] wr):=by
    have:=HX.out
    rw [List.take_of_length_le (by rw [List.length_map,HSu.out.length]; omega)] at this
    exact this
   have c3:wr.cell? ⟨w.heap.size,3,none⟩ = some (Γ pa pn pc):=by
    have:w1.cell? ⟨w.heap.size,3,none⟩ = some (Γ pa pn pc):=blk HB.out.box rfl
    rw [HX.out.bel.cell (World.block_lt_of_cell? w1 _ this)]; exact this
   clear HX
   go_wp2
   clear c3
   go_loopw [10,62] (fun _ i wr=>∃ (j:Nat) (ga:Option Addr) (gc:Nat),j <= pn /\ i = I J j /\ NX w1 (num0 vs x) ma k mc ga j gc (x.subst.map (vAt vs)) ((x.pieces.map (gapS vs)).take j) wr) (fun _ i _=>pn - (intOf i).toNat)
   case atStart=>exact ⟨0,none,0,Nat.zero_le _,rfl,HX6.out⟩
   case round=>
    clear HX6
    obtain ⟨j,ga,gc,hj,rfl,hnx⟩:=hrel
    have HX:=hid hnx
    clear hnx
    by_cases hlt2:j < pn
    ·obtain ⟨p,hpk⟩:∃ p,x.pieces[j]? = some p:=⟨x.pieces[j]'(by rw [HPc.out.length]; exact hlt2),List.getElem?_eq_getElem _⟩
     obtain ⟨p1,p2⟩:=p
     have hpl:=HQ.out.pieces _ (List.mem_of_getElem? hpk)
     obtain ⟨q1,eq1,lq1,_⟩:=placeB_out hpl.1
     obtain ⟨q2,eq2,lq2,_⟩:=placeB_out hpl.2
     simp only at eq1 eq2
     subst eq1 eq2
     obtain ⟨gs,os,hpa,hcs⟩:=HPc.out.cells (by omega)
     subst hpa
     obtain ⟨cp1,cp2⟩:=hcs j _ hpk
     simp only at cp1 cp2
     obtain ⟨_,_,e2,cv1⟩:=HV.out.isI q1 _ (vAt_get lq1)
     cases e2
     obtain ⟨_,_,e2,cv2⟩:=HV.out.isI q2 _ (vAt_get lq2)
     cases e2
     have HT:Hid ((x.pieces.map (gapS vs)).take (j + 1) = (x.pieces.map (gapS vs)).take j ++ [(vAt vs (q1:Int),vAt vs (q2:Int))]):=by
      have h1:(x.pieces.map (gapS vs))[j]? = some (vAt vs (q1:Int),vAt vs (q2:Int)):=by rw [List.getElem?_map,hpk]; rfl
      show (x.pieces.map (gapS vs)).take (j + 1) = _
      obtain ⟨h2,h3⟩:=List.getElem?_eq_some_iff.1 h1
      rw [List.take_succ_eq_append_getElem h2,h3]
     have lv1:q1 < vn:=by rw [<- HVL.out]; exact lq1
     have lv2:q2 < vn:=by rw [<- HVL.out]; exact lq2
     clear hpk lq1 lq2 hpl hcs
     generalize vAt vs (q1:Int) = z1 at *
     generalize vAt vs (q2:Int) = z2 at *
     have hF:∀ W,NX w1 (num0 vs x) ma k mc ga j gc (x.subst.map (vAt vs)) ((x.pieces.map (gapS vs)).take j) W -> W.cell? ⟨w1.heap.size,2,none⟩ = some (Γ ga j gc) /\ W.cell? ⟨gv,ov + q1,none⟩ = some (I J z1) /\ W.cell? ⟨gv,ov + q2,none⟩ = some (I J z2) /\ W.cell? ⟨gs,os + j * 2,none⟩ = some (I J (q1:Int)) /\ W.cell? ⟨gs,os + j * 2 + 1,none⟩ = some (I J (q2:Int)):=fun W hW=>
      ⟨blk hW.mb rfl,by rw [hW.bel.cell (World.block_lt_of_cell? w1 _ cv1)]; exact cv1,by rw [hW.bel.cell (World.block_lt_of_cell? w1 _ cv2)]; exact cv2,by rw [hW.bel.cell (World.block_lt_of_cell? w1 _ cp1)]; exact cp1,by rw [hW.bel.cell (World.block_lt_of_cell? w1 _ cp2)]; exact cp2⟩
     obtain ⟨_,_,_,x4,x5⟩:=hF _ HX.out
     have HXc:NX w1 (num0 vs x) ma k mc ga j gc (x.subst.map (vAt vs)) ((x.pieces.map (gapS vs)).take j) (wr.alloc (Δ #[I J (q1:Int),I J (q2:Int)] 80)):=HX.out.alloc _
     obtain ⟨x1d,x2d,x3d,_,_⟩:=hF _ HXc.drew
     have x1o:∀ o,((wr.alloc (Δ #[I J (q1:Int),I J (q2:Int)] 80)).alloc o).drew.cell? ⟨w1.heap.size,2,none⟩ = some (Γ ga j gc):=fun o=>(hF _ (HXc.alloc o).drew).1
     have x2o:∀ o,((wr.alloc (Δ #[I J (q1:Int),I J (q2:Int)] 80)).alloc o).drew.cell? ⟨gv,ov + q1,none⟩ = some (I J z1):=fun o=>(hF _ (HXc.alloc o).drew).2.1
     have x3o:∀ o,((wr.alloc (Δ #[I J (q1:Int),I J (q2:Int)] 80)).alloc o).drew.cell? ⟨gv,ov + q2,none⟩ = some (I J z2):=fun o=>(hF _ (HXc.alloc o).drew).2.2.1
     have y1d:(wr.alloc (Δ #[I J (q1:Int),I J (q2:Int)] 80)).drew.cell? ⟨wr.heap.size,0,none⟩ = some (I J (q1:Int)):=blk (heap_alloc_new wr (Δ #[I J (q1:Int),I J (q2:Int)] 80)) rfl
     have y2d:(wr.alloc (Δ #[I J (q1:Int),I J (q2:Int)] 80)).drew.cell? ⟨wr.heap.size,1,none⟩ = some (I J (q2:Int)):=blk (heap_alloc_new wr (Δ #[I J (q1:Int),I J (q2:Int)] 80)) rfl
     have y1o:∀ o,((wr.alloc (Δ #[I J (q1:Int),I J (q2:Int)] 80)).alloc o).drew.cell? ⟨wr.heap.size,0,none⟩ = some (I J (q1:Int)):=fun o=>by
      rw [((Below.refl (wr.alloc (Δ #[I J (q1:Int),I J (q2:Int)] 80)).heap.size (wr.alloc (Δ #[I J (q1:Int),I J (q2:Int)] 80))).alloc (Nat.le_refl _) o).drew.cell (p:=⟨wr.heap.size,0,none⟩) (by simp)]; exact y1d
     have y2o:∀ o,((wr.alloc (Δ #[I J (q1:Int),I J (q2:Int)] 80)).alloc o).drew.cell? ⟨wr.heap.size,1,none⟩ = some (I J (q2:Int)):=fun o=>by
      rw [((Below.refl (wr.alloc (Δ #[I J (q1:Int),I J (q2:Int)] 80)).heap.size (wr.alloc (Δ #[I J (q1:Int),I J (q2:Int)] 80))).alloc (Nat.le_refl _) o).drew.cell (p:=⟨wr.heap.size,1,none⟩) (by simp)]; exact y2d
     have HJd:Hid (NX w1 (num0 vs x) ma k mc ga j gc (x.subst.map (vAt vs)) ((x.pieces.map (gapS vs)).take j) (wr.alloc (Δ #[I J (q1:Int),I J (q2:Int)] 80)).drew):=HXc.drew
     have HJO:Hid (∀ W o,Hid (NX w1 (num0 vs x) ma k mc ga j gc (x.subst.map (vAt vs)) ((x.pieces.map (gapS vs)).take j) W) -> (W.alloc o).ownsRow (w1.heap.size + 1) 81 2 (Γ ga j gc) j (pcRow ((x.pieces.map (gapS vs)).take j))):=fun W o hW=>(hW.out.alloc o).gp
     have HJS:Hid (∀ W o,Hid (NX w1 (num0 vs x) ma k mc ga j gc (x.subst.map (vAt vs)) ((x.pieces.map (gapS vs)).take j) W) -> w1.heap.size + 1 <= (W.alloc o).heap.size):=fun W o hW=>lt_block (hW.out.alloc o).mb
     have HJE:Hid (∀ W o v' w4,Hid (NX w1 (num0 vs x) ma k mc ga j gc (x.subst.map (vAt vs)) ((x.pieces.map (gapS vs)).take j) W) -> w4.ownsRow (w1.heap.size + 1) 81 2 v' (j + 1) (pcRow ((x.pieces.map (gapS vs)).take j) ++ [I J z1,I J z2]) -> (W.alloc o).grownBy w4 (Value.slice ga j gc).ownBlock ->
      w4.cell? ⟨w1.heap.size,2,none⟩ = some (Γ ga j gc) /\ w4.frozen? ⟨w1.heap.size,2,none⟩ = false /\ Hid (∃ va' vc',v' = Γ va' (j + 1) vc' /\ NX w1 (num0 vs x) ma k mc va' (j + 1) vc' (x.subst.map (vAt vs)) ((x.pieces.map (gapS vs)).take (j + 1)) (w4.setCell ⟨w1.heap.size,2,none⟩ v'))):=by
      intro W o v' w4 hW ho hg
      rw [HT.out]
      exact (hW.out.alloc o).addG ho hg
     have HNw:Hid (∀ (i:Nat) (u:Value),[Value.int .i64 z1,I J z2][i]? = some u -> ((wr.alloc (Δ #[I J (q1:Int),I J (q2:Int)] 80)).alloc (Δ #[I J z1,I J z2] 81)).drew.cell? ((⟨wr.heap.size + 1,0,none⟩:Addr).add i) = some u):=by
      intro i u hu
      have:=cells_new (wr.alloc (Δ #[I J (q1:Int),I J (q2:Int)] 80)) [I J z1,I J z2] 81 i u hu
      rw [show (wr.alloc (Δ #[I J (q1:Int),I J (q2:Int)] 80)).heap.size = wr.heap.size + 1 by simp] at this
      exact this
     have HN1:Hid (∀ u ∈ [Value.int .i64 z1,I J z2],u.oneCell' = true):=by
      intro u hu
      simp at hu
      rcases hu with rfl | rfl <;> rfl
     have HLt:Hid (gv < w1.heap.size):=by have:=World.block_lt_of_cell? w1 _ cv1; exact this
     clear hF HT cv1 cv2 cp1 cp2 HXc
     have HSd:(fun W:World=>W.cell? ⟨w1.heap.size,2,none⟩ = some (Γ ga j gc) /\ W.cell? ⟨gv,ov + q1,none⟩ = some (I J z1) /\ W.cell? ⟨gv,ov + q2,none⟩ = some (I J z2) /\ W.cell? ⟨wr.heap.size,0,none⟩ = some (I J (q1:Int)) /\ W.cell? ⟨wr.heap.size,1,none⟩ = some (I J (q2:Int))) (wr.alloc (Δ #[I J (q1:Int),I J (q2:Int)] 80)).drew:=⟨x1d,x2d,x3d,y1d,y2d⟩
     have HSo:(fun W:World=>W.cell? ⟨w1.heap.size,2,none⟩ = some (Γ ga j gc) /\ W.cell? ⟨gv,ov + q1,none⟩ = some (I J z1) /\ W.cell? ⟨gv,ov + q2,none⟩ = some (I J z2) /\ W.cell? ⟨wr.heap.size,0,none⟩ = some (I J (q1:Int)) /\ W.cell? ⟨wr.heap.size,1,none⟩ = some (I J (q2:Int))) ((wr.alloc (Δ #[I J (q1:Int),I J (q2:Int)] 80)).alloc (Δ #[I J z1,I J z2] 81)).drew:=⟨x1o _,x2o _,x3o _,y1o _,y2o _⟩
     have hgv:gv < w1.heap.size:=HLt.out
     have HS4:Hid (∀ w4,((wr.alloc (Δ #[I J (q1:Int),I J (q2:Int)] 80)).alloc (Δ #[I J z1,I J z2] 81)).drew.grownBy w4 (Value.slice ga j gc).ownBlock -> (fun W:World=>W.cell? ⟨w1.heap.size,2,none⟩ = some (Γ ga j gc) /\ W.cell? ⟨gv,ov + q1,none⟩ = some (I J z1) /\ W.cell? ⟨gv,ov + q2,none⟩ = some (I J z2) /\ W.cell? ⟨wr.heap.size,0,none⟩ = some (I J (q1:Int)) /\ W.cell? ⟨wr.heap.size,1,none⟩ = some (I J (q2:Int))) w4):=by
      intro w4 hg
      have hrow:=owned_from HX.out.gp
      have hlt:=fun q hq=>(HX.out.gp.lt q hq).2
      refine ⟨hg.cell HSo.1 (fun e=>by have:=hrow _ e.symm; simp at this; omega),hg.cell HSo.2.1 (fun e=>by have:=hrow _ e.symm; simp at this; omega),hg.cell HSo.2.2.1 (fun e=>by have:=hrow _ e.symm; simp at this; omega),hg.cell HSo.2.2.2.1 (fun e=>by have:=hlt _ e.symm; simp at this),hg.cell HSo.2.2.2.2 (fun e=>by have:=hlt _ e.symm; simp at this)⟩
     clear x1o x2o x3o y1o y2o
     go_wp2_with fail
     refine wp_region_Y (fun j=>decide (j = 16)) (fun W:World=>W.cell? ⟨w1.heap.size,2,none⟩ = some (Γ ga j gc) /\ W.cell? ⟨gv,ov + q1,none⟩ = some (I J z1) /\ W.cell? ⟨gv,ov + q2,none⟩ = some (I J z2) /\ W.cell? ⟨wr.heap.size,0,none⟩ = some (I J (q1:Int)) /\ W.cell? ⟨wr.heap.size,1,none⟩ = some (I J (q2:Int))) (by kernel_rfl) ?_
     refine wpAnyY_takeD (i:=0) 66 (v:=Φ (some ⟨w1.heap.size,2,none⟩)) rfl rfl (by kernel_rfl) (by kernel_rfl) (fun j hj=>by obtain rfl:=of_decide_eq_true hj; kernel_rfl) (by kernel_rfl) (by kernel_rfl) (fun _ _ _ h=>h) HSd (Or.inl ⟨by rfl,by (intro W hW; have s0:=hW.1; have s1:=hW.2.1; have s2:=hW.2.2.1; have s3:=hW.2.2.2.1; have s4:=hW.2.2.2.2; clear hW; go_simp)⟩) ?_
     simp only [Act.put,lA,lB,lC]
     refine wpAnyY_takeD (i:=1) 67 (v:=Γ ga j gc) rfl rfl (by kernel_rfl) (by kernel_rfl) (fun j hj=>by obtain rfl:=of_decide_eq_true hj; kernel_rfl) (by kernel_rfl) (by kernel_rfl) (fun _ _ _ h=>h) HSd (Or.inl ⟨by rfl,by (intro W hW; have s0:=hW.1; have s1:=hW.2.1; have s2:=hW.2.2.1; have s3:=hW.2.2.2.1; have s4:=hW.2.2.2.2; clear hW; go_simp)⟩) ?_
     simp only [Act.put,lA,lB,lC]
     refine wpAnyY_takeD (i:=2) 68 (v:=Γ (some ⟨gv,ov,none⟩) vn vc) rfl rfl (by kernel_rfl) (by kernel_rfl) (fun j hj=>by obtain rfl:=of_decide_eq_true hj; kernel_rfl) (by kernel_rfl) (by kernel_rfl) (fun _ _ _ h=>h) HSd (Or.inl ⟨by rfl,by (intro W hW; have s0:=hW.1; have s1:=hW.2.1; have s2:=hW.2.2.1; have s3:=hW.2.2.2.1; have s4:=hW.2.2.2.2; clear hW; go_simp)⟩) ?_
     simp only [Act.put,lA,lB,lC]
     refine wpAnyY_takeD (i:=3) 69 (v:=Φ (some ⟨wr.heap.size,0,none⟩)) rfl rfl (by kernel_rfl) (by kernel_rfl) (fun j hj=>by obtain rfl:=of_decide_eq_true hj; kernel_rfl) (by kernel_rfl) (by kernel_rfl) (fun _ _ _ h=>h) HSd (Or.inl ⟨by rfl,by (intro W hW; have s0:=hW.1; have s1:=hW.2.1; have s2:=hW.2.2.1; have s3:=hW.2.2.2.1; have s4:=hW.2.2.2.2; clear hW; go_simp)⟩) ?_
     simp only [Act.put,lA,lB,lC]
     refine wpAnyY_takeD (i:=4) 70 (v:=I J (q1:Int)) rfl rfl (by kernel_rfl) (by kernel_rfl) (fun j hj=>by obtain rfl:=of_decide_eq_true hj; kernel_rfl) (by kernel_rfl) (by kernel_rfl) (fun _ _ _ h=>h) HSd (Or.inl ⟨by rfl,by (intro W hW; have s0:=hW.1; have s1:=hW.2.1; have s2:=hW.2.2.1; have s3:=hW.2.2.2.1; have s4:=hW.2.2.2.2; clear hW; go_simp)⟩) ?_
     simp only [Act.put,lA,lB,lC]
     refine wpAnyY_takeD (i:=5) 71 (v:=Φ (some ⟨gv,ov + q1,none⟩)) rfl rfl (by kernel_rfl) (by kernel_rfl) (fun j hj=>by obtain rfl:=of_decide_eq_true hj; kernel_rfl) (by kernel_rfl) (by kernel_rfl) (fun _ _ _ h=>h) HSd (Or.inl ⟨by rfl,by (intro W hW; have s0:=hW.1; have s1:=hW.2.1; have s2:=hW.2.2.1; have s3:=hW.2.2.2.1; have s4:=hW.2.2.2.2; clear hW; go_simp)⟩) ?_
     simp only [Act.put,lA,lB,lC]
     refine wpAnyY_takeD (i:=6) 72 (v:=I J z1) rfl rfl (by kernel_rfl) (by kernel_rfl) (fun j hj=>by obtain rfl:=of_decide_eq_true hj; kernel_rfl) (by kernel_rfl) (by kernel_rfl) (fun _ _ _ h=>h) HSd (Or.inl ⟨by rfl,by (intro W hW; have s0:=hW.1; have s1:=hW.2.1; have s2:=hW.2.2.1; have s3:=hW.2.2.2.1; have s4:=hW.2.2.2.2; clear hW; go_simp)⟩) ?_
     simp only [Act.put,lA,lB,lC]
     refine wpAnyY_takeD (i:=7) 73 (v:=Γ (some ⟨gv,ov,none⟩) vn vc) rfl rfl (by kernel_rfl) (by kernel_rfl) (fun j hj=>by obtain rfl:=of_decide_eq_true hj; kernel_rfl) (by kernel_rfl) (by kernel_rfl) (fun _ _ _ h=>h) HSd (Or.inl ⟨by rfl,by (intro W hW; have s0:=hW.1; have s1:=hW.2.1; have s2:=hW.2.2.1; have s3:=hW.2.2.2.1; have s4:=hW.2.2.2.2; clear hW; go_simp)⟩) ?_
     simp only [Act.put,lA,lB,lC]
     refine wpAnyY_takeD (i:=8) 74 (v:=Φ (some ⟨wr.heap.size,1,none⟩)) rfl rfl (by kernel_rfl) (by kernel_rfl) (fun j hj=>by obtain rfl:=of_decide_eq_true hj; kernel_rfl) (by kernel_rfl) (by kernel_rfl) (fun _ _ _ h=>h) HSd (Or.inl ⟨by rfl,by (intro W hW; have s0:=hW.1; have s1:=hW.2.1; have s2:=hW.2.2.1; have s3:=hW.2.2.2.1; have s4:=hW.2.2.2.2; clear hW; go_simp)⟩) ?_
     simp only [Act.put,lA,lB,lC]
     refine wpAnyY_takeD (i:=9) 75 (v:=I J (q2:Int)) rfl rfl (by kernel_rfl) (by kernel_rfl) (fun j hj=>by obtain rfl:=of_decide_eq_true hj; kernel_rfl) (by kernel_rfl) (by kernel_rfl) (fun _ _ _ h=>h) HSd (Or.inl ⟨by rfl,by (intro W hW; have s0:=hW.1; have s1:=hW.2.1; have s2:=hW.2.2.1; have s3:=hW.2.2.2.1; have s4:=hW.2.2.2.2; clear hW; go_simp)⟩) ?_
     simp only [Act.put,lA,lB,lC]
     refine wpAnyY_takeD (i:=10) 76 (v:=Φ (some ⟨gv,ov + q2,none⟩)) rfl rfl (by kernel_rfl) (by kernel_rfl) (fun j hj=>by obtain rfl:=of_decide_eq_true hj; kernel_rfl) (by kernel_rfl) (by kernel_rfl) (fun _ _ _ h=>h) HSd (Or.inl ⟨by rfl,by (intro W hW; have s0:=hW.1; have s1:=hW.2.1; have s2:=hW.2.2.1; have s3:=hW.2.2.2.1; have s4:=hW.2.2.2.2; clear hW; go_simp)⟩) ?_
     simp only [Act.put,lA,lB,lC]
     refine wpAnyY_takeD (i:=11) 77 (v:=I J z2) rfl rfl (by kernel_rfl) (by kernel_rfl) (fun j hj=>by obtain rfl:=of_decide_eq_true hj; kernel_rfl) (by kernel_rfl) (by kernel_rfl) (fun _ _ _ h=>h) HSd (Or.inl ⟨by rfl,by (intro W hW; have s0:=hW.1; have s1:=hW.2.1; have s2:=hW.2.2.1; have s3:=hW.2.2.2.1; have s4:=hW.2.2.2.2; clear hW; go_simp)⟩) ?_
     simp only [Act.put,lA,lB,lC]
     refine wpAnyY_takeD (i:=12) 78 (v:=.agg #[I J z1,I J z2]) rfl rfl (by kernel_rfl) (by kernel_rfl) (fun j hj=>by obtain rfl:=of_decide_eq_true hj; kernel_rfl) (by kernel_rfl) (by kernel_rfl) (fun _ _ _ h=>h) HSd (Or.inl ⟨by rfl,by (intro W hW; have s0:=hW.1; have s1:=hW.2.1; have s2:=hW.2.2.1; have s3:=hW.2.2.2.1; have s4:=hW.2.2.2.2; clear hW; go_simp)⟩) ?_
     simp only [Act.put,lA,lB,lC]
     refine wpAnyY_one (i:=13) rfl (by kernel_rfl) (fun K hK=>?_)
     go_simp
     refine hK.out _ _ (fun _=>HSo) ?_
     clear hK K
     refine wpAnyY_one (i:=14) rfl (by kernel_rfl) (fun K hK=>?_)
     refine step_append_own rfl (.tmp 67) (.tmp 79) 50 rfl (w1.heap.size + 1) 81 i81 _ 2 16 Tryz.underlying50 hi81 hz810 hz811 hz812 rfl (by decide) _ _ _ (by simp [Act.eval]) (HJO.out (wr.alloc (Δ #[I J (q1:Int),I J (q2:Int)] 80)).drew (Δ #[I J z1,I J z2] 81) HJd) ⟨wr.heap.size + 1,0,none⟩ 1 1 [I J z1,I J z2] (by simp [Act.eval]) rfl (HNw.out) HN1.out (by unfold maxLen; omega) (by omega) (HJS.out (wr.alloc (Δ #[I J (q1:Int),I J (q2:Int)] 80)).drew (Δ #[I J z1,I J z2] 81) HJd) ?_
     intro v' w4 ho hg
     have hs4:=HS4.out w4 hg
     obtain ⟨k1,k2,k3⟩:=HJE.out (wr.alloc (Δ #[I J (q1:Int),I J (q2:Int)] 80)).drew (Δ #[I J z1,I J z2] 81) _ _ HJd ho hg
     obtain ⟨ao2,cap2,rfl⟩:=owned_shape ho
     clear ho hg
     refine hK.out _ _ (fun _=>hs4) ?_
     clear hK K
     simp only [Act.put,List.setIfInBounds_toArray]
     refine wpAnyY_one (i:=15) rfl (by kernel_rfl) (fun K hK=>?_)
     go_simp
     refine hK.out _ _ (fun _=>hs4) ?_
     clear hK K
     refine wpAnyY_one (i:=16) rfl (by kernel_rfl) (fun K hK=>?_)
     go_simp
     refine hK.out _ _ (fun h=>absurd h (by decide)) ?_
     clear hK K
     refine wpAnyY_done (by kernel_rfl) ?_ _
     all_goals (
      have HK3:Hid (NX w1 (num0 vs x) ma k mc ao2 (j + 1) cap2 (x.subst.map (vAt vs)) ((x.pieces.map (gapS vs)).take (j + 1)) (w4.setCell ⟨w1.heap.size,2,none⟩ (Γ ao2 (j + 1) cap2))):=by
       obtain ⟨va',vc',q3,q4⟩:=k3.out
       cases q3
       exact q4
      clear k3 x4 x5 x1d x2d x3d y1d y2d HJO HJS HJE HJd HX HNw HN1 HSd HSo HS4 HLt hgv hs4)
     all_goals (
      go_wp2
      go_roundw
      case rel=>exact ⟨j + 1,ao2,cap2,by omega,by go_num,HK3.out⟩
      case measure=>simp [intOf]; omega)
    ·have hjg:j = pn:=by omega
     subst hjg
     have HX7:Hid (NX w1 (num0 vs x) ma k mc ga j gc (x.subst.map (vAt vs)) (x.pieces.map (gapS vs)) wr):=by
      have:=HX.out
      rw [List.take_of_length_le (by rw [List.length_map,HPc.out.length]; omega)] at this
      exact this
     clear HX
     cases hbd:x.banded
     ·have c5:wr.cell? ⟨w.heap.size,5,none⟩ = some (.bool false):=by
       have:w1.cell? ⟨w.heap.size,5,none⟩ = some (.bool x.banded):=blk HB.out.box rfl
       rw [hbd] at this
       rw [HX7.out.bel.cell (World.block_lt_of_cell? w1 _ this)]; exact this
      have HEq:Hid (moCells (numS vs x) ma k mc ga j gc = moCells (num0 vs x) ma k mc ga j gc):=by
       show moCells _ _ _ _ _ _ _ = _
       unfold moCells numS num0
       rw [hbd]
       rfl
      clear hbd
      generalize num0 vs x = M at *
      have HBr:Hid (B5 w (scCells x da dn dc sa k sc pa j pc) wr):=HB.out.next HX7.out.bel
      have r0:wr.cell? ⟨w.heap.size + 1,0,none⟩ = some (I J 0):=blk HBr.out.res rfl
      have r1:wr.cell? ⟨w.heap.size + 1,1,none⟩ = some (Γ none 0 0):=blk HBr.out.res rfl
      have r2:wr.cell? ⟨w.heap.size + 1,2,none⟩ = some (Γ none 0 0):=blk HBr.out.res rfl
      have r3:wr.cell? ⟨w.heap.size + 1,3,none⟩ = some (I J 0):=blk HBr.out.res rfl
      have r4:wr.cell? ⟨w.heap.size + 1,4,none⟩ = some (.bool false):=blk HBr.out.res rfl
      have r5:wr.cell? ⟨w.heap.size + 1,5,none⟩ = some (I J 0):=blk HBr.out.res rfl
      have r6:wr.cell? ⟨w.heap.size + 1,6,none⟩ = some (I J 0):=blk HBr.out.res rfl
      have r7:wr.cell? ⟨w.heap.size + 1,7,none⟩ = some (I J 0):=blk HBr.out.res rfl
      have r8:wr.cell? ⟨w.heap.size + 1,8,none⟩ = some (I J 0):=blk HBr.out.res rfl
      have r9:wr.cell? ⟨w.heap.size + 1,9,none⟩ = some (I J 0):=blk HBr.out.res rfl
      have rf:∀ i,wr.frozen? ⟨w.heap.size + 1,i,none⟩ = false:=fun i=>blkf i HBr.out.res
      have y0:wr.cell? ⟨w1.heap.size,0,none⟩ = some (I J M.letters):=blk HX7.out.mb rfl
      have y1:wr.cell? ⟨w1.heap.size,1,none⟩ = some (Γ ma k mc):=blk HX7.out.mb rfl
      have y2:wr.cell? ⟨w1.heap.size,2,none⟩ = some (Γ ga j gc):=blk HX7.out.mb rfl
      have y3:wr.cell? ⟨w1.heap.size,3,none⟩ = some (I J M.mode):=blk HX7.out.mb rfl
      have y4:wr.cell? ⟨w1.heap.size,4,none⟩ = some (.bool M.banded):=blk HX7.out.mb rfl
      have y5:wr.cell? ⟨w1.heap.size,5,none⟩ = some (I J M.lo):=blk HX7.out.mb rfl
      have y6:wr.cell? ⟨w1.heap.size,6,none⟩ = some (I J M.hi):=blk HX7.out.mb rfl
      have y7:wr.cell? ⟨w1.heap.size,7,none⟩ = some (I J M.front):=blk HX7.out.mb rfl
      have y8:wr.cell? ⟨w1.heap.size,8,none⟩ = some (I J M.back):=blk HX7.out.mb rfl
      have y9:wr.cell? ⟨w1.heap.size,9,none⟩ = some (I J M.least):=blk HX7.out.mb rfl
      have hbm:w.heap.size + 1 < w1.heap.size:=lt_block HB.out.res
      go_wp2
      refine bodyPost_ret (v:=.tuple #[.agg (moCells (numS vs x) ma k mc ga j gc),I J 0]) ?_ rfl ?_
      ·rw [HEq.out]
       unfold moCells
       simp only [results,hres]
       go_simp
      ·show NumPost _ _ _ _
       unfold NumPost
       rw [HVs.out.1,if_pos rfl,HVs.out.2]
       exact ⟨ma,k,mc,ga,j,gc,rfl,below_ten HBr.out.low _ _ _ _ _ _ _ _ _ _,HSu.out.length.symm,HPc.out.length.symm,own_zero (own_ten HX7.out.su (by omega) _ _ _ _ _ _ _ _ _ _),own_zero (own_ten HX7.out.gp (by omega) _ _ _ _ _ _ _ _ _ _)⟩
     ·obtain ⟨plo,phi,_⟩:=HQ.out.band hbd
      obtain ⟨qlo,elo,llo,_⟩:=placeB_out plo
      obtain ⟨qhi,ehi,lhi,_⟩:=placeB_out phi
      obtain ⟨_,_,e2,cvl⟩:=HV.out.isI qlo _ (vAt_get llo)
      cases e2
      obtain ⟨_,_,e2,cvh⟩:=HV.out.isI qhi _ (vAt_get lhi)
      cases e2
      have kl:qlo < vn:=by rw [<- HVL.out]; exact llo
      have kh:qhi < vn:=by rw [<- HVL.out]; exact lhi
      have HEq:Hid (moCells (numS vs x) ma k mc ga j gc = moCells { num0 vs x with lo:=vAt vs (qlo:Int),hi:=vAt vs (qhi:Int) } ma k mc ga j gc):=by
       show moCells _ _ _ _ _ _ _ = _
       unfold moCells numS num0
       rw [hbd,elo,ehi]
       rfl
      have hF:∀ W,Below w1.heap.size w1 W -> W.cell? ⟨w.heap.size,5,none⟩ = some (.bool true) /\ W.cell? ⟨w.heap.size,6,none⟩ = some (I J (qlo:Int)) /\ W.cell? ⟨w.heap.size,7,none⟩ = some (I J (qhi:Int)) /\ W.cell? ⟨gv,ov + qlo,none⟩ = some (I J (vAt vs (qlo:Int))) /\ W.cell? ⟨gv,ov + qhi,none⟩ = some (I J (vAt vs (qhi:Int))):=by
       intro W hW
       have t5:w1.cell? ⟨w.heap.size,5,none⟩ = some (.bool x.banded):=blk HB.out.box rfl
       have t6:w1.cell? ⟨w.heap.size,6,none⟩ = some (I J x.lo):=blk HB.out.box rfl
       have t7:w1.cell? ⟨w.heap.size,7,none⟩ = some (I J x.hi):=blk HB.out.box rfl
       rw [hbd] at t5
       rw [elo] at t6
       rw [ehi] at t7
       refine ⟨?_,?_,?_,?_,?_⟩
       ·rw [hW.cell (World.block_lt_of_cell? w1 _ t5)]; exact t5
       ·rw [hW.cell (World.block_lt_of_cell? w1 _ t6)]; exact t6
       ·rw [hW.cell (World.block_lt_of_cell? w1 _ t7)]; exact t7
       ·rw [hW.cell (World.block_lt_of_cell? w1 _ cvl)]; exact cvl
       ·rw [hW.cell (World.block_lt_of_cell? w1 _ cvh)]; exact cvh
      clear hbd elo ehi llo lhi cvl cvh plo phi
      generalize vAt vs (qlo:Int) = zl at *
      generalize vAt vs (qhi:Int) = zh at *
      generalize num0 vs x = M at *
      obtain ⟨c5,f1,f2,f3,f4⟩:=hF _ HX7.out.bel
      obtain ⟨_,g1,g2,g3,g4⟩:=hF _ HX7.out.bel.drew
      have f5:wr.cell? ⟨w1.heap.size,5,none⟩ = some (I J M.lo):=blk HX7.out.mb rfl
      have f6:wr.cell? ⟨w1.heap.size,6,none⟩ = some (I J M.hi):=blk HX7.out.mb rfl
      have ff:∀ i,wr.frozen? ⟨w1.heap.size,i,none⟩ = false:=fun i=>blkf i HX7.out.mb
      have HX7a:Hid (NX w1 { M with lo:=zl } ma k mc ga j gc (x.subst.map (vAt vs)) (x.pieces.map (gapS vs)) (wr.setCell ⟨w1.heap.size,5,none⟩ (I J zl))):=HX7.out.put rfl
      have HX7b:Hid (NX w1 { M with lo:=zl,hi:=zh } ma k mc ga j gc (x.subst.map (vAt vs)) (x.pieces.map (gapS vs)) ((wr.setCell ⟨w1.heap.size,5,none⟩ (I J zl)).setCell ⟨w1.heap.size,6,none⟩ (I J zh))):=HX7a.out.put rfl
      have HF:Hid (∀ W,Below w1.heap.size w1 W -> (W.cell? ⟨w.heap.size,6,none⟩ = some (I J (qlo:Int)) /\ W.cell? ⟨w.heap.size,7,none⟩ = some (I J (qhi:Int)) /\ W.cell? ⟨gv,ov + qlo,none⟩ = some (I J zl) /\ W.cell? ⟨gv,ov + qhi,none⟩ = some (I J zh))):=fun W hW=>(hF W hW).2
      have HP:Hid (∀ W i v,Below w1.heap.size w1 W -> Below w1.heap.size w1 (W.setCell ⟨w1.heap.size,i,none⟩ v)):=fun W i v hW=>hW.setCell (p:=⟨w1.heap.size,i,none⟩) (Nat.le_refl _) v
      have HBl:Hid (Below w1.heap.size w1 wr):=HX7.out.bel
      clear hF HX7a
      go_wp2_with fail
      go_region_held3 (fun W=>W.cell? ⟨w.heap.size,6,none⟩ = some (I J (qlo:Int)) /\ W.cell? ⟨w.heap.size,7,none⟩ = some (I J (qhi:Int)) /\ W.cell? ⟨gv,ov + qlo,none⟩ = some (I J zl) /\ W.cell? ⟨gv,ov + qhi,none⟩ = some (I J zh)) (first | with_reducible assumption | exact ⟨f1,f2,f3,f4⟩ | exact ⟨g1,g2,g3,g4⟩ | exact HF.out _ (HP.out _ _ _ HBl.out) | exact HF.out _ (HP.out _ _ _ HBl.out.drew) | exact HF.out _ (HP.out _ _ _ HBl.out).drew | exact HF.out _ (HP.out _ _ _ (HP.out _ _ _ HBl.out)) | exact HF.out _ (HP.out _ _ _ (HP.out _ _ _ HBl.out.drew)) | exact HF.out _ (HP.out _ _ _ (HP.out _ _ _ HBl.out)).drew) (fail)
      have HX8:Hid (NX w1 { M with lo:=zl,hi:=zh } ma k mc ga j gc (x.subst.map (vAt vs)) (x.pieces.map (gapS vs)) ((wr.setCell ⟨w1.heap.size,5,none⟩ (I J zl)).setCell ⟨w1.heap.size,6,none⟩ (I J zh)).drew):=HX7b.out.drew
      clear HX7b HX7 HF HP HBl c5 f1 f2 f3 f4 f5 f6 ff g1 g2 g3 g4
      generalize ((wr.setCell ⟨w1.heap.size,5,none⟩ (I J zl)).setCell ⟨w1.heap.size,6,none⟩ (I J zh)).drew = w5 at *
      generalize ({ M with lo:=zl,hi:=zh }:Mo) = M2 at *
      have HBr:Hid (B5 w (scCells x da dn dc sa k sc pa j pc) w5):=HB.out.next HX8.out.bel
      have r0:w5.cell? ⟨w.heap.size + 1,0,none⟩ = some (I J 0):=blk HBr.out.res rfl
      have r1:w5.cell? ⟨w.heap.size + 1,1,none⟩ = some (Γ none 0 0):=blk HBr.out.res rfl
      have r2:w5.cell? ⟨w.heap.size + 1,2,none⟩ = some (Γ none 0 0):=blk HBr.out.res rfl
      have r3:w5.cell? ⟨w.heap.size + 1,3,none⟩ = some (I J 0):=blk HBr.out.res rfl
      have r4:w5.cell? ⟨w.heap.size + 1,4,none⟩ = some (.bool false):=blk HBr.out.res rfl
      have r5:w5.cell? ⟨w.heap.size + 1,5,none⟩ = some (I J 0):=blk HBr.out.res rfl
      have r6:w5.cell? ⟨w.heap.size + 1,6,none⟩ = some (I J 0):=blk HBr.out.res rfl
      have r7:w5.cell? ⟨w.heap.size + 1,7,none⟩ = some (I J 0):=blk HBr.out.res rfl
      have r8:w5.cell? ⟨w.heap.size + 1,8,none⟩ = some (I J 0):=blk HBr.out.res rfl
      have r9:w5.cell? ⟨w.heap.size + 1,9,none⟩ = some (I J 0):=blk HBr.out.res rfl
      have rf:∀ i,w5.frozen? ⟨w.heap.size + 1,i,none⟩ = false:=fun i=>blkf i HBr.out.res
      have y0:w5.cell? ⟨w1.heap.size,0,none⟩ = some (I J M2.letters):=blk HX8.out.mb rfl
      have y1:w5.cell? ⟨w1.heap.size,1,none⟩ = some (Γ ma k mc):=blk HX8.out.mb rfl
      have y2:w5.cell? ⟨w1.heap.size,2,none⟩ = some (Γ ga j gc):=blk HX8.out.mb rfl
      have y3:w5.cell? ⟨w1.heap.size,3,none⟩ = some (I J M2.mode):=blk HX8.out.mb rfl
      have y4:w5.cell? ⟨w1.heap.size,4,none⟩ = some (.bool M2.banded):=blk HX8.out.mb rfl
      have y5:w5.cell? ⟨w1.heap.size,5,none⟩ = some (I J M2.lo):=blk HX8.out.mb rfl
      have y6:w5.cell? ⟨w1.heap.size,6,none⟩ = some (I J M2.hi):=blk HX8.out.mb rfl
      have y7:w5.cell? ⟨w1.heap.size,7,none⟩ = some (I J M2.front):=blk HX8.out.mb rfl
      have y8:w5.cell? ⟨w1.heap.size,8,none⟩ = some (I J M2.back):=blk HX8.out.mb rfl
      have y9:w5.cell? ⟨w1.heap.size,9,none⟩ = some (I J M2.least):=blk HX8.out.mb rfl
      have hbm:w.heap.size + 1 < w1.heap.size:=lt_block HB.out.res
      go_wp2
      refine bodyPost_ret (v:=.tuple #[.agg (moCells (numS vs x) ma k mc ga j gc),I J 0]) ?_ rfl ?_
      ·rw [HEq.out]
       unfold moCells
       simp only [results,hres]
       go_simp
      ·show NumPost _ _ _ _
       unfold NumPost
       rw [HVs.out.1,if_pos rfl,HVs.out.2]
       exact ⟨ma,k,mc,ga,j,gc,rfl,below_ten HBr.out.low _ _ _ _ _ _ _ _ _ _,HSu.out.length.symm,HPc.out.length.symm,own_zero (own_ten HX8.out.su (by omega) _ _ _ _ _ _ _ _ _ _),own_zero (own_ten HX8.out.gp (by omega) _ _ _ _ _ _ _ _ _ _)⟩
theorem numbers_calls (x:Sc) (da:Option Addr) (dn dc:Nat) (sa:Option Addr) (sn sc:Nat) (pa:Option Addr) (pn pc:Nat) (w:World) (h:ScAt w x da dn sa sn pa pn) :
 Calls Tryz.prog 21 #[.agg (scCells x da dn dc sa sn sc pa pn pc)] w fun e w'=>NumPost x w e w':=by
 cases hr:rightS x
 ·exact numbers_no x da dn dc sa sn sc pa pn pc w h hr
 ·exact numbers_yes x da dn dc sa sn sc pa pn pc w h hr
end Go.Proofs.YtlaodgdlkkmmeaaGreat
