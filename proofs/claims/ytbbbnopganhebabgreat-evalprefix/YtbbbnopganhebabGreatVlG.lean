/-
  A scheme in numbers: Numbers.
-/
import Derived.Test.YtbbbnopganhebabGreatG41
namespace Go.Proofs.YtbbbnopganhebabGreat
open Go.RowKit Go.Deep Go.Maps
open Go.Value renaming int->I
open Go.IntKind renaming i64->J
set_option maxRecDepth 20000
set_option maxHeartbeats 1000000
/-- What Numbers tells. -/
def NumPost (x:Sc) (w:World) (e:Ending) (w':World):Prop:=
 if rightS x then ∃ ma mn mc ga gn gc,e = .returned (.tuple #[.agg (moCells (numS (valsB x.defs).1 x) ma mn mc ga gn gc),I J 0]) /\ Below w.heap.size w w' /\ mn = x.subst.length /\ gn = x.pieces.length /\ w'.ownsRow 0 3 1 (.slice ma mn mc) mn (itRow (x.subst.map (vAt (valsB x.defs).1))) /\ w'.ownsRow 0 151 2 (.slice ga gn gc) gn (pcRow (x.pieces.map (gapS (valsB x.defs).1)))
 else e = .returned (.tuple #[.agg #[I J 0,.slice none 0 0,.slice none 0 0,I J 0,.bool false,I J 0,I J 0,I J 0,I J 0,I J 0],I J 95]) /\ Below w.heap.size w w'
structure B5 (w:World) (cs:Array Value) (wr:World):Prop where
 low:Below w.heap.size w wr
 box:wr.heap[w.heap.size]? = some (.cells cs 57 (0,0))
 res:wr.heap[w.heap.size + 1]? = some (.cells #[I J 0,.slice none 0 0,.slice none 0 0,I J 0,.bool false,I J 0,I J 0,I J 0,I J 0,I J 0] 94 (0,0))
theorem B5.start (w:World) (cs:Array Value):B5 w cs ((w.alloc (.cells cs 57)).alloc (.cells #[I J 0,.slice none 0 0,.slice none 0 0,I J 0,.bool false,I J 0,I J 0,I J 0,I J 0,I J 0] 94)):=by
 refine ⟨((Below.refl _ _).alloc (Nat.le_refl _) _).alloc (by simp) _,?_,?_⟩
 ·have hb:=(Below.refl (w.alloc (.cells cs 57)).heap.size (w.alloc (.cells cs 57))).alloc (Nat.le_refl _) (.cells #[I J 0,.slice none 0 0,.slice none 0 0,I J 0,.bool false,I J 0,I J 0,I J 0,I J 0,I J 0] 94)
  rw [hb.block _ (by simp)]
  exact heap_alloc_new w _
 ·have h:=heap_alloc_new (w.alloc (.cells cs 57)) (.cells #[I J 0,.slice none 0 0,.slice none 0 0,I J 0,.bool false,I J 0,I J 0,I J 0,I J 0,I J 0] 94)
  rwa [show (w.alloc (.cells cs 57)).heap.size = w.heap.size + 1 by simp] at h
theorem B5.next {w:World} {cs:Array Value} {wr w2:World} (h:B5 w cs wr) (hb:Below wr.heap.size wr w2):B5 w cs w2:=
 ⟨h.low.trans (hb.mono h.low.size),by rw [hb.block _ (lt_block h.box)]; exact h.box,by rw [hb.block _ (lt_block h.res)]; exact h.res⟩
theorem below_ten {w W:World} (h:Below w.heap.size w W) (v0 v1 v2 v3 v4 v5 v6 v7 v8 v9:Value):Below w.heap.size w ((((((((((W.setCell ⟨w.heap.size + 1,0,none⟩ v0).setCell ⟨w.heap.size + 1,1,none⟩ v1).setCell ⟨w.heap.size + 1,2,none⟩ v2).setCell ⟨w.heap.size + 1,3,none⟩ v3).setCell ⟨w.heap.size + 1,4,none⟩ v4).setCell ⟨w.heap.size + 1,5,none⟩ v5).setCell ⟨w.heap.size + 1,6,none⟩ v6).setCell ⟨w.heap.size + 1,7,none⟩ v7).setCell ⟨w.heap.size + 1,8,none⟩ v8).setCell ⟨w.heap.size + 1,9,none⟩ v9):=by
 have a:∀ (W:World) (i:Nat) (v:Value),Below w.heap.size w W -> Below w.heap.size w (W.setCell ⟨w.heap.size + 1,i,none⟩ v):=fun W i v h=>h.setCell (p:=⟨w.heap.size + 1,i,none⟩) (show w.heap.size <= w.heap.size + 1 by omega) v
 exact (a _ 9 v9 (a _ 8 v8 (a _ 7 v7 (a _ 6 v6 (a _ 5 v5 (a _ 4 v4 (a _ 3 v3 (a _ 2 v2 (a _ 1 v1 (a _ 0 v0 h))))))))))
theorem own_ten {w W:World} {base:Nat} {e:TypeId} {size:Nat} {v:Value} {n:Nat} {xs:List Value} (h:W.ownsRow base e size v n xs) (hb:w.heap.size + 1 < base) (v0 v1 v2 v3 v4 v5 v6 v7 v8 v9:Value):((((((((((W.setCell ⟨w.heap.size + 1,0,none⟩ v0).setCell ⟨w.heap.size + 1,1,none⟩ v1).setCell ⟨w.heap.size + 1,2,none⟩ v2).setCell ⟨w.heap.size + 1,3,none⟩ v3).setCell ⟨w.heap.size + 1,4,none⟩ v4).setCell ⟨w.heap.size + 1,5,none⟩ v5).setCell ⟨w.heap.size + 1,6,none⟩ v6).setCell ⟨w.heap.size + 1,7,none⟩ v7).setCell ⟨w.heap.size + 1,8,none⟩ v8).setCell ⟨w.heap.size + 1,9,none⟩ v9).ownsRow base e size v n xs:=by
 have a:∀ (W:World) (i:Nat) (u:Value),W.ownsRow base e size v n xs -> (W.setCell ⟨w.heap.size + 1,i,none⟩ u).ownsRow base e size v n xs:=fun W i u h=>ownsRow_setCell_below h (a:=⟨w.heap.size + 1,i,none⟩) hb u
 exact (a _ 9 v9 (a _ 8 v8 (a _ 7 v7 (a _ 6 v6 (a _ 5 v5 (a _ 4 v4 (a _ 3 v3 (a _ 2 v2 (a _ 1 v1 (a _ 0 v0 h))))))))))
theorem info81:(Tryz.prog.info? 151).map (fun i=>(i.zero,i.size,i.bytes)) = some (some (.agg #[I J 0,I J 0]),2,16):=by kernel_rfl
theorem own_zero {W:World} {base:Nat} {e:TypeId} {size:Nat} {v:Value} {n:Nat} {xs:List Value} (h:W.ownsRow base e size v n xs):W.ownsRow 0 e size v n xs:=by
 refine ⟨h.1,?_⟩
 rcases h.2 with h1 | ⟨q,cap,cur,a1,a2,a3⟩
 ·exact .inl h1
 ·exact .inr ⟨q,cap,cur,a1,Nat.zero_le _,a3⟩
theorem numbers_no (x:Sc) (da:Option Addr) (dn dc:Nat) (sa:Option Addr) (sn sc:Nat) (pa:Option Addr) (pn pc:Nat) (w:World) (h:ScAt w x da dn sa sn pa pn) (hr:rightS x = false) :
 Calls Tryz.prog 30 #[.agg (scCells x da dn dc sa sn sc pa pn pc)] w fun e w'=>NumPost x w e w':=by
 have hres:Tryz.f30.results = #[.cell 2 94,.tmp 3]:=by kernel_rfl
 have HS:Hid (ScAt w x da dn sa sn pa pn):=h
 have HR:Hid (rightS x = false):=hr
 clear h hr
 rw [show scCells x da dn dc sa sn sc pa pn pc = #[.string (bs x.letters),.slice da dn dc,.slice sa sn sc,.slice pa pn pc,I J x.mode,.bool x.banded,I J x.lo,I J x.hi,I J x.front,I J x.back,I J x.least] from rfl]
 go_enter Tryz.func30,Tryz.ntmps30
 go_wp2_with fail
 have hB0:=B5.start w (scCells x da dn dc sa sn sc pa pn pc)
 refine (valuesOf_calls x da dn dc sa sn sc pa pn pc _ (HS.out.below hB0.low)).mono ?_
 rintro e w1 ⟨vo,vn,vc,rfl,hb,_⟩
 rw [HR.out]
 have HB:Hid (B5 w (scCells x da dn dc sa sn sc pa pn pc) w1):=hB0.next hb
 clear hb hB0
 have r0:w1.cell? ⟨w.heap.size + 1,0,none⟩ = some (I J 0):=blk HB.out.res rfl
 have r1:w1.cell? ⟨w.heap.size + 1,1,none⟩ = some (.slice none 0 0):=blk HB.out.res rfl
 have r2:w1.cell? ⟨w.heap.size + 1,2,none⟩ = some (.slice none 0 0):=blk HB.out.res rfl
 have r3:w1.cell? ⟨w.heap.size + 1,3,none⟩ = some (I J 0):=blk HB.out.res rfl
 have r4:w1.cell? ⟨w.heap.size + 1,4,none⟩ = some (.bool false):=blk HB.out.res rfl
 have r5:w1.cell? ⟨w.heap.size + 1,5,none⟩ = some (I J 0):=blk HB.out.res rfl
 have r6:w1.cell? ⟨w.heap.size + 1,6,none⟩ = some (I J 0):=blk HB.out.res rfl
 have r7:w1.cell? ⟨w.heap.size + 1,7,none⟩ = some (I J 0):=blk HB.out.res rfl
 have r8:w1.cell? ⟨w.heap.size + 1,8,none⟩ = some (I J 0):=blk HB.out.res rfl
 have r9:w1.cell? ⟨w.heap.size + 1,9,none⟩ = some (I J 0):=blk HB.out.res rfl
 have rf:∀ i,w1.frozen? ⟨w.heap.size + 1,i,none⟩ = false:=fun i=>blkf i HB.out.res
 go_wp2
 refine bodyPost_ret (v:=.tuple #[.agg #[I J 0,.slice none 0 0,.slice none 0 0,I J 0,.bool false,I J 0,I J 0,I J 0,I J 0,I J 0],I J 95]) ?_ rfl ?_
 ·simp only [results,hres]
  go_simp
 ·show NumPost _ _ _ _
  unfold NumPost
  rw [HR.out,if_neg (by decide)]
  exact ⟨rfl,below_ten HB.out.low _ _ _ _ _ _ _ _ _ _⟩
theorem numbers_yes (x:Sc) (da:Option Addr) (dn dc:Nat) (sa:Option Addr) (sn sc:Nat) (pa:Option Addr) (pn pc:Nat) (w:World) (h:ScAt w x da dn sa sn pa pn) (hr:rightS x = true) :
 Calls Tryz.prog 30 #[.agg (scCells x da dn dc sa sn sc pa pn pc)] w fun e w'=>NumPost x w e w':=by
 have hres:Tryz.f30.results = #[.cell 2 94,.tmp 3]:=by kernel_rfl
 obtain ⟨i3,hi3,hz30,hz31,hz32⟩:=info_parts info3
 obtain ⟨i81,hi81,hz810,hz811,hz812⟩:=info_parts info81
 have hR:=rightS_out hr
 have HS:Hid (ScAt w x da dn sa sn pa pn):=h
 have hfew:=valsB_few x.defs
 obtain ⟨vs,hvs⟩:∃ vs,(valsB x.defs).1 = vs:=⟨_,rfl⟩
 rw [hvs] at hR hfew
 have HVs:Hid (rightS x = true /\ (valsB x.defs).1 = vs):=⟨hr,hvs⟩
 have HQ:Hid (RtS vs x):=hR.1
 have hsn:sn <= 400:=by rw [<- h.subst.length]; exact hR.1.sub400
 have hpn:pn <= 4:=by rw [<- h.pieces.length]; exact hR.1.pcs4
 have hlz:(bs x.letters).size <= 20:=by rw [bs_size]; exact hR.1.few
 have hlz2:((bs x.letters).size:Int) = (x.letters.length:Int):=by rw [bs_size]
 obtain ⟨nl,hnl⟩:∃ nl,(bs x.letters).size = nl:=⟨_,rfl⟩
 have HNL:Hid ((nl:Int) = (x.letters.length:Int)):=by rw [<- hnl]; exact hlz2
 obtain ⟨qf,eqf,lqf,_⟩:=placeB_out hR.1.front
 obtain ⟨qb,eqb,lqb,_⟩:=placeB_out hR.1.back
 obtain ⟨ql,eql,lql,_⟩:=placeB_out hR.1.least
 have HE:Hid ((x.front = (qf:Int) /\ x.back = (qb:Int) /\ x.least = (ql:Int)) /\ qf < vs.length /\ qb < vs.length /\ ql < vs.length):=⟨⟨eqf,eqb,eql⟩,lqf,lqb,lql⟩
 clear h hr hR hvs hlz2 eqf eqb eql lqf lqb lql
 rw [show scCells x da dn dc sa sn sc pa pn pc = #[.string (bs x.letters),.slice da dn dc,.slice sa sn sc,.slice pa pn pc,I J x.mode,.bool x.banded,I J x.lo,I J x.hi,I J x.front,I J x.back,I J x.least] from rfl]
 go_enter Tryz.func30,Tryz.ntmps30
 go_wp2_with fail
 have hB0:=B5.start w (scCells x da dn dc sa sn sc pa pn pc)
 refine (valuesOf_calls x da dn dc sa sn sc pa pn pc _ (HS.out.below hB0.low)).mono ?_
 rintro e w1 ⟨vo,vn,vc,rfl,hb,hv⟩
 obtain ⟨hvn,hown⟩:=hv HVs.out.1
 rw [HVs.out.2] at hvn hown
 rw [HVs.out.1]
 have HB:Hid (B5 w (scCells x da dn dc sa sn sc pa pn pc) w1):=hB0.next hb
 have HV:Hid (IntA w1 vo vn vs):=intA_own hown hvn.symm (by unfold maxLen; omega)
 clear hb hB0 hv hown
 have HVL:Hid (vs.length = vn):=hvn.symm
 clear hvn
 obtain ⟨⟨eqf,eqb,eql⟩,lqf,lqb,lql⟩:=HE.out
 obtain ⟨gv,ov,hvo,cf⟩:=HV.out.isI qf _ (vAt_get lqf)
 subst hvo
 obtain ⟨_,_,e2,cb⟩:=HV.out.isI qb _ (vAt_get lqb)
 cases e2
 obtain ⟨_,_,e2,cl⟩:=HV.out.isI ql _ (vAt_get lql)
 cases e2
 have b0:w1.cell? ⟨w.heap.size,0,none⟩ = some (.string (bs x.letters)):=blk HB.out.box rfl
 have b4:w1.cell? ⟨w.heap.size,4,none⟩ = some (I J x.mode):=blk HB.out.box rfl
 have b5:w1.cell? ⟨w.heap.size,5,none⟩ = some (.bool x.banded):=blk HB.out.box rfl
 have b8:w1.cell? ⟨w.heap.size,8,none⟩ = some (I J (qf:Int)):=by rw [<- eqf]; exact blk HB.out.box rfl
 have b9:w1.cell? ⟨w.heap.size,9,none⟩ = some (I J (qb:Int)):=by rw [<- eqb]; exact blk HB.out.box rfl
 have b10:w1.cell? ⟨w.heap.size,10,none⟩ = some (I J (ql:Int)):=by rw [<- eql]; exact blk HB.out.box rfl
 have kf:qf < vn:=by rw [<- HVL.out]; exact lqf
 have kb:qb < vn:=by rw [<- HVL.out]; exact lqb
 have kl:ql < vn:=by rw [<- HVL.out]; exact lql
 have hx0:NX w1 (num0 vs x) none 0 0 none 0 0 [] [] (w1.alloc (.cells (moCells (num0 vs x) none 0 0 none 0 0) 94)):=NX.start w1 _
 unfold moCells num0 at hx0
 simp only at hx0
 rw [<- HNL.out,eqf,eqb,eql] at hx0
 have HM0:Hid (num0 vs x = ⟨(nl:Int),[],[],x.mode,x.banded,0,0,vAt vs (qf:Int),vAt vs (qb:Int),vAt vs (ql:Int)⟩):=by show num0 vs x = _; unfold num0; rw [<- HNL.out,eqf,eqb,eql]
 generalize vAt vs (qf:Int) = yf at *
 generalize vAt vs (qb:Int) = yb at *
 generalize vAt vs (ql:Int) = yl at *
 rw [<- HM0.out] at hx0
 have HX0:Hid (NX w1 (num0 vs x) none 0 0 none 0 0 [] [] (w1.alloc (.cells #[I J (nl:Int),.slice none 0 0,.slice none 0 0,I J x.mode,.bool x.banded,I J 0,I J 0,I J yf,I J yb,I J yl] 94)).drew):=hx0.drew
 clear hx0 eqf eqb eql lqf lqb lql HE
 have b0o:∀ o,(w1.alloc o).drew.cell? ⟨w.heap.size,0,none⟩ = some (.string (bs x.letters)):=fun o=>by rw [((Below.refl w1.heap.size w1).alloc (Nat.le_refl _) o).drew.cell (World.block_lt_of_cell? w1 _ b0)]; exact b0
 have b4o:∀ o,(w1.alloc o).drew.cell? ⟨w.heap.size,4,none⟩ = some (I J x.mode):=fun o=>by rw [((Below.refl w1.heap.size w1).alloc (Nat.le_refl _) o).drew.cell (World.block_lt_of_cell? w1 _ b4)]; exact b4
 have b5o:∀ o,(w1.alloc o).drew.cell? ⟨w.heap.size,5,none⟩ = some (.bool x.banded):=fun o=>by rw [((Below.refl w1.heap.size w1).alloc (Nat.le_refl _) o).drew.cell (World.block_lt_of_cell? w1 _ b5)]; exact b5
 have b8o:∀ o,(w1.alloc o).drew.cell? ⟨w.heap.size,8,none⟩ = some (I J (qf:Int)):=fun o=>by rw [((Below.refl w1.heap.size w1).alloc (Nat.le_refl _) o).drew.cell (World.block_lt_of_cell? w1 _ b8)]; exact b8
 have b9o:∀ o,(w1.alloc o).drew.cell? ⟨w.heap.size,9,none⟩ = some (I J (qb:Int)):=fun o=>by rw [((Below.refl w1.heap.size w1).alloc (Nat.le_refl _) o).drew.cell (World.block_lt_of_cell? w1 _ b9)]; exact b9
 have b10o:∀ o,(w1.alloc o).drew.cell? ⟨w.heap.size,10,none⟩ = some (I J (ql:Int)):=fun o=>by rw [((Below.refl w1.heap.size w1).alloc (Nat.le_refl _) o).drew.cell (World.block_lt_of_cell? w1 _ b10)]; exact b10
 have cfo:∀ o,(w1.alloc o).drew.cell? ⟨gv,ov + qf,none⟩ = some (I J yf):=fun o=>by rw [((Below.refl w1.heap.size w1).alloc (Nat.le_refl _) o).drew.cell (World.block_lt_of_cell? w1 _ cf)]; exact cf
 have cbo:∀ o,(w1.alloc o).drew.cell? ⟨gv,ov + qb,none⟩ = some (I J yb):=fun o=>by rw [((Below.refl w1.heap.size w1).alloc (Nat.le_refl _) o).drew.cell (World.block_lt_of_cell? w1 _ cb)]; exact cb
 have clo:∀ o,(w1.alloc o).drew.cell? ⟨gv,ov + ql,none⟩ = some (I J yl):=fun o=>by rw [((Below.refl w1.heap.size w1).alloc (Nat.le_refl _) o).drew.cell (World.block_lt_of_cell? w1 _ cl)]; exact cl
 go_wp2_with fail
 go_region_held3 (fun W=>W.cell? ⟨w.heap.size,0,none⟩ = some (.string (bs x.letters)) /\ W.cell? ⟨w.heap.size,4,none⟩ = some (I J x.mode) /\ W.cell? ⟨w.heap.size,5,none⟩ = some (.bool x.banded) /\ W.cell? ⟨w.heap.size,8,none⟩ = some (I J (qf:Int)) /\ W.cell? ⟨w.heap.size,9,none⟩ = some (I J (qb:Int)) /\ W.cell? ⟨w.heap.size,10,none⟩ = some (I J (ql:Int)) /\ W.cell? ⟨gv,ov + qf,none⟩ = some (I J yf) /\ W.cell? ⟨gv,ov + qb,none⟩ = some (I J yb) /\ W.cell? ⟨gv,ov + ql,none⟩ = some (I J yl)) (first | with_reducible assumption | exact ⟨b0,b4,b5,b8,b9,b10,cf,cb,cl⟩ | exact ⟨b0o _,b4o _,b5o _,b8o _,b9o _,b10o _,cfo _,cbo _,clo _⟩) (fail)
 rename_i hh
 clear hh b0o b4o b5o b8o b9o b10o cfo cbo clo
 generalize (w1.alloc (.cells #[I J (nl:Int),.slice none 0 0,.slice none 0 0,I J x.mode,.bool x.banded,I J 0,I J 0,I J yf,I J yb,I J yl] 94)).drew = w2 at *
 clear b0 b4 b5 b8 b9 b10 cf cb cl kf kb kl HM0
 have HSu:Hid (IntA w1 sa sn x.subst):=HS.out.subst.below HB.out.low
 have HPc:Hid (PcsAt w1 pa pn x.pieces):=HS.out.pieces.below HB.out.low
 have c2:w2.cell? ⟨w.heap.size,2,none⟩ = some (.slice sa sn sc):=by
  have:w1.cell? ⟨w.heap.size,2,none⟩ = some (.slice sa sn sc):=blk HB.out.box rfl
  rw [HX0.out.bel.cell (World.block_lt_of_cell? w1 _ this)]; exact this
 go_wp2
 clear c2
 go_loopw [8,45] (fun _ i wr=>∃ (k:Nat) (ma:Option Addr) (mc:Nat),k <= sn /\ i = I J k /\ NX w1 (num0 vs x) ma k mc none 0 0 ((x.subst.map (vAt vs)).take k) [] wr) (fun _ i _=>sn - (intOf i).toNat)
 case atStart=>exact ⟨0,none,0,Nat.zero_le _,rfl,HX0.out⟩
 case round=>
  clear HX0
  obtain ⟨k,ma,mc,hk,rfl,hnx⟩:=hrel
  have HX:Hid (NX w1 (num0 vs x) ma k mc none 0 0 ((x.subst.map (vAt vs)).take k) [] wr):=hnx
  clear hnx
  by_cases hlt:k < sn
  ·obtain ⟨p,hpk⟩:∃ p,x.subst[k]? = some p:=⟨x.subst[k]'(by rw [HSu.out.length]; exact hlt),List.getElem?_eq_getElem _⟩
   obtain ⟨q,eq,lq,_⟩:=placeB_out (HQ.out.subst p (List.mem_of_getElem? hpk))
   subst eq
   obtain ⟨gs,os,hsa,cs0⟩:=HSu.out.isI k _ hpk
   subst hsa
   obtain ⟨_,_,e2,cv⟩:=HV.out.isI q _ (vAt_get lq)
   cases e2
   have HT:Hid ((x.subst.map (vAt vs)).take (k + 1) = (x.subst.map (vAt vs)).take k ++ [vAt vs (q:Int)]):=by
    have h1:(x.subst.map (vAt vs))[k]? = some (vAt vs (q:Int)):=by rw [List.getElem?_map,hpk]; rfl
    show (x.subst.map (vAt vs)).take (k + 1) = _
    obtain ⟨h2,h3⟩:=List.getElem?_eq_some_iff.1 h1
    rw [List.take_succ_eq_append_getElem h2,h3]
   have lqv:q < vn:=by rw [<- HVL.out]; exact lq
   clear hpk lq
   generalize vAt vs (q:Int) = z at *
   have hF:∀ W,NX w1 (num0 vs x) ma k mc none 0 0 ((x.subst.map (vAt vs)).take k) [] W -> W.cell? ⟨w1.heap.size,1,none⟩ = some (.slice ma k mc) /\ W.cell? ⟨gv,ov + q,none⟩ = some (I J z) /\ W.cell? ⟨gs,os + k,none⟩ = some (I J (q:Int)):=fun W hW=>
    ⟨blk hW.mb rfl,by rw [hW.bel.cell (World.block_lt_of_cell? w1 _ cv)]; exact cv,by rw [hW.bel.cell (World.block_lt_of_cell? w1 _ cs0)]; exact cs0⟩
   obtain ⟨x1,x2,x3⟩:=hF _ HX.out
   obtain ⟨x1d,x2d,x3d⟩:=hF _ HX.out.drew
   have x1o:∀ o,(wr.alloc o).drew.cell? ⟨w1.heap.size,1,none⟩ = some (.slice ma k mc):=fun o=>(hF _ (HX.out.alloc o).drew).1
   have x2o:∀ o,(wr.alloc o).drew.cell? ⟨gv,ov + q,none⟩ = some (I J z):=fun o=>(hF _ (HX.out.alloc o).drew).2.1
   have HJd:Hid (NX w1 (num0 vs x) ma k mc none 0 0 ((x.subst.map (vAt vs)).take k) [] wr.drew):=HX.out.drew
   have HJO:Hid (∀ W o,Hid (NX w1 (num0 vs x) ma k mc none 0 0 ((x.subst.map (vAt vs)).take k) [] W) -> (W.alloc o).ownsRow (w1.heap.size + 1) 3 1 (.slice ma k mc) k (itRow ((x.subst.map (vAt vs)).take k))):=fun W o hW=>(hW.out.alloc o).su
   have HJS:Hid (∀ W o,Hid (NX w1 (num0 vs x) ma k mc none 0 0 ((x.subst.map (vAt vs)).take k) [] W) -> w1.heap.size + 1 <= (W.alloc o).heap.size):=fun W o hW=>lt_block (hW.out.alloc o).mb
   have HJE:Hid (∀ W o v' w4,Hid (NX w1 (num0 vs x) ma k mc none 0 0 ((x.subst.map (vAt vs)).take k) [] W) -> w4.ownsRow (w1.heap.size + 1) 3 1 v' (k + 1) (itRow ((x.subst.map (vAt vs)).take k) ++ [I J z]) -> (W.alloc o).grownBy w4 (Value.slice ma k mc).ownBlock ->
    w4.cell? ⟨w1.heap.size,1,none⟩ = some (.slice ma k mc) /\ w4.frozen? ⟨w1.heap.size,1,none⟩ = false /\ Hid (∃ va' vc',v' = .slice va' (k + 1) vc' /\ NX w1 (num0 vs x) va' (k + 1) vc' none 0 0 ((x.subst.map (vAt vs)).take (k + 1)) [] (w4.setCell ⟨w1.heap.size,1,none⟩ v'))):=by
    intro W o v' w4 hW ho hg
    rw [HT.out]
    exact (hW.out.alloc o).addS ho hg
   clear hF HT cv cs0
   go_wp2_with fail
   go_region_law (first
    | (refine step_append_own rfl (.tmp 50) (.tmp 55) 23 rfl (w1.heap.size + 1) 3 i3 _ 1 8 Tryz.underlying23 hi3 hz30 hz31 hz32 rfl (by decide) _ _ _ (by simp [Act.eval]) (HJO.out _ _ (by assumption)) ⟨_,0,none⟩ 1 1 [I J z] (by simp [Act.eval]) rfl (it_new _ z) (it_one z) (by unfold maxLen; omega) (by omega) (HJS.out _ _ (by assumption)) ?_
       intro v' w4 ho hg
       obtain ⟨k1,k2,k3⟩:=HJE.out wr.drew _ _ _ HJd ho hg
       obtain ⟨ao2,cap2,rfl⟩:=owned_shape ho
       clear ho hg))
   all_goals (
    have HK3:Hid (NX w1 (num0 vs x) ao2 (k + 1) cap2 none 0 0 ((x.subst.map (vAt vs)).take (k + 1)) [] (w4.setCell ⟨w1.heap.size,1,none⟩ (.slice ao2 (k + 1) cap2))):=by
     obtain ⟨va',vc',q3,q4⟩:=k3.out
     cases q3
     exact q4
    clear k3 x1 x2 x3 x1d x2d x3d x1o x2o HJO HJS HJE HJd HX)
   all_goals (
    go_wp2
    go_roundw
    case rel=>exact ⟨k + 1,ao2,cap2,by omega,by go_num,HK3.out⟩
    case measure=>simp [intOf]; omega)
  ·have hksn:k = sn:=by omega
   subst hksn
   have HX6:Hid (NX w1 (num0 vs x) ma k mc none 0 0 (x.subst.map (vAt vs)) [] wr):=by
    have:=HX.out
    rw [List.take_of_length_le (by rw [List.length_map,HSu.out.length]; omega)] at this
    exact this
   have c3:wr.cell? ⟨w.heap.size,3,none⟩ = some (.slice pa pn pc):=by
    have:w1.cell? ⟨w.heap.size,3,none⟩ = some (.slice pa pn pc):=blk HB.out.box rfl
    rw [HX.out.bel.cell (World.block_lt_of_cell? w1 _ this)]; exact this
   clear HX
   go_wp2
   clear c3
   go_loopw [10,62] (fun _ i wr=>∃ (j:Nat) (ga:Option Addr) (gc:Nat),j <= pn /\ i = I J j /\ NX w1 (num0 vs x) ma k mc ga j gc (x.subst.map (vAt vs)) ((x.pieces.map (gapS vs)).take j) wr) (fun _ i _=>pn - (intOf i).toNat)
   case atStart=>exact ⟨0,none,0,Nat.zero_le _,rfl,HX6.out⟩
   case round=>
    clear HX6
    obtain ⟨j,ga,gc,hj,rfl,hnx⟩:=hrel
    have HX:Hid (NX w1 (num0 vs x) ma k mc ga j gc (x.subst.map (vAt vs)) ((x.pieces.map (gapS vs)).take j) wr):=hnx
    clear hnx
    by_cases hlt2:j < pn
    ·obtain ⟨p,hpk⟩:∃ p,x.pieces[j]? = some p:=⟨x.pieces[j]'(by rw [HPc.out.length]; exact hlt2),List.getElem?_eq_getElem _⟩
     obtain ⟨p1,p2⟩:=p
     have hpl:=HQ.out.pieces _ (List.mem_of_getElem? hpk)
     obtain ⟨q1,eq1,lq1,_⟩:=placeB_out hpl.1
     obtain ⟨q2,eq2,lq2,_⟩:=placeB_out hpl.2
     simp only at eq1 eq2
     subst eq1 eq2
     obtain ⟨gs,os,hpa,hcs⟩:=HPc.out.cells (by omega)
     subst hpa
     obtain ⟨cp1,cp2⟩:=hcs j _ hpk
     simp only at cp1 cp2
     obtain ⟨_,_,e2,cv1⟩:=HV.out.isI q1 _ (vAt_get lq1)
     cases e2
     obtain ⟨_,_,e2,cv2⟩:=HV.out.isI q2 _ (vAt_get lq2)
     cases e2
     have HT:Hid ((x.pieces.map (gapS vs)).take (j + 1) = (x.pieces.map (gapS vs)).take j ++ [(vAt vs (q1:Int),vAt vs (q2:Int))]):=by
      have h1:(x.pieces.map (gapS vs))[j]? = some (vAt vs (q1:Int),vAt vs (q2:Int)):=by rw [List.getElem?_map,hpk]; rfl
      show (x.pieces.map (gapS vs)).take (j + 1) = _
      obtain ⟨h2,h3⟩:=List.getElem?_eq_some_iff.1 h1
      rw [List.take_succ_eq_append_getElem h2,h3]
     have lv1:q1 < vn:=by rw [<- HVL.out]; exact lq1
     have lv2:q2 < vn:=by rw [<- HVL.out]; exact lq2
     clear hpk lq1 lq2 hpl hcs
     generalize vAt vs (q1:Int) = z1 at *
     generalize vAt vs (q2:Int) = z2 at *
     have hF:∀ W,NX w1 (num0 vs x) ma k mc ga j gc (x.subst.map (vAt vs)) ((x.pieces.map (gapS vs)).take j) W -> W.cell? ⟨w1.heap.size,2,none⟩ = some (.slice ga j gc) /\ W.cell? ⟨gv,ov + q1,none⟩ = some (I J z1) /\ W.cell? ⟨gv,ov + q2,none⟩ = some (I J z2) /\ W.cell? ⟨gs,os + j * 2,none⟩ = some (I J (q1:Int)) /\ W.cell? ⟨gs,os + j * 2 + 1,none⟩ = some (I J (q2:Int)):=fun W hW=>
      ⟨blk hW.mb rfl,by rw [hW.bel.cell (World.block_lt_of_cell? w1 _ cv1)]; exact cv1,by rw [hW.bel.cell (World.block_lt_of_cell? w1 _ cv2)]; exact cv2,by rw [hW.bel.cell (World.block_lt_of_cell? w1 _ cp1)]; exact cp1,by rw [hW.bel.cell (World.block_lt_of_cell? w1 _ cp2)]; exact cp2⟩
     obtain ⟨_,_,_,x4,x5⟩:=hF _ HX.out
     have HXc:NX w1 (num0 vs x) ma k mc ga j gc (x.subst.map (vAt vs)) ((x.pieces.map (gapS vs)).take j) (wr.alloc (.cells #[I J (q1:Int),I J (q2:Int)] 150)):=HX.out.alloc _
     obtain ⟨x1d,x2d,x3d,_,_⟩:=hF _ HXc.drew
     have x1o:∀ o,((wr.alloc (.cells #[I J (q1:Int),I J (q2:Int)] 150)).alloc o).drew.cell? ⟨w1.heap.size,2,none⟩ = some (.slice ga j gc):=fun o=>(hF _ (HXc.alloc o).drew).1
     have x2o:∀ o,((wr.alloc (.cells #[I J (q1:Int),I J (q2:Int)] 150)).alloc o).drew.cell? ⟨gv,ov + q1,none⟩ = some (I J z1):=fun o=>(hF _ (HXc.alloc o).drew).2.1
     have x3o:∀ o,((wr.alloc (.cells #[I J (q1:Int),I J (q2:Int)] 150)).alloc o).drew.cell? ⟨gv,ov + q2,none⟩ = some (I J z2):=fun o=>(hF _ (HXc.alloc o).drew).2.2.1
     have y1d:(wr.alloc (.cells #[I J (q1:Int),I J (q2:Int)] 150)).drew.cell? ⟨wr.heap.size,0,none⟩ = some (I J (q1:Int)):=blk (heap_alloc_new wr (.cells #[I J (q1:Int),I J (q2:Int)] 150)) rfl
     have y2d:(wr.alloc (.cells #[I J (q1:Int),I J (q2:Int)] 150)).drew.cell? ⟨wr.heap.size,1,none⟩ = some (I J (q2:Int)):=blk (heap_alloc_new wr (.cells #[I J (q1:Int),I J (q2:Int)] 150)) rfl
     have y1o:∀ o,((wr.alloc (.cells #[I J (q1:Int),I J (q2:Int)] 150)).alloc o).drew.cell? ⟨wr.heap.size,0,none⟩ = some (I J (q1:Int)):=fun o=>by
      rw [((Below.refl (wr.alloc (.cells #[I J (q1:Int),I J (q2:Int)] 150)).heap.size (wr.alloc (.cells #[I J (q1:Int),I J (q2:Int)] 150))).alloc (Nat.le_refl _) o).drew.cell (p:=⟨wr.heap.size,0,none⟩) (by simp)]; exact y1d
     have y2o:∀ o,((wr.alloc (.cells #[I J (q1:Int),I J (q2:Int)] 150)).alloc o).drew.cell? ⟨wr.heap.size,1,none⟩ = some (I J (q2:Int)):=fun o=>by
      rw [((Below.refl (wr.alloc (.cells #[I J (q1:Int),I J (q2:Int)] 150)).heap.size (wr.alloc (.cells #[I J (q1:Int),I J (q2:Int)] 150))).alloc (Nat.le_refl _) o).drew.cell (p:=⟨wr.heap.size,1,none⟩) (by simp)]; exact y2d
     have HJd:Hid (NX w1 (num0 vs x) ma k mc ga j gc (x.subst.map (vAt vs)) ((x.pieces.map (gapS vs)).take j) (wr.alloc (.cells #[I J (q1:Int),I J (q2:Int)] 150)).drew):=HXc.drew
     have HJO:Hid (∀ W o,Hid (NX w1 (num0 vs x) ma k mc ga j gc (x.subst.map (vAt vs)) ((x.pieces.map (gapS vs)).take j) W) -> (W.alloc o).ownsRow (w1.heap.size + 1) 151 2 (.slice ga j gc) j (pcRow ((x.pieces.map (gapS vs)).take j))):=fun W o hW=>(hW.out.alloc o).gp
     have HJS:Hid (∀ W o,Hid (NX w1 (num0 vs x) ma k mc ga j gc (x.subst.map (vAt vs)) ((x.pieces.map (gapS vs)).take j) W) -> w1.heap.size + 1 <= (W.alloc o).heap.size):=fun W o hW=>lt_block (hW.out.alloc o).mb
     have HJE:Hid (∀ W o v' w4,Hid (NX w1 (num0 vs x) ma k mc ga j gc (x.subst.map (vAt vs)) ((x.pieces.map (gapS vs)).take j) W) -> w4.ownsRow (w1.heap.size + 1) 151 2 v' (j + 1) (pcRow ((x.pieces.map (gapS vs)).take j) ++ [I J z1,I J z2]) -> (W.alloc o).grownBy w4 (Value.slice ga j gc).ownBlock ->
      w4.cell? ⟨w1.heap.size,2,none⟩ = some (.slice ga j gc) /\ w4.frozen? ⟨w1.heap.size,2,none⟩ = false /\ Hid (∃ va' vc',v' = .slice va' (j + 1) vc' /\ NX w1 (num0 vs x) ma k mc va' (j + 1) vc' (x.subst.map (vAt vs)) ((x.pieces.map (gapS vs)).take (j + 1)) (w4.setCell ⟨w1.heap.size,2,none⟩ v'))):=by
      intro W o v' w4 hW ho hg
      rw [HT.out]
      exact (hW.out.alloc o).addG ho hg
     have HNw:Hid (∀ (i:Nat) (u:Value),[Value.int .i64 z1,I J z2][i]? = some u -> ((wr.alloc (.cells #[I J (q1:Int),I J (q2:Int)] 150)).alloc (.cells #[I J z1,I J z2] 151)).drew.cell? ((⟨wr.heap.size + 1,0,none⟩:Addr).add i) = some u):=by
      intro i u hu
      have:=cells_new (wr.alloc (.cells #[I J (q1:Int),I J (q2:Int)] 150)) [I J z1,I J z2] 151 i u hu
      rw [show (wr.alloc (.cells #[I J (q1:Int),I J (q2:Int)] 150)).heap.size = wr.heap.size + 1 by simp] at this
      exact this
     have HN1:Hid (∀ u ∈ [Value.int .i64 z1,I J z2],u.oneCell' = true):=by
      intro u hu
      simp at hu
      rcases hu with rfl | rfl <;> rfl
     have HLt:Hid (gv < w1.heap.size):=by have:=World.block_lt_of_cell? w1 _ cv1; exact this
     clear hF HT cv1 cv2 cp1 cp2 HXc
     have HSd:(fun W:World=>W.cell? ⟨w1.heap.size,2,none⟩ = some (.slice ga j gc) /\ W.cell? ⟨gv,ov + q1,none⟩ = some (I J z1) /\ W.cell? ⟨gv,ov + q2,none⟩ = some (I J z2) /\ W.cell? ⟨wr.heap.size,0,none⟩ = some (I J (q1:Int)) /\ W.cell? ⟨wr.heap.size,1,none⟩ = some (I J (q2:Int))) (wr.alloc (.cells #[I J (q1:Int),I J (q2:Int)] 150)).drew:=⟨x1d,x2d,x3d,y1d,y2d⟩
     have HSo:(fun W:World=>W.cell? ⟨w1.heap.size,2,none⟩ = some (.slice ga j gc) /\ W.cell? ⟨gv,ov + q1,none⟩ = some (I J z1) /\ W.cell? ⟨gv,ov + q2,none⟩ = some (I J z2) /\ W.cell? ⟨wr.heap.size,0,none⟩ = some (I J (q1:Int)) /\ W.cell? ⟨wr.heap.size,1,none⟩ = some (I J (q2:Int))) ((wr.alloc (.cells #[I J (q1:Int),I J (q2:Int)] 150)).alloc (.cells #[I J z1,I J z2] 151)).drew:=⟨x1o _,x2o _,x3o _,y1o _,y2o _⟩
     have hgv:gv < w1.heap.size:=HLt.out
     have HS4:Hid (∀ w4,((wr.alloc (.cells #[I J (q1:Int),I J (q2:Int)] 150)).alloc (.cells #[I J z1,I J z2] 151)).drew.grownBy w4 (Value.slice ga j gc).ownBlock -> (fun W:World=>W.cell? ⟨w1.heap.size,2,none⟩ = some (.slice ga j gc) /\ W.cell? ⟨gv,ov + q1,none⟩ = some (I J z1) /\ W.cell? ⟨gv,ov + q2,none⟩ = some (I J z2) /\ W.cell? ⟨wr.heap.size,0,none⟩ = some (I J (q1:Int)) /\ W.cell? ⟨wr.heap.size,1,none⟩ = some (I J (q2:Int))) w4):=by
      intro w4 hg
      have hrow:=owned_from HX.out.gp
      have hlt:=fun q hq=>(HX.out.gp.lt q hq).2
      refine ⟨hg.cell HSo.1 (fun e=>by have:=hrow _ e.symm; simp at this; omega),hg.cell HSo.2.1 (fun e=>by have:=hrow _ e.symm; simp at this; omega),hg.cell HSo.2.2.1 (fun e=>by have:=hrow _ e.symm; simp at this; omega),hg.cell HSo.2.2.2.1 (fun e=>by have:=hlt _ e.symm; simp at this),hg.cell HSo.2.2.2.2 (fun e=>by have:=hlt _ e.symm; simp at this)⟩
     clear x1o x2o x3o y1o y2o
     go_wp2_with fail
     refine wp_region_Y (fun j=>decide (j = 16)) (fun W:World=>W.cell? ⟨w1.heap.size,2,none⟩ = some (.slice ga j gc) /\ W.cell? ⟨gv,ov + q1,none⟩ = some (I J z1) /\ W.cell? ⟨gv,ov + q2,none⟩ = some (I J z2) /\ W.cell? ⟨wr.heap.size,0,none⟩ = some (I J (q1:Int)) /\ W.cell? ⟨wr.heap.size,1,none⟩ = some (I J (q2:Int))) (by kernel_rfl) ?_
     refine wpAnyY_takeD (i:=0) 66 (v:=.pointer (some ⟨w1.heap.size,2,none⟩)) rfl rfl (by kernel_rfl) (by kernel_rfl) (fun j hj=>by obtain rfl:=of_decide_eq_true hj; kernel_rfl) (by kernel_rfl) (by kernel_rfl) (fun _ _ _ h=>h) HSd (Or.inl ⟨by rfl,by (intro W hW; have s0:=hW.1; have s1:=hW.2.1; have s2:=hW.2.2.1; have s3:=hW.2.2.2.1; have s4:=hW.2.2.2.2; clear hW; go_simp)⟩) ?_
     simp only [Act.put,lA,lB,lC]
     refine wpAnyY_takeD (i:=1) 67 (v:=.slice ga j gc) rfl rfl (by kernel_rfl) (by kernel_rfl) (fun j hj=>by obtain rfl:=of_decide_eq_true hj; kernel_rfl) (by kernel_rfl) (by kernel_rfl) (fun _ _ _ h=>h) HSd (Or.inl ⟨by rfl,by (intro W hW; have s0:=hW.1; have s1:=hW.2.1; have s2:=hW.2.2.1; have s3:=hW.2.2.2.1; have s4:=hW.2.2.2.2; clear hW; go_simp)⟩) ?_
     simp only [Act.put,lA,lB,lC]
     refine wpAnyY_takeD (i:=2) 68 (v:=.slice (some ⟨gv,ov,none⟩) vn vc) rfl rfl (by kernel_rfl) (by kernel_rfl) (fun j hj=>by obtain rfl:=of_decide_eq_true hj; kernel_rfl) (by kernel_rfl) (by kernel_rfl) (fun _ _ _ h=>h) HSd (Or.inl ⟨by rfl,by (intro W hW; have s0:=hW.1; have s1:=hW.2.1; have s2:=hW.2.2.1; have s3:=hW.2.2.2.1; have s4:=hW.2.2.2.2; clear hW; go_simp)⟩) ?_
     simp only [Act.put,lA,lB,lC]
     refine wpAnyY_takeD (i:=3) 69 (v:=.pointer (some ⟨wr.heap.size,0,none⟩)) rfl rfl (by kernel_rfl) (by kernel_rfl) (fun j hj=>by obtain rfl:=of_decide_eq_true hj; kernel_rfl) (by kernel_rfl) (by kernel_rfl) (fun _ _ _ h=>h) HSd (Or.inl ⟨by rfl,by (intro W hW; have s0:=hW.1; have s1:=hW.2.1; have s2:=hW.2.2.1; have s3:=hW.2.2.2.1; have s4:=hW.2.2.2.2; clear hW; go_simp)⟩) ?_
     simp only [Act.put,lA,lB,lC]
     refine wpAnyY_takeD (i:=4) 70 (v:=I J (q1:Int)) rfl rfl (by kernel_rfl) (by kernel_rfl) (fun j hj=>by obtain rfl:=of_decide_eq_true hj; kernel_rfl) (by kernel_rfl) (by kernel_rfl) (fun _ _ _ h=>h) HSd (Or.inl ⟨by rfl,by (intro W hW; have s0:=hW.1; have s1:=hW.2.1; have s2:=hW.2.2.1; have s3:=hW.2.2.2.1; have s4:=hW.2.2.2.2; clear hW; go_simp)⟩) ?_
     simp only [Act.put,lA,lB,lC]
     refine wpAnyY_takeD (i:=5) 71 (v:=.pointer (some ⟨gv,ov + q1,none⟩)) rfl rfl (by kernel_rfl) (by kernel_rfl) (fun j hj=>by obtain rfl:=of_decide_eq_true hj; kernel_rfl) (by kernel_rfl) (by kernel_rfl) (fun _ _ _ h=>h) HSd (Or.inl ⟨by rfl,by (intro W hW; have s0:=hW.1; have s1:=hW.2.1; have s2:=hW.2.2.1; have s3:=hW.2.2.2.1; have s4:=hW.2.2.2.2; clear hW; go_simp)⟩) ?_
     simp only [Act.put,lA,lB,lC]
     refine wpAnyY_takeD (i:=6) 72 (v:=I J z1) rfl rfl (by kernel_rfl) (by kernel_rfl) (fun j hj=>by obtain rfl:=of_decide_eq_true hj; kernel_rfl) (by kernel_rfl) (by kernel_rfl) (fun _ _ _ h=>h) HSd (Or.inl ⟨by rfl,by (intro W hW; have s0:=hW.1; have s1:=hW.2.1; have s2:=hW.2.2.1; have s3:=hW.2.2.2.1; have s4:=hW.2.2.2.2; clear hW; go_simp)⟩) ?_
     simp only [Act.put,lA,lB,lC]
     refine wpAnyY_takeD (i:=7) 73 (v:=.slice (some ⟨gv,ov,none⟩) vn vc) rfl rfl (by kernel_rfl) (by kernel_rfl) (fun j hj=>by obtain rfl:=of_decide_eq_true hj; kernel_rfl) (by kernel_rfl) (by kernel_rfl) (fun _ _ _ h=>h) HSd (Or.inl ⟨by rfl,by (intro W hW; have s0:=hW.1; have s1:=hW.2.1; have s2:=hW.2.2.1; have s3:=hW.2.2.2.1; have s4:=hW.2.2.2.2; clear hW; go_simp)⟩) ?_
     simp only [Act.put,lA,lB,lC]
     refine wpAnyY_takeD (i:=8) 74 (v:=.pointer (some ⟨wr.heap.size,1,none⟩)) rfl rfl (by kernel_rfl) (by kernel_rfl) (fun j hj=>by obtain rfl:=of_decide_eq_true hj; kernel_rfl) (by kernel_rfl) (by kernel_rfl) (fun _ _ _ h=>h) HSd (Or.inl ⟨by rfl,by (intro W hW; have s0:=hW.1; have s1:=hW.2.1; have s2:=hW.2.2.1; have s3:=hW.2.2.2.1; have s4:=hW.2.2.2.2; clear hW; go_simp)⟩) ?_
     simp only [Act.put,lA,lB,lC]
     refine wpAnyY_takeD (i:=9) 75 (v:=I J (q2:Int)) rfl rfl (by kernel_rfl) (by kernel_rfl) (fun j hj=>by obtain rfl:=of_decide_eq_true hj; kernel_rfl) (by kernel_rfl) (by kernel_rfl) (fun _ _ _ h=>h) HSd (Or.inl ⟨by rfl,by (intro W hW; have s0:=hW.1; have s1:=hW.2.1; have s2:=hW.2.2.1; have s3:=hW.2.2.2.1; have s4:=hW.2.2.2.2; clear hW; go_simp)⟩) ?_
     simp only [Act.put,lA,lB,lC]
     refine wpAnyY_takeD (i:=10) 76 (v:=.pointer (some ⟨gv,ov + q2,none⟩)) rfl rfl (by kernel_rfl) (by kernel_rfl) (fun j hj=>by obtain rfl:=of_decide_eq_true hj; kernel_rfl) (by kernel_rfl) (by kernel_rfl) (fun _ _ _ h=>h) HSd (Or.inl ⟨by rfl,by (intro W hW; have s0:=hW.1; have s1:=hW.2.1; have s2:=hW.2.2.1; have s3:=hW.2.2.2.1; have s4:=hW.2.2.2.2; clear hW; go_simp)⟩) ?_
     simp only [Act.put,lA,lB,lC]
     refine wpAnyY_takeD (i:=11) 77 (v:=I J z2) rfl rfl (by kernel_rfl) (by kernel_rfl) (fun j hj=>by obtain rfl:=of_decide_eq_true hj; kernel_rfl) (by kernel_rfl) (by kernel_rfl) (fun _ _ _ h=>h) HSd (Or.inl ⟨by rfl,by (intro W hW; have s0:=hW.1; have s1:=hW.2.1; have s2:=hW.2.2.1; have s3:=hW.2.2.2.1; have s4:=hW.2.2.2.2; clear hW; go_simp)⟩) ?_
     simp only [Act.put,lA,lB,lC]
     refine wpAnyY_takeD (i:=12) 78 (v:=.agg #[I J z1,I J z2]) rfl rfl (by kernel_rfl) (by kernel_rfl) (fun j hj=>by obtain rfl:=of_decide_eq_true hj; kernel_rfl) (by kernel_rfl) (by kernel_rfl) (fun _ _ _ h=>h) HSd (Or.inl ⟨by rfl,by (intro W hW; have s0:=hW.1; have s1:=hW.2.1; have s2:=hW.2.2.1; have s3:=hW.2.2.2.1; have s4:=hW.2.2.2.2; clear hW; go_simp)⟩) ?_
     simp only [Act.put,lA,lB,lC]
     refine wpAnyY_one (i:=13) rfl (by kernel_rfl) (fun K hK=>?_)
     go_simp
     refine hK.out _ _ (fun _=>HSo) ?_
     clear hK K
     refine wpAnyY_one (i:=14) rfl (by kernel_rfl) (fun K hK=>?_)
     refine step_append_own rfl (.tmp 67) (.tmp 79) 92 rfl (w1.heap.size + 1) 151 i81 _ 2 16 Tryz.underlying92 hi81 hz810 hz811 hz812 rfl (by decide) _ _ _ (by simp [Act.eval]) (HJO.out (wr.alloc (.cells #[I J (q1:Int),I J (q2:Int)] 150)).drew (.cells #[I J z1,I J z2] 151) HJd) ⟨wr.heap.size + 1,0,none⟩ 1 1 [I J z1,I J z2] (by simp [Act.eval]) rfl (HNw.out) HN1.out (by unfold maxLen; omega) (by omega) (HJS.out (wr.alloc (.cells #[I J (q1:Int),I J (q2:Int)] 150)).drew (.cells #[I J z1,I J z2] 151) HJd) ?_
     intro v' w4 ho hg
     have hs4:=HS4.out w4 hg
     obtain ⟨k1,k2,k3⟩:=HJE.out (wr.alloc (.cells #[I J (q1:Int),I J (q2:Int)] 150)).drew (.cells #[I J z1,I J z2] 151) _ _ HJd ho hg
     obtain ⟨ao2,cap2,rfl⟩:=owned_shape ho
     clear ho hg
     refine hK.out _ _ (fun _=>hs4) ?_
     clear hK K
     simp only [Act.put,List.setIfInBounds_toArray]
     refine wpAnyY_one (i:=15) rfl (by kernel_rfl) (fun K hK=>?_)
     go_simp
     refine hK.out _ _ (fun _=>hs4) ?_
     clear hK K
     refine wpAnyY_one (i:=16) rfl (by kernel_rfl) (fun K hK=>?_)
     go_simp
     refine hK.out _ _ (fun h=>absurd h (by decide)) ?_
     clear hK K
     refine wpAnyY_done (by kernel_rfl) ?_ _
     all_goals (
      have HK3:Hid (NX w1 (num0 vs x) ma k mc ao2 (j + 1) cap2 (x.subst.map (vAt vs)) ((x.pieces.map (gapS vs)).take (j + 1)) (w4.setCell ⟨w1.heap.size,2,none⟩ (.slice ao2 (j + 1) cap2))):=by
       obtain ⟨va',vc',q3,q4⟩:=k3.out
       cases q3
       exact q4
      clear k3 x4 x5 x1d x2d x3d y1d y2d HJO HJS HJE HJd HX HNw HN1 HSd HSo HS4 HLt hgv hs4)
     all_goals (
      go_wp2
      go_roundw
      case rel=>exact ⟨j + 1,ao2,cap2,by omega,by go_num,HK3.out⟩
      case measure=>simp [intOf]; omega)
    ·have hjg:j = pn:=by omega
     subst hjg
     have HX7:Hid (NX w1 (num0 vs x) ma k mc ga j gc (x.subst.map (vAt vs)) (x.pieces.map (gapS vs)) wr):=by
      have:=HX.out
      rw [List.take_of_length_le (by rw [List.length_map,HPc.out.length]; omega)] at this
      exact this
     clear HX
     cases hbd:x.banded
     ·have c5:wr.cell? ⟨w.heap.size,5,none⟩ = some (.bool false):=by
       have:w1.cell? ⟨w.heap.size,5,none⟩ = some (.bool x.banded):=blk HB.out.box rfl
       rw [hbd] at this
       rw [HX7.out.bel.cell (World.block_lt_of_cell? w1 _ this)]; exact this
      have HEq:Hid (moCells (numS vs x) ma k mc ga j gc = moCells (num0 vs x) ma k mc ga j gc):=by
       show moCells _ _ _ _ _ _ _ = _
       unfold moCells numS num0
       rw [hbd]
       rfl
      clear hbd
      generalize num0 vs x = M at *
      have HBr:Hid (B5 w (scCells x da dn dc sa k sc pa j pc) wr):=HB.out.next HX7.out.bel
      have r0:wr.cell? ⟨w.heap.size + 1,0,none⟩ = some (I J 0):=blk HBr.out.res rfl
      have r1:wr.cell? ⟨w.heap.size + 1,1,none⟩ = some (.slice none 0 0):=blk HBr.out.res rfl
      have r2:wr.cell? ⟨w.heap.size + 1,2,none⟩ = some (.slice none 0 0):=blk HBr.out.res rfl
      have r3:wr.cell? ⟨w.heap.size + 1,3,none⟩ = some (I J 0):=blk HBr.out.res rfl
      have r4:wr.cell? ⟨w.heap.size + 1,4,none⟩ = some (.bool false):=blk HBr.out.res rfl
      have r5:wr.cell? ⟨w.heap.size + 1,5,none⟩ = some (I J 0):=blk HBr.out.res rfl
      have r6:wr.cell? ⟨w.heap.size + 1,6,none⟩ = some (I J 0):=blk HBr.out.res rfl
      have r7:wr.cell? ⟨w.heap.size + 1,7,none⟩ = some (I J 0):=blk HBr.out.res rfl
      have r8:wr.cell? ⟨w.heap.size + 1,8,none⟩ = some (I J 0):=blk HBr.out.res rfl
      have r9:wr.cell? ⟨w.heap.size + 1,9,none⟩ = some (I J 0):=blk HBr.out.res rfl
      have rf:∀ i,wr.frozen? ⟨w.heap.size + 1,i,none⟩ = false:=fun i=>blkf i HBr.out.res
      have y0:wr.cell? ⟨w1.heap.size,0,none⟩ = some (I J M.letters):=blk HX7.out.mb rfl
      have y1:wr.cell? ⟨w1.heap.size,1,none⟩ = some (.slice ma k mc):=blk HX7.out.mb rfl
      have y2:wr.cell? ⟨w1.heap.size,2,none⟩ = some (.slice ga j gc):=blk HX7.out.mb rfl
      have y3:wr.cell? ⟨w1.heap.size,3,none⟩ = some (I J M.mode):=blk HX7.out.mb rfl
      have y4:wr.cell? ⟨w1.heap.size,4,none⟩ = some (.bool M.banded):=blk HX7.out.mb rfl
      have y5:wr.cell? ⟨w1.heap.size,5,none⟩ = some (I J M.lo):=blk HX7.out.mb rfl
      have y6:wr.cell? ⟨w1.heap.size,6,none⟩ = some (I J M.hi):=blk HX7.out.mb rfl
      have y7:wr.cell? ⟨w1.heap.size,7,none⟩ = some (I J M.front):=blk HX7.out.mb rfl
      have y8:wr.cell? ⟨w1.heap.size,8,none⟩ = some (I J M.back):=blk HX7.out.mb rfl
      have y9:wr.cell? ⟨w1.heap.size,9,none⟩ = some (I J M.least):=blk HX7.out.mb rfl
      have hbm:w.heap.size + 1 < w1.heap.size:=lt_block HB.out.res
      go_wp2
      refine bodyPost_ret (v:=.tuple #[.agg (moCells (numS vs x) ma k mc ga j gc),I J 0]) ?_ rfl ?_
      ·rw [HEq.out]
       unfold moCells
       simp only [results,hres]
       go_simp
      ·show NumPost _ _ _ _
       unfold NumPost
       rw [HVs.out.1,if_pos rfl,HVs.out.2]
       exact ⟨ma,k,mc,ga,j,gc,rfl,below_ten HBr.out.low _ _ _ _ _ _ _ _ _ _,HSu.out.length.symm,HPc.out.length.symm,own_zero (own_ten HX7.out.su (by omega) _ _ _ _ _ _ _ _ _ _),own_zero (own_ten HX7.out.gp (by omega) _ _ _ _ _ _ _ _ _ _)⟩
     ·obtain ⟨plo,phi,_⟩:=HQ.out.band hbd
      obtain ⟨qlo,elo,llo,_⟩:=placeB_out plo
      obtain ⟨qhi,ehi,lhi,_⟩:=placeB_out phi
      obtain ⟨_,_,e2,cvl⟩:=HV.out.isI qlo _ (vAt_get llo)
      cases e2
      obtain ⟨_,_,e2,cvh⟩:=HV.out.isI qhi _ (vAt_get lhi)
      cases e2
      have kl:qlo < vn:=by rw [<- HVL.out]; exact llo
      have kh:qhi < vn:=by rw [<- HVL.out]; exact lhi
      have HEq:Hid (moCells (numS vs x) ma k mc ga j gc = moCells { num0 vs x with lo:=vAt vs (qlo:Int),hi:=vAt vs (qhi:Int) } ma k mc ga j gc):=by
       show moCells _ _ _ _ _ _ _ = _
       unfold moCells numS num0
       rw [hbd,elo,ehi]
       rfl
      have hF:∀ W,Below w1.heap.size w1 W -> W.cell? ⟨w.heap.size,5,none⟩ = some (.bool true) /\ W.cell? ⟨w.heap.size,6,none⟩ = some (I J (qlo:Int)) /\ W.cell? ⟨w.heap.size,7,none⟩ = some (I J (qhi:Int)) /\ W.cell? ⟨gv,ov + qlo,none⟩ = some (I J (vAt vs (qlo:Int))) /\ W.cell? ⟨gv,ov + qhi,none⟩ = some (I J (vAt vs (qhi:Int))):=by
       intro W hW
       have t5:w1.cell? ⟨w.heap.size,5,none⟩ = some (.bool x.banded):=blk HB.out.box rfl
       have t6:w1.cell? ⟨w.heap.size,6,none⟩ = some (I J x.lo):=blk HB.out.box rfl
       have t7:w1.cell? ⟨w.heap.size,7,none⟩ = some (I J x.hi):=blk HB.out.box rfl
       rw [hbd] at t5
       rw [elo] at t6
       rw [ehi] at t7
       refine ⟨?_,?_,?_,?_,?_⟩
       ·rw [hW.cell (World.block_lt_of_cell? w1 _ t5)]; exact t5
       ·rw [hW.cell (World.block_lt_of_cell? w1 _ t6)]; exact t6
       ·rw [hW.cell (World.block_lt_of_cell? w1 _ t7)]; exact t7
       ·rw [hW.cell (World.block_lt_of_cell? w1 _ cvl)]; exact cvl
       ·rw [hW.cell (World.block_lt_of_cell? w1 _ cvh)]; exact cvh
      clear hbd elo ehi llo lhi cvl cvh plo phi
      generalize vAt vs (qlo:Int) = zl at *
      generalize vAt vs (qhi:Int) = zh at *
      generalize num0 vs x = M at *
      obtain ⟨c5,f1,f2,f3,f4⟩:=hF _ HX7.out.bel
      obtain ⟨_,g1,g2,g3,g4⟩:=hF _ HX7.out.bel.drew
      have f5:wr.cell? ⟨w1.heap.size,5,none⟩ = some (I J M.lo):=blk HX7.out.mb rfl
      have f6:wr.cell? ⟨w1.heap.size,6,none⟩ = some (I J M.hi):=blk HX7.out.mb rfl
      have ff:∀ i,wr.frozen? ⟨w1.heap.size,i,none⟩ = false:=fun i=>blkf i HX7.out.mb
      have HX7a:Hid (NX w1 { M with lo:=zl } ma k mc ga j gc (x.subst.map (vAt vs)) (x.pieces.map (gapS vs)) (wr.setCell ⟨w1.heap.size,5,none⟩ (I J zl))):=HX7.out.put rfl
      have HX7b:Hid (NX w1 { M with lo:=zl,hi:=zh } ma k mc ga j gc (x.subst.map (vAt vs)) (x.pieces.map (gapS vs)) ((wr.setCell ⟨w1.heap.size,5,none⟩ (I J zl)).setCell ⟨w1.heap.size,6,none⟩ (I J zh))):=HX7a.out.put rfl
      have HF:Hid (∀ W,Below w1.heap.size w1 W -> (W.cell? ⟨w.heap.size,6,none⟩ = some (I J (qlo:Int)) /\ W.cell? ⟨w.heap.size,7,none⟩ = some (I J (qhi:Int)) /\ W.cell? ⟨gv,ov + qlo,none⟩ = some (I J zl) /\ W.cell? ⟨gv,ov + qhi,none⟩ = some (I J zh))):=fun W hW=>(hF W hW).2
      have HP:Hid (∀ W i v,Below w1.heap.size w1 W -> Below w1.heap.size w1 (W.setCell ⟨w1.heap.size,i,none⟩ v)):=fun W i v hW=>hW.setCell (p:=⟨w1.heap.size,i,none⟩) (Nat.le_refl _) v
      have HBl:Hid (Below w1.heap.size w1 wr):=HX7.out.bel
      clear hF HX7a
      go_wp2_with fail
      go_region_held3 (fun W=>W.cell? ⟨w.heap.size,6,none⟩ = some (I J (qlo:Int)) /\ W.cell? ⟨w.heap.size,7,none⟩ = some (I J (qhi:Int)) /\ W.cell? ⟨gv,ov + qlo,none⟩ = some (I J zl) /\ W.cell? ⟨gv,ov + qhi,none⟩ = some (I J zh)) (first | with_reducible assumption | exact ⟨f1,f2,f3,f4⟩ | exact ⟨g1,g2,g3,g4⟩ | exact HF.out _ (HP.out _ _ _ HBl.out) | exact HF.out _ (HP.out _ _ _ HBl.out.drew) | exact HF.out _ (HP.out _ _ _ HBl.out).drew | exact HF.out _ (HP.out _ _ _ (HP.out _ _ _ HBl.out)) | exact HF.out _ (HP.out _ _ _ (HP.out _ _ _ HBl.out.drew)) | exact HF.out _ (HP.out _ _ _ (HP.out _ _ _ HBl.out)).drew) (fail)
      have HX8:Hid (NX w1 { M with lo:=zl,hi:=zh } ma k mc ga j gc (x.subst.map (vAt vs)) (x.pieces.map (gapS vs)) ((wr.setCell ⟨w1.heap.size,5,none⟩ (I J zl)).setCell ⟨w1.heap.size,6,none⟩ (I J zh)).drew):=HX7b.out.drew
      clear HX7b HX7 HF HP HBl c5 f1 f2 f3 f4 f5 f6 ff g1 g2 g3 g4
      generalize ((wr.setCell ⟨w1.heap.size,5,none⟩ (I J zl)).setCell ⟨w1.heap.size,6,none⟩ (I J zh)).drew = w5 at *
      generalize ({ M with lo:=zl,hi:=zh }:Mo) = M2 at *
      have HBr:Hid (B5 w (scCells x da dn dc sa k sc pa j pc) w5):=HB.out.next HX8.out.bel
      have r0:w5.cell? ⟨w.heap.size + 1,0,none⟩ = some (I J 0):=blk HBr.out.res rfl
      have r1:w5.cell? ⟨w.heap.size + 1,1,none⟩ = some (.slice none 0 0):=blk HBr.out.res rfl
      have r2:w5.cell? ⟨w.heap.size + 1,2,none⟩ = some (.slice none 0 0):=blk HBr.out.res rfl
      have r3:w5.cell? ⟨w.heap.size + 1,3,none⟩ = some (I J 0):=blk HBr.out.res rfl
      have r4:w5.cell? ⟨w.heap.size + 1,4,none⟩ = some (.bool false):=blk HBr.out.res rfl
      have r5:w5.cell? ⟨w.heap.size + 1,5,none⟩ = some (I J 0):=blk HBr.out.res rfl
      have r6:w5.cell? ⟨w.heap.size + 1,6,none⟩ = some (I J 0):=blk HBr.out.res rfl
      have r7:w5.cell? ⟨w.heap.size + 1,7,none⟩ = some (I J 0):=blk HBr.out.res rfl
      have r8:w5.cell? ⟨w.heap.size + 1,8,none⟩ = some (I J 0):=blk HBr.out.res rfl
      have r9:w5.cell? ⟨w.heap.size + 1,9,none⟩ = some (I J 0):=blk HBr.out.res rfl
      have rf:∀ i,w5.frozen? ⟨w.heap.size + 1,i,none⟩ = false:=fun i=>blkf i HBr.out.res
      have y0:w5.cell? ⟨w1.heap.size,0,none⟩ = some (I J M2.letters):=blk HX8.out.mb rfl
      have y1:w5.cell? ⟨w1.heap.size,1,none⟩ = some (.slice ma k mc):=blk HX8.out.mb rfl
      have y2:w5.cell? ⟨w1.heap.size,2,none⟩ = some (.slice ga j gc):=blk HX8.out.mb rfl
      have y3:w5.cell? ⟨w1.heap.size,3,none⟩ = some (I J M2.mode):=blk HX8.out.mb rfl
      have y4:w5.cell? ⟨w1.heap.size,4,none⟩ = some (.bool M2.banded):=blk HX8.out.mb rfl
      have y5:w5.cell? ⟨w1.heap.size,5,none⟩ = some (I J M2.lo):=blk HX8.out.mb rfl
      have y6:w5.cell? ⟨w1.heap.size,6,none⟩ = some (I J M2.hi):=blk HX8.out.mb rfl
      have y7:w5.cell? ⟨w1.heap.size,7,none⟩ = some (I J M2.front):=blk HX8.out.mb rfl
      have y8:w5.cell? ⟨w1.heap.size,8,none⟩ = some (I J M2.back):=blk HX8.out.mb rfl
      have y9:w5.cell? ⟨w1.heap.size,9,none⟩ = some (I J M2.least):=blk HX8.out.mb rfl
      have hbm:w.heap.size + 1 < w1.heap.size:=lt_block HB.out.res
      go_wp2
      refine bodyPost_ret (v:=.tuple #[.agg (moCells (numS vs x) ma k mc ga j gc),I J 0]) ?_ rfl ?_
      ·rw [HEq.out]
       unfold moCells
       simp only [results,hres]
       go_simp
      ·show NumPost _ _ _ _
       unfold NumPost
       rw [HVs.out.1,if_pos rfl,HVs.out.2]
       exact ⟨ma,k,mc,ga,j,gc,rfl,below_ten HBr.out.low _ _ _ _ _ _ _ _ _ _,HSu.out.length.symm,HPc.out.length.symm,own_zero (own_ten HX8.out.su (by omega) _ _ _ _ _ _ _ _ _ _),own_zero (own_ten HX8.out.gp (by omega) _ _ _ _ _ _ _ _ _ _)⟩
theorem numbers_calls (x:Sc) (da:Option Addr) (dn dc:Nat) (sa:Option Addr) (sn sc:Nat) (pa:Option Addr) (pn pc:Nat) (w:World) (h:ScAt w x da dn sa sn pa pn) :
 Calls Tryz.prog 30 #[.agg (scCells x da dn dc sa sn sc pa pn pc)] w fun e w'=>NumPost x w e w':=by
 cases hr:rightS x
 ·exact numbers_no x da dn dc sa sn sc pa pn pc w h hr
 ·exact numbers_yes x da dn dc sa sn sc pa pn pc w h hr
end Go.Proofs.YtbbbnopganhebabGreat
