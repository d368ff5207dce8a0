/-
  What a pair of letters is worth: pair. And what follows.
-/
import Derived.Lib.IndexLaws
import Derived.Test.YtbbbnopganhebabGreatG41
import Derived.Test.YtbbbnopganhebabGreatG15
import Derived.Test.YtbbbnopganhebabGreatG32
namespace Go.Proofs.YtbbbnopganhebabGreat
open Go.RowKit Go.Deep Go.Maps
open Go.Value renaming int->I
open Go.IntKind renaming i64->J
/-- A place of the table is set. -/
theorem CkAt.setAt {O:Nat -> Prop} {b:Nat} {s:Sl} {c:Ck} {w:World} (h:CkAt O b s c w) {g n cap i:Nat} (hs:s.sv = .slice (some ⟨g,0,none⟩) n cap) (hi:i < c.subst.length) (p:Int) :
 O g /\ w.cell? ⟨g,i,none⟩ = some (I J (c.subst.getD i 0)) /\ w.frozen? ⟨g,i,none⟩ = false /\ CkAt O b s { c with subst:=c.subst.set i p } (w.setCell ⟨g,i,none⟩ (I J p)):=by
 have hrow:=h.subst
 rw [hs] at hrow
 have hn:n = c.subst.length:=by
  rcases hrow.2 with ⟨h1,_⟩ | ⟨_,_,_,h1,_⟩
  ·cases h1
  ·cases h1; rfl
 subst hn
 have hget:(itRow c.subst)[i]? = some (I J (c.subst.getD i 0)):=by
  simp [itRow,hi,List.getD]
 obtain ⟨h1,h2⟩:=owned_cells hrow i _ hget
 have hg:s.sv.ownBlock = some g:=by rw [hs]; rfl
 have hne:∀ q,q ≠ g -> (w.setCell ⟨g,i,none⟩ (I J p)).heap[q]? = w.heap[q]?:=fun q hq=>Below.heap_setCell w _ _ q hq
 have hb:b ≠ g:=fun e=>own_ne h.subst h.block (by decide) (e ▸ hg)
 refine ⟨h.inS g hg,h1,h2,by rw [hne b hb]; exact h.block,?_,?_,?_,?_,?_,h.apart,h.inB,h.inD,h.inS,h.inP,h.inV,h.inM⟩
 ·exact owned_of_block h.defs fun q _ hv _=>hne q (fun e=>own_two h.defs h.subst (by decide) q hv (e ▸ hg))
 ·rw [hs]
  have:=owned_set hrow i (I J p)
  rw [show (itRow c.subst).set i (I J p) = itRow (c.subst.set i p) by simp [itRow,List.map_set]] at this
  rw [List.length_set]; exact this
 ·exact owned_of_block h.pieces fun q _ hv _=>hne q (fun e=>own_two h.pieces h.subst (by decide) q hv (e ▸ hg))
 ·exact owned_of_block h.values fun q _ hv _=>hne q (fun e=>h.apart g hg (e ▸ hv))
 ·exact h.names.keep (hne _ (fun e=>own_nm h.subst h.names (e ▸ hg)))
def faultOf (r:Er Ck):Int × Int:=match r with | .error f=>f | .ok _=>(0,0)
theorem TPost.val {O:Nat -> Prop} {b:Nat} {w:World} {r:Er Ck} {e:Ending} {w':World} (h:TPost O b w r e w'):e = .returned (.agg #[I J (faultOf r).1,I J (faultOf r).2]) /\ Fr O w w':=by
 cases r with
 | error f=>exact ⟨h.2.1,h.2.2⟩
 | ok c=>exact ⟨h.1,h.2.1⟩
theorem TPost.lift {O O2:Nat -> Prop} {b:Nat} {w W:World} {r:Er Ck} {e:Ending} {w':World} (h:TPost O2 b W r e w') (hf:Fr O w W) (hn:∀ g,O2 g -> O g \/ w.heap.size <= g) {R:Nat} (hR:¬ O2 R) (hR1:w.heap.size <= R) (hR2:R < W.heap.size) (u v:Value) :
 TPost O b w r e ((w'.setCell ⟨R,0,none⟩ u).setCell ⟨R,1,none⟩ v):=by
 cases r with
 | error f=>exact ⟨h.1,h.2.1,((hf.trans h.2.2 hn).setCell (.inr hR1) _ _).setCell (.inr hR1) _ _⟩
 | ok c=>
   obtain ⟨h1,h2,O',s',hO,hck⟩:=h
   have hR':¬ O' R:=fun ho=>by
    rcases hO R ho with h3 | h3
    ·exact hR h3
    ·omega
   refine ⟨h1,((hf.trans h2 hn).setCell (.inr hR1) _ _).setCell (.inr hR1) _ _,O',s',fun g hg=>?_,ck_set (ck_set hck hR' _ _) hR' _ _⟩
   rcases hO g hg with h3 | h3
   ·exact hn g h3
   ·exact .inr (by have:=hf.size; omega)
set_option maxRecDepth 20000
set_option maxHeartbeats 4000000
theorem fillGo_get (n:Nat) (mat mis:Int):∀ (l:List Int) (k j:Nat),(fillGo n mat mis k l)[j]? = l[j]?.map (fun p=>if p ≠ -1 then p else if (k + j) / n = (k + j) % n then mat else mis)
 | [],k,j=>by simp [fillGo]
 | p :: r,k,0=>by simp [fillGo]
 | p :: r,k,j + 1=>by
   simp only [fillGo,List.getElem?_cons_succ]
   rw [fillGo_get n mat mis r (k + 1) j,show k + 1 + j = k + (j + 1) by omega]
theorem fillGo_len (n:Nat) (mat mis:Int):∀ (l:List Int) (k:Nat),(fillGo n mat mis k l).length = l.length
 | [],k=>by simp [fillGo]
 | p :: r,k=>by simp [fillGo,fillGo_len n mat mis r (k + 1)]
theorem fillB_len (c:Ck):(fillB c).length = c.subst.length:=fillGo_len _ _ _ _ _
theorem fillB_get (c:Ck) (j:Nat) (p:Int) (h:c.subst[j]? = some p):(fillB c)[j]? = some (if p ≠ -1 then p else if j / c.letters.length = j % c.letters.length then c.mat else c.mis):=by
 unfold fillB
 rw [fillGo_get,h,Nat.zero_add]; rfl
theorem wrap_few {k:Nat} (h:k <= 400):wrap64 (k:Int) = (k:Int):=by unfold wrap64; omega
def fillTo (c:Ck) (j:Nat):List Int:=(fillB c).take j ++ c.subst.drop j
theorem fillTo_len (c:Ck) (j:Nat):(fillTo c j).length = c.subst.length:=by
 have:=fillB_len c
 simp [fillTo]; omega
theorem fillTo_zero (c:Ck):fillTo c 0 = c.subst:=by simp [fillTo]
theorem fillTo_all (c:Ck) (j:Nat) (h:c.subst.length <= j):fillTo c j = fillB c:=by
 unfold fillTo
 rw [List.take_of_length_le (by rw [fillB_len]; exact h),List.drop_eq_nil_of_le h,List.append_nil]
theorem fillTo_get (c:Ck) (j:Nat) (p:Int) (h:c.subst[j]? = some p):(fillTo c j)[j]? = some p:=by
 have hj:=(List.getElem?_eq_some_iff.1 h).1
 have hl:((fillB c).take j).length = j:=by rw [List.length_take,fillB_len]; omega
 unfold fillTo
 rw [List.getElem?_append_right (by omega),hl,Nat.sub_self,List.getElem?_drop]
 exact h
theorem fillTo_set (c:Ck) (j:Nat) (p x:Int) (h:c.subst[j]? = some p) (hx:(fillB c)[j]? = some x):(fillTo c j).set j x = fillTo c (j + 1):=by
 have hj:=(List.getElem?_eq_some_iff.1 h).1
 have hl:((fillB c).take j).length = j:=by rw [List.length_take,fillB_len]; omega
 unfold fillTo
 rw [List.set_append,if_neg (by omega),hl,Nat.sub_self,List.drop_eq_getElem_cons hj,List.set_cons_zero,List.take_add_one,hx]
 simp
theorem fillTo_keep (c:Ck) (j:Nat) (p:Int) (h:c.subst[j]? = some p) (hp:p ≠ -1):fillTo c (j + 1) = fillTo c j:=by
 have hx:=fillB_get c j p h
 rw [if_pos hp] at hx
 rw [<- fillTo_set c j p p h hx]
 have hg:=fillTo_get c j p h
 obtain ⟨h1,h2⟩:=List.getElem?_eq_some_iff.1 hg
 rw [<- h2,List.set_getElem_self]
theorem score_calls {O:Nat -> Prop} {b:Nat} {s:Sl} {c:Ck} (w:World) (hck:CkAt O b s c w) (hok:CkOk c) (hne:c.letters ≠ []) :
 Calls Tryz.prog 99 #[.pointer (some ⟨b,0,none⟩)] w fun e w'=>e = .returned (.bool (decide (-1 ∉ fillB c))) /\ Hid (Fr O w w' /\ CkAt O b s { c with subst:=fillB c } w'):=by
 obtain ⟨hrl,hsl⟩:=hok.alpha hne
 have hlen:=right_few hrl
 obtain ⟨g,cap,hsv,-⟩:=owned_some hck.subst (by rw [hsl]; exact Nat.mul_pos (by omega) (by omega))
 obtain ⟨n,hn⟩:∃ n,n = c.subst.length:=⟨_,rfl⟩
 rw [<- hn] at hsv
 obtain ⟨bl,hbl⟩:∃ bl,bl = bs c.letters:=⟨_,rfl⟩
 have hbz:bl.size = c.letters.length:=by rw [hbl,bs_size]
 have hb2:2 <= bl.size:=by omega
 have hb20:bl.size <= 20:=by omega
 have hn4:n <= 400:=by rw [hn]; exact hok.sub
 have b0:w.cell? ⟨b,0,none⟩ = some (.string bl):=by rw [hbl]; exact hck.c0
 have b2:w.cell? ⟨b,2,none⟩ = some (.slice (some ⟨g,0,none⟩) n cap):=by rw [<- hsv]; exact hck.c2
 have HI:Hid (Fr O w w /\ CkAt O b s { c with subst:=fillTo c 0 } w):=⟨Fr.refl _ _,by rw [fillTo_zero]; exact hck⟩
 have HV:Hid (s.sv = .slice (some ⟨g,0,none⟩) n cap /\ n = c.subst.length /\ bl.size = c.letters.length):=⟨hsv,hn,hbz⟩
 clear hrl hsl hlen hsv hn hbl hbz hok hck
 go_enter Tryz.func99,Tryz.ntmps99
 go_wp2
 go_loopw [18] (fun iv wr=>∃ j:Nat,j <= n /\ iv = I J j /\ Hid (Fr O w wr /\ CkAt O b s { c with subst:=fillTo c j } wr)) (fun iv _=>n - (intOf iv).toNat)
 case atStart=>exact ⟨0,Nat.zero_le _,rfl,HI.out⟩
 case round=>
  clear HI b0 b2
  obtain ⟨j,hj,rfl,HJ⟩:=hrel
  by_cases hlt:j < n
  ·obtain ⟨p,hp⟩:∃ p,c.subst[j]? = some p:=⟨c.subst[j]'(by rw [<- HV.out.2.1]; exact hlt),List.getElem?_eq_getElem _⟩
   have HP:Hid (c.subst[j]? = some p):=hp
   have hset:=fun x=>HJ.out.2.setAt HV.out.1 (show j < (fillTo c j).length by rw [fillTo_len,<- HV.out.2.1]; exact hlt) x
   have hcell:wr.cell? ⟨g,j,none⟩ = some (I J p):=by
    have:=(hset 0).2.1
    rw [show (fillTo c j).getD j 0 = p by rw [List.getD,fillTo_get c j p hp]; rfl] at this
    exact this
   by_cases hp1:p = -1
   ·subst hp1
    have HX:Hid ((fillB c)[j]? = some (if j / c.letters.length = j % c.letters.length then c.mat else c.mis)):=by
     have:=fillB_get c j (-1) hp
     rw [if_neg (by simp)] at this; exact this
    by_cases hd:j / bl.size = j % bl.size
    ·have HQ:Hid ((wrap64 ((j:Int) / (bl.size:Int)) == (j:Int) % (bl.size:Int)) = true):=by
      show _ = _
      have e1:(j:Int) / (bl.size:Int) = ((j / bl.size:Nat):Int):=by simp
      have e2:(j:Int) % (bl.size:Int) = ((j % bl.size:Nat):Int):=by simp
      have e3:j / bl.size <= j:=Nat.div_le_self _ _
      have e4:wrap64 ((j / bl.size:Nat):Int) = ((j / bl.size:Nat):Int):=wrap_few (Nat.le_trans e3 (by omega))
      rw [e1,e2,e4]
      rw [hd]; simp
     go_wp2_with fail
     go_quiet (fail)
     rw [HQ.out]
     have HDn:Hid (Fr O w (wr.drewN nq).drew /\ CkAt O b s { c with subst:=fillTo c j } (wr.drewN nq).drew):=⟨(HJ.out.1.then_below (below_dn (Below.refl _ _) nq)).drew,(HJ.out.2.below (below_dn (Below.refl _ _) nq)).below (Below.refl _ _).drew⟩
     have HS0:Hid ((wr.drewN nq).drew.cell? ⟨b,2,none⟩ = some (.slice (some ⟨g,0,none⟩) n cap) /\ (wr.drewN nq).drew.cell? ⟨b,25,none⟩ = some (I J c.mat)):=⟨by rw [<- HV.out.1]; exact HDn.out.2.c2,HDn.out.2.c25⟩
     have hset':=HDn.out.2.setAt HV.out.1 (show j < (fillTo c j).length by rw [fillTo_len,<- HV.out.2.1]; exact hlt) c.mat
     rw [show ({ c with subst:=fillTo c j }:Ck).subst.set j c.mat = fillTo c (j + 1) from fillTo_set c j (-1) c.mat HP.out (by have:=HX.out; rw [<- HV.out.2.2] at this; rw [this,if_pos hd])] at hset'
     have HSE:Hid _:=hset'
     clear hset' hset hcell HJ HQ hp HX hd
     go_wp2_with fail
     refine wp_region_Y (fun j=>[11].contains j) (fun W=>W.cell? ⟨b,2,none⟩ = some (.slice (some ⟨g,0,none⟩) n cap) /\ W.cell? ⟨b,25,none⟩ = some (I J c.mat)) (by kernel_rfl) ?_
     refine wpAnyY_takeD (i:=0) 32 (v:=.pointer (some ⟨b,0,none⟩)) rfl rfl (by kernel_rfl) (by kernel_rfl) (late_of (by kernel_rfl)) (by kernel_rfl) (by kernel_rfl) (fun _ _ _ h=>h) HS0.out (Or.inl ⟨by rfl,by (intro W hW; obtain ⟨_,_⟩:=hW; go_simp)⟩) ?_
     simp only [Act.put,lA,lB,lC]
     refine wpAnyY_takeD (i:=1) 33 (v:=.pointer (some ⟨b,0,none⟩)) rfl rfl (by kernel_rfl) (by kernel_rfl) (late_of (by kernel_rfl)) (by kernel_rfl) (by kernel_rfl) (fun _ _ _ h=>h) HS0.out (Or.inl ⟨by rfl,by (intro W hW; obtain ⟨_,_⟩:=hW; go_simp)⟩) ?_
     simp only [Act.put,lA,lB,lC]
     refine wpAnyY_takeD (i:=2) 34 (v:=.pointer (some ⟨b,0,none⟩)) rfl rfl (by kernel_rfl) (by kernel_rfl) (late_of (by kernel_rfl)) (by kernel_rfl) (by kernel_rfl) (fun _ _ _ h=>h) HS0.out (Or.inl ⟨by rfl,by (intro W hW; obtain ⟨_,_⟩:=hW; go_simp)⟩) ?_
     simp only [Act.put,lA,lB,lC]
     refine wpAnyY_takeD (i:=3) 35 (v:=.pointer (some ⟨b,2,none⟩)) rfl rfl (by kernel_rfl) (by kernel_rfl) (late_of (by kernel_rfl)) (by kernel_rfl) (by kernel_rfl) (fun _ _ _ h=>h) HS0.out (Or.inl ⟨by rfl,by (intro W hW; obtain ⟨_,_⟩:=hW; go_simp)⟩) ?_
     simp only [Act.put,lA,lB,lC]
     refine wpAnyY_takeD (i:=4) 36 (v:=.slice (some ⟨g,0,none⟩) n cap) rfl rfl (by kernel_rfl) (by kernel_rfl) (late_of (by kernel_rfl)) (by kernel_rfl) (by kernel_rfl) (fun _ _ _ h=>h) HS0.out (Or.inl ⟨by rfl,by (intro W hW; obtain ⟨_,_⟩:=hW; go_simp)⟩) ?_
     simp only [Act.put,lA,lB,lC]
     refine wpAnyY_takeD (i:=5) 37 (v:=I J (j:Int)) rfl rfl (by kernel_rfl) (by kernel_rfl) (late_of (by kernel_rfl)) (by kernel_rfl) (by kernel_rfl) (fun _ _ _ h=>h) HS0.out (Or.inl ⟨by rfl,by (intro W hW; obtain ⟨_,_⟩:=hW; go_simp)⟩) ?_
     simp only [Act.put,lA,lB,lC]
     refine wpAnyY_takeD (i:=6) 38 (v:=.pointer (some ⟨b,0,none⟩)) rfl rfl (by kernel_rfl) (by kernel_rfl) (late_of (by kernel_rfl)) (by kernel_rfl) (by kernel_rfl) (fun _ _ _ h=>h) HS0.out (Or.inl ⟨by rfl,by (intro W hW; obtain ⟨_,_⟩:=hW; go_simp)⟩) ?_
     simp only [Act.put,lA,lB,lC]
     refine wpAnyY_takeD (i:=7) 39 (v:=.pointer (some ⟨b,0,none⟩)) rfl rfl (by kernel_rfl) (by kernel_rfl) (late_of (by kernel_rfl)) (by kernel_rfl) (by kernel_rfl) (fun _ _ _ h=>h) HS0.out (Or.inl ⟨by rfl,by (intro W hW; obtain ⟨_,_⟩:=hW; go_simp)⟩) ?_
     simp only [Act.put,lA,lB,lC]
     refine wpAnyY_takeD (i:=8) 40 (v:=.pointer (some ⟨b,25,none⟩)) rfl rfl (by kernel_rfl) (by kernel_rfl) (late_of (by kernel_rfl)) (by kernel_rfl) (by kernel_rfl) (fun _ _ _ h=>h) HS0.out (Or.inl ⟨by rfl,by (intro W hW; obtain ⟨_,_⟩:=hW; go_simp)⟩) ?_
     simp only [Act.put,lA,lB,lC]
     refine wpAnyY_takeD (i:=9) 41 (v:=I J c.mat) rfl rfl (by kernel_rfl) (by kernel_rfl) (late_of (by kernel_rfl)) (by kernel_rfl) (by kernel_rfl) (fun _ _ _ h=>h) HS0.out (Or.inl ⟨by rfl,by (intro W hW; obtain ⟨_,_⟩:=hW; go_simp)⟩) ?_
     simp only [Act.put,lA,lB,lC]
     refine wpAnyY_takeD (i:=10) 42 (v:=.pointer (some ⟨g,j,none⟩)) rfl rfl (by kernel_rfl) (by kernel_rfl) (late_of (by kernel_rfl)) (by kernel_rfl) (by kernel_rfl) (fun _ _ _ h=>h) HS0.out (Or.inl ⟨by rfl,by (intro W hW; obtain ⟨_,_⟩:=hW; go_simp)⟩) ?_
     simp only [Act.put,lA,lB,lC]
     refine wpAnyY_one (i:=11) rfl (by kernel_rfl) (fun K hK=>?_)
     refine storeI_step rfl rfl rfl rfl rfl HSE.out.2.1 HSE.out.2.2.1 ?_
     intro V hV
     have HV2:Hid (Fr O w V /\ CkAt O b s { c with subst:=fillTo c (j + 1) } V):=by rw [hV]; exact ⟨HDn.out.1.setCell (.inl HSE.out.1) _ _,HSE.out.2.2.2⟩
     refine hK.out _ _ (fun hh=>absurd hh (by decide)) ?_
     clear hK K HDn HS0 HSE hV
     refine wpAnyY_done (by kernel_rfl) ?_ _
     go_wp2
     go_round
     case rel=>exact ⟨j + 1,by omega,by go_num,HV2.out⟩
     case measure=>simp [intOf]; omega
    ·have HQ:Hid ((wrap64 ((j:Int) / (bl.size:Int)) == (j:Int) % (bl.size:Int)) = false):=by
      show _ = _
      have e1:(j:Int) / (bl.size:Int) = ((j / bl.size:Nat):Int):=by simp
      have e2:(j:Int) % (bl.size:Int) = ((j % bl.size:Nat):Int):=by simp
      have e3:j / bl.size <= j:=Nat.div_le_self _ _
      have e4:wrap64 ((j / bl.size:Nat):Int) = ((j / bl.size:Nat):Int):=wrap_few (Nat.le_trans e3 (by omega))
      rw [e1,e2,e4]
      rw [beq_eq_false_iff_ne]; intro h; exact hd (by exact_mod_cast h)
     go_wp2_with fail
     go_quiet (fail)
     rw [HQ.out]
     have HDn:Hid (Fr O w (wr.drewN nq).drew /\ CkAt O b s { c with subst:=fillTo c j } (wr.drewN nq).drew):=⟨(HJ.out.1.then_below (below_dn (Below.refl _ _) nq)).drew,(HJ.out.2.below (below_dn (Below.refl _ _) nq)).below (Below.refl _ _).drew⟩
     have HS0:Hid ((wr.drewN nq).drew.cell? ⟨b,2,none⟩ = some (.slice (some ⟨g,0,none⟩) n cap) /\ (wr.drewN nq).drew.cell? ⟨b,26,none⟩ = some (I J c.mis)):=⟨by rw [<- HV.out.1]; exact HDn.out.2.c2,HDn.out.2.c26⟩
     have hset':=HDn.out.2.setAt HV.out.1 (show j < (fillTo c j).length by rw [fillTo_len,<- HV.out.2.1]; exact hlt) c.mis
     rw [show ({ c with subst:=fillTo c j }:Ck).subst.set j c.mis = fillTo c (j + 1) from fillTo_set c j (-1) c.mis HP.out (by have:=HX.out; rw [<- HV.out.2.2] at this; rw [this,if_neg hd])] at hset'
     have HSE:Hid _:=hset'
     clear hset' hset hcell HJ HQ hp HX hd
     go_wp2_with fail
     refine wp_region_Y (fun j=>[11].contains j) (fun W=>W.cell? ⟨b,2,none⟩ = some (.slice (some ⟨g,0,none⟩) n cap) /\ W.cell? ⟨b,26,none⟩ = some (I J c.mis)) (by kernel_rfl) ?_
     refine wpAnyY_takeD (i:=0) 43 (v:=.pointer (some ⟨b,0,none⟩)) rfl rfl (by kernel_rfl) (by kernel_rfl) (late_of (by kernel_rfl)) (by kernel_rfl) (by kernel_rfl) (fun _ _ _ h=>h) HS0.out (Or.inl ⟨by rfl,by (intro W hW; obtain ⟨_,_⟩:=hW; go_simp)⟩) ?_
     simp only [Act.put,lA,lB,lC]
     refine wpAnyY_takeD (i:=1) 44 (v:=.pointer (some ⟨b,0,none⟩)) rfl rfl (by kernel_rfl) (by kernel_rfl) (late_of (by kernel_rfl)) (by kernel_rfl) (by kernel_rfl) (fun _ _ _ h=>h) HS0.out (Or.inl ⟨by rfl,by (intro W hW; obtain ⟨_,_⟩:=hW; go_simp)⟩) ?_
     simp only [Act.put,lA,lB,lC]
     refine wpAnyY_takeD (i:=2) 45 (v:=.pointer (some ⟨b,0,none⟩)) rfl rfl (by kernel_rfl) (by kernel_rfl) (late_of (by kernel_rfl)) (by kernel_rfl) (by kernel_rfl) (fun _ _ _ h=>h) HS0.out (Or.inl ⟨by rfl,by (intro W hW; obtain ⟨_,_⟩:=hW; go_simp)⟩) ?_
     simp only [Act.put,lA,lB,lC]
     refine wpAnyY_takeD (i:=3) 46 (v:=.pointer (some ⟨b,2,none⟩)) rfl rfl (by kernel_rfl) (by kernel_rfl) (late_of (by kernel_rfl)) (by kernel_rfl) (by kernel_rfl) (fun _ _ _ h=>h) HS0.out (Or.inl ⟨by rfl,by (intro W hW; obtain ⟨_,_⟩:=hW; go_simp)⟩) ?_
     simp only [Act.put,lA,lB,lC]
     refine wpAnyY_takeD (i:=4) 47 (v:=.slice (some ⟨g,0,none⟩) n cap) rfl rfl (by kernel_rfl) (by kernel_rfl) (late_of (by kernel_rfl)) (by kernel_rfl) (by kernel_rfl) (fun _ _ _ h=>h) HS0.out (Or.inl ⟨by rfl,by (intro W hW; obtain ⟨_,_⟩:=hW; go_simp)⟩) ?_
     simp only [Act.put,lA,lB,lC]
     refine wpAnyY_takeD (i:=5) 48 (v:=I J (j:Int)) rfl rfl (by kernel_rfl) (by kernel_rfl) (late_of (by kernel_rfl)) (by kernel_rfl) (by kernel_rfl) (fun _ _ _ h=>h) HS0.out (Or.inl ⟨by rfl,by (intro W hW; obtain ⟨_,_⟩:=hW; go_simp)⟩) ?_
     simp only [Act.put,lA,lB,lC]
     refine wpAnyY_takeD (i:=6) 49 (v:=.pointer (some ⟨b,0,none⟩)) rfl rfl (by kernel_rfl) (by kernel_rfl) (late_of (by kernel_rfl)) (by kernel_rfl) (by kernel_rfl) (fun _ _ _ h=>h) HS0.out (Or.inl ⟨by rfl,by (intro W hW; obtain ⟨_,_⟩:=hW; go_simp)⟩) ?_
     simp only [Act.put,lA,lB,lC]
     refine wpAnyY_takeD (i:=7) 50 (v:=.pointer (some ⟨b,0,none⟩)) rfl rfl (by kernel_rfl) (by kernel_rfl) (late_of (by kernel_rfl)) (by kernel_rfl) (by kernel_rfl) (fun _ _ _ h=>h) HS0.out (Or.inl ⟨by rfl,by (intro W hW; obtain ⟨_,_⟩:=hW; go_simp)⟩) ?_
     simp only [Act.put,lA,lB,lC]
     refine wpAnyY_takeD (i:=8) 51 (v:=.pointer (some ⟨b,26,none⟩)) rfl rfl (by kernel_rfl) (by kernel_rfl) (late_of (by kernel_rfl)) (by kernel_rfl) (by kernel_rfl) (fun _ _ _ h=>h) HS0.out (Or.inl ⟨by rfl,by (intro W hW; obtain ⟨_,_⟩:=hW; go_simp)⟩) ?_
     simp only [Act.put,lA,lB,lC]
     refine wpAnyY_takeD (i:=9) 52 (v:=I J c.mis) rfl rfl (by kernel_rfl) (by kernel_rfl) (late_of (by kernel_rfl)) (by kernel_rfl) (by kernel_rfl) (fun _ _ _ h=>h) HS0.out (Or.inl ⟨by rfl,by (intro W hW; obtain ⟨_,_⟩:=hW; go_simp)⟩) ?_
     simp only [Act.put,lA,lB,lC]
     refine wpAnyY_takeD (i:=10) 53 (v:=.pointer (some ⟨g,j,none⟩)) rfl rfl (by kernel_rfl) (by kernel_rfl) (late_of (by kernel_rfl)) (by kernel_rfl) (by kernel_rfl) (fun _ _ _ h=>h) HS0.out (Or.inl ⟨by rfl,by (intro W hW; obtain ⟨_,_⟩:=hW; go_simp)⟩) ?_
     simp only [Act.put,lA,lB,lC]
     refine wpAnyY_one (i:=11) rfl (by kernel_rfl) (fun K hK=>?_)
     refine storeI_step rfl rfl rfl rfl rfl HSE.out.2.1 HSE.out.2.2.1 ?_
     intro V hV
     have HV2:Hid (Fr O w V /\ CkAt O b s { c with subst:=fillTo c (j + 1) } V):=by rw [hV]; exact ⟨HDn.out.1.setCell (.inl HSE.out.1) _ _,HSE.out.2.2.2⟩
     refine hK.out _ _ (fun hh=>absurd hh (by decide)) ?_
     clear hK K HDn HS0 HSE hV
     refine wpAnyY_done (by kernel_rfl) ?_ _
     go_wp2
     go_round
     case rel=>exact ⟨j + 1,by omega,by go_num,HV2.out⟩
     case measure=>simp [intOf]; omega
   ·have hq:(p == -1) = false:=by rw [beq_eq_false_iff_ne]; exact hp1
    have HQ:Hid (p ≠ -1):=hp1
    clear hp1 hset hp
    go_wp2
    go_round
    case rel=>exact ⟨j + 1,by omega,by go_num,HJ.out.1,by rw [fillTo_keep c j p HP.out HQ.out]; exact HJ.out.2⟩
    case measure=>simp [intOf]; omega
  ·have hjn:j = n:=by omega
   have HE:Hid (Fr O w wr /\ CkAt O b s { c with subst:=fillB c } wr):=⟨HJ.out.1,by have:=HJ.out.2; rw [fillTo_all c j (by rw [<- HV.out.2.1]; omega)] at this; exact this⟩
   have HCn:Hid (Calls Tryz.prog 138 #[.slice (some ⟨g,0,none⟩) n cap,I J (-1)] wr fun e w'=>e = .returned (.bool (decide (-1 ∈ fillB c))) /\ w' = wr):=by
    refine contains_calls (fillB c) (-1) g cap n wr (by rw [fillB_len]; exact HV.out.2.1.symm) hn4 (fun j z hz=>?_)
    have hrow:=HE.out.2.subst
    rw [HV.out.1] at hrow
    have hl:(fillB c).length = n:=by rw [fillB_len]; exact HV.out.2.1.symm
    simp only at hrow
    rw [hl] at hrow
    exact (owned_cells hrow j _ (by simp [itRow,hz])).1
   have b2:wr.cell? ⟨b,2,none⟩ = some (.slice (some ⟨g,0,none⟩) n cap):=by rw [<- HV.out.1]; exact HE.out.2.c2
   clear HJ HV
   go_wp2_with (go_at_call 138; refine HCn.out.mono ?_; rintro e w' ⟨rfl,rfl⟩)
   go_ret
   exact ⟨by show Ending.returned (.bool (!decide (-1 ∈ fillB c))) = _; rw [decide_not],HE.out⟩
set_option maxRecDepth 20000
theorem LS.startI {b:Nat} {s:Sl} {c:Ck} {w:World} {O:Nat -> Prop} (hck:CkAt O b s c w) (hok:CkOk c) (i:It) (ka:Option Addr) (kn kc:Nat) :
 LS w O (fun g=>O g /\ g < w.heap.size) b s s (some c) [(w.heap.size + 1,flL (0,0),87),(w.heap.size,itL i ka kn kc,140)] ((w.alloc (.cells #[I J i.kind,.string (bs i.name),.slice ka kn kc,I J i.pl] 140)).alloc (.cells #[I J 0,I J 0] 87)):=by
 have h1:=((LS.start hck hok).alloc (itL i ka kn kc) 140).alloc (flL (0,0)) 87
 rw [show (w.alloc (.cells (itL i ka kn kc).toArray 140)).heap.size = w.heap.size + 1 by simp] at h1
 exact h1
theorem cell_same {w w':World} {g i:Nat} (h:w'.heap[g]? = w.heap[g]?):w'.cell? ⟨g,i,none⟩ = w.cell? ⟨g,i,none⟩:=by simp [World.cell?,h]
/-- The first expression of an item. -/
theorem one_arg {B:Nat} {w:World} {F:Fo} {ka:Option Addr} {kn:Nat} (hF:FoAt false (fun g=>g < B) w F ka kn) (hn:1 <= kn) (hof:okF F) :
 ∃ g off h k ka1 kn1 kc1,ka = some ⟨g,off,none⟩ /\ arg1 F = (h,k) /\ okE h k /\ ∀ W:World,(∀ q,q < w.heap.size -> q < B -> W.heap[q]? = w.heap[q]?) -> ExAt false (fun g=>g < B) W (h,k) ka1 kn1 /\
   W.cell? ⟨g,off,none⟩ = some (I J h.kind) /\ W.cell? ⟨g,off + 1,none⟩ = some (I J h.num) /\ W.cell? ⟨g,off + 2,none⟩ = some (.string (bs h.text)) /\ W.cell? ⟨g,off + 3,none⟩ = some (.slice ka1 kn1 kc1) /\ W.cell? ⟨g,off + 4,none⟩ = some (I J h.pl):=by
 obtain ⟨g,off,hka,hF'⟩:=foAt_addr hF
 obtain ⟨b0,o0,h,k,r,ka1,kn1,kc1,rfl,hg,hd,hfew,⟨c0,c1,c2,c3,c4⟩,hk,hr⟩:=foAt_head hF' (by omega)
 simp only [Nat.zero_mul,Nat.add_zero] at c0 c1 c2 c3 c4
 refine ⟨g,off,h,k,ka1,kn1,kc1,hka (by omega),rfl,(okF_node hof).1,fun W hW=>?_⟩
 have he:W.heap[g]? = w.heap[g]?:=hW g (World.block_lt_of_cell? w _ c0) hg
 exact ⟨⟨hd,hfew,foAt_keep hW hk⟩,(cell_same he).trans c0,(cell_same he).trans c1,(cell_same he).trans c2,(cell_same he).trans c3,(cell_same he).trans c4⟩
/-- Both. -/
theorem two_args {B:Nat} {w:World} {F:Fo} {ka:Option Addr} {kn:Nat} (hF:FoAt false (fun g=>g < B) w F ka kn) (hn:2 <= kn) (hof:okF F) :
 ∃ g off h k ka1 kn1 kc1 h2 k2 la ln lc,ka = some ⟨g,off,none⟩ /\ arg1 F = (h,k) /\ okE h k /\ arg2 F = (h2,k2) /\ okE h2 k2 /\ ∀ W:World,(∀ q,q < w.heap.size -> q < B -> W.heap[q]? = w.heap[q]?) -> (ExAt false (fun g=>g < B) W (h,k) ka1 kn1 /\ ExAt false (fun g=>g < B) W (h2,k2) la ln) /\
   (W.cell? ⟨g,off,none⟩ = some (I J h.kind) /\ W.cell? ⟨g,off + 1,none⟩ = some (I J h.num) /\ W.cell? ⟨g,off + 2,none⟩ = some (.string (bs h.text)) /\ W.cell? ⟨g,off + 3,none⟩ = some (.slice ka1 kn1 kc1) /\ W.cell? ⟨g,off + 4,none⟩ = some (I J h.pl)) /\
   W.cell? ⟨g,off + 5,none⟩ = some (I J h2.kind) /\ W.cell? ⟨g,off + 5 + 1,none⟩ = some (I J h2.num) /\ W.cell? ⟨g,off + 5 + 2,none⟩ = some (.string (bs h2.text)) /\ W.cell? ⟨g,off + 5 + 3,none⟩ = some (.slice la ln lc) /\ W.cell? ⟨g,off + 5 + 4,none⟩ = some (I J h2.pl):=by
 obtain ⟨g,off,hka,hF'⟩:=foAt_addr hF
 obtain ⟨b0,o0,h,k,r,ka1,kn1,kc1,rfl,hg,hd,hfew,⟨c0,c1,c2,c3,c4⟩,hk,hr⟩:=foAt_head hF' (by omega)
 simp only [Nat.zero_mul,Nat.add_zero] at c0 c1 c2 c3 c4
 obtain ⟨b1,o1,h2,k2,r2,la,ln,lc,rfl,hg2,hd2,hfew2,⟨d0,d1,d2,d3,d4⟩,hk2,hr2⟩:=foAt_head (i:=1) hr (by omega)
 simp only [Nat.one_mul] at d0 d1 d2 d3 d4
 refine ⟨g,off,h,k,ka1,kn1,kc1,h2,k2,la,ln,lc,hka (by omega),rfl,(okF_node hof).1,rfl,(okF_node (okF_node hof).2).1,fun W hW=>?_⟩
 have he:W.heap[g]? = w.heap[g]?:=hW g (World.block_lt_of_cell? w _ c0) hg
 exact ⟨⟨⟨hd,hfew,foAt_keep hW hk⟩,⟨hd2,hfew2,foAt_keep hW hk2⟩⟩,⟨(cell_same he).trans c0,(cell_same he).trans c1,(cell_same he).trans c2,(cell_same he).trans c3,(cell_same he).trans c4⟩,(cell_same he).trans d0,(cell_same he).trans d1,(cell_same he).trans d2,(cell_same he).trans d3,(cell_same he).trans d4⟩
theorem call53_step {o:Oper} {y:Nat -> Option Bool} {a:Act} {w:World} {K:Act -> World -> Prop} {Q:Exit -> Act -> World -> Prop} {i j l d:Nat} {v1 v2 v3:Value} (h1:o.op = .call { callee:=.value (.func 94),args:=#[.tmp i,.tmp j,.tmp l],argTypes:=#[136,173,173] }) (h2:o.dst = some d) (h3:o.guard = none)
 (e1:a.tmps[i]?.getD undef = v1) (e2:a.tmps[j]?.getD undef = v2) (e3:a.tmps[l]?.getD undef = v3) (h:Calls Tryz.prog 94 #[v1,v2,v3] w fun e w'=>∃ u,e = .returned u /\ K (a.put (some d) u) w') :
 if Region.wanted o y = true then Oper.wp Tryz.prog o a w K Q else K (a.put o.dst undef) w:=by
 obtain ⟨dst,op,type,pos,after,guard⟩:=o
 simp only at h1 h2 h3
 subst h1 h2 h3
 subst e1 e2 e3
 go_simp
 refine h.mono ?_
 rintro e V ⟨u,rfl,hV⟩
 exact hV
theorem call57_step {o:Oper} {y:Nat -> Option Bool} {a:Act} {w:World} {K:Act -> World -> Prop} {Q:Exit -> Act -> World -> Prop} {i j l d:Nat} {v1 v2 v3:Value} (h1:o.op = .call { callee:=.value (.func 98),args:=#[.tmp i,.tmp j,.tmp l],argTypes:=#[136,173,181] }) (h2:o.dst = some d) (h3:o.guard = none)
 (e1:a.tmps[i]?.getD undef = v1) (e2:a.tmps[j]?.getD undef = v2) (e3:a.tmps[l]?.getD undef = v3) (h:Calls Tryz.prog 98 #[v1,v2,v3] w fun e w'=>∃ u,e = .returned u /\ K (a.put (some d) u) w') :
 if Region.wanted o y = true then Oper.wp Tryz.prog o a w K Q else K (a.put o.dst undef) w:=by
 obtain ⟨dst,op,type,pos,after,guard⟩:=o
 simp only at h1 h2 h3
 subst h1 h2 h3
 subst e1 e2 e3
 go_simp
 refine h.mono ?_
 rintro e V ⟨u,rfl,hV⟩
 exact hV
/-- Twice is asked of an item in its box. -/
theorem LS.twice {w W:World} {O0 O:Nat -> Prop} {b:Nat} {s0 s:Sl} {c:Ck} {L:List Lo} (h:LS w O0 O b s0 s (some c) L W) (i:It) (ka:Option Addr) (kn kc:Nat) (hk1:1 <= i.kind) (hk2:i.kind <= 10) (hn:i.name.length <= maxLen) :
 Calls Tryz.prog 89 #[.pointer (some ⟨b,0,none⟩),itV i ka kn kc] W fun e w'=>e = .returned (.bool (twiceB c i)) /\ Hid (LS w O0 O b s0 s (some c) L w'):=by
 refine (twice_calls i ka kn kc W (h.ck c rfl).1 hk1 hk2 hn).mono ?_
 rintro e w' ⟨rfl,hb⟩
 exact ⟨rfl,h.next hb⟩
theorem CkOk.pl {c:Ck} (h:CkOk c) (p:Int):CkOk { c with pl:=p }:=⟨h.vals,h.same,h.few,h.names,h.alpha,h.sub,h.pcs⟩
theorem CkOk.had {c:Ck} (h:CkOk c) (p:Int) (f:Nat -> Bool):CkOk { c with pl:=p,had:=f }:=⟨h.vals,h.same,h.few,h.names,h.alpha,h.sub,h.pcs⟩
set_option maxRecDepth 20000
set_option maxHeartbeats 4000000
theorem take_6 {B:Nat} {O:Nat -> Prop} {b:Nat} {s:Sl} {c:Ck} (i:It) (ka:Option Addr) (kc:Nat) (w:World) (hck:CkAt O b s c w) (hok:CkOk c) (hlow:∀ g,O g -> B <= g) (hB:B <= w.heap.size) (hF:FoAt false (fun g=>g < B) w i.args ka 2) (hof:okF i.args) (hn:i.name.length <= maxLen) (hk:i.kind = 6) (htw:twiceB { c with pl:=i.pl } i = false) :
 Calls Tryz.prog 60 #[.pointer (some ⟨b,0,none⟩),itV i ka 2 kc] w (TPost O b w (gapB ({ c with pl:=i.pl,had:=putHad c.had 6 }) (arg1 i.args) (arg2 i.args))):=by
 have hres:Tryz.f60.results = #[.cell 4 87]:=by kernel_rfl
 obtain ⟨g,off,h,k,ka1,kn1,kc1,h2,k2,la,ln,lc,rfl,ha1,hr1,ha2,hr2,hat⟩:=two_args hF (by omega) hof
 rw [ha1,ha2]
 have hS1:LS w O (fun g=>O g /\ g < w.heap.size) b s s (some c) [(w.heap.size + 1,flL (0,0),87),(w.heap.size,[I J 6,.string (bs i.name),.slice (some ⟨g,off,none⟩) 2 kc,I J i.pl],140)] ((w.alloc (.cells #[I J 6,.string (bs i.name),.slice (some ⟨g,off,none⟩) 2 kc,I J i.pl] 140)).alloc (.cells #[I J 0,I J 0] 87)):=by
  have:=LS.startI hck hok i (some ⟨g,off,none⟩) 2 kc
  unfold itL at this
  rw [hk] at this
  exact this
 have hmem:∀ W,Fr O w W -> ∀ q,q < w.heap.size -> q < B -> W.heap[q]? = w.heap[q]?:=fun W hf q hq hqB=>hf.block q hq (fun ho=>by have:=hlow q ho; omega)
 obtain ⟨r,hr⟩:∃ r,r = gapB ({ c with pl:=i.pl,had:=putHad c.had 6 }) (h,k) (h2,k2):=⟨_,rfl⟩
 rw [<- hr]
 have HC:Hid (∀ O' s' W,LS w O O' b s s' (some { c with pl:=i.pl,had:=putHad c.had 6 }) [(w.heap.size + 1,flL (0,0),87),(w.heap.size,[I J 6,.string (bs i.name),.slice (some ⟨g,off,none⟩) 2 kc,I J i.pl],140)] W -> Calls Tryz.prog 94 #[.pointer (some ⟨b,0,none⟩),.agg #[I J h.kind,I J h.num,.string (bs h.text),.slice ka1 kn1 kc1,I J h.pl],.agg #[I J h2.kind,I J h2.num,.string (bs h2.text),.slice la ln lc,I J h2.pl]] W (TPost O' b W r)):=by
  intro O' s' W hL
  have hlow':∀ g,O' g -> B <= g:=fun q hq=>by rcases hL.new q hq with h1 | h1; exact hlow q h1; omega
  obtain ⟨hE,-⟩:=hat W (hmem W hL.fr)
  have hB':=Nat.le_trans hB hL.fr.size
  obtain ⟨k1,k2',k3⟩:=hL.ck _ rfl
  rw [hr]
  exact gap_calls h k ka1 kn1 kc1 h2 k2 la ln lc W k1 k2' hlow' hB' hE.1 hr1 hE.2 hr2
 have HTW:Hid (∀ O' s' L W,LS w O O' b s s' (some { c with pl:=i.pl }) L W -> Calls Tryz.prog 89 #[.pointer (some ⟨b,0,none⟩),.agg #[I J 6,.string (bs i.name),.slice (some ⟨g,off,none⟩) 2 kc,I J i.pl]] W fun e w'=>e = .returned (.bool false) /\ Hid (LS w O O' b s s' (some { c with pl:=i.pl }) L w')):=fun O' s' L W hL=>by
  have:=hL.twice i (some ⟨g,off,none⟩) 2 kc (by omega) (by omega) hn
  rw [htw] at this
  unfold itV at this
  rw [hk] at this
  exact this
 have HSS:Hid (∀ O' s' oc W,LS w O O' b s s' oc [(w.heap.size + 1,flL (0,0),87),(w.heap.size,[I J 6,.string (bs i.name),.slice (some ⟨g,off,none⟩) 2 kc,I J i.pl],140)] W -> W.cell? ⟨w.heap.size,2,none⟩ = some (.slice (some ⟨g,off,none⟩) 2 kc) /\ W.cell? ⟨g,off,none⟩ = some (I J h.kind) /\ W.cell? ⟨g,off + 1,none⟩ = some (I J h.num) /\ W.cell? ⟨g,off + 2,none⟩ = some (.string (bs h.text)) /\ W.cell? ⟨g,off + 3,none⟩ = some (.slice ka1 kn1 kc1) /\ W.cell? ⟨g,off + 4,none⟩ = some (I J h.pl) /\ W.cell? ⟨g,off + 5,none⟩ = some (I J h2.kind) /\ W.cell? ⟨g,off + 5 + 1,none⟩ = some (I J h2.num) /\ W.cell? ⟨g,off + 5 + 2,none⟩ = some (.string (bs h2.text)) /\ W.cell? ⟨g,off + 5 + 3,none⟩ = some (.slice la ln lc) /\ W.cell? ⟨g,off + 5 + 4,none⟩ = some (I J h2.pl)):=fun O' s' oc W hL=>⟨hL.at (g:=w.heap.size) (cs:=[I J 6,.string (bs i.name),.slice (some ⟨g,off,none⟩) 2 kc,I J i.pl]) (ty:=140) (by simp) rfl,(hat W (hmem W hL.fr)).2.1.1,(hat W (hmem W hL.fr)).2.1.2.1,(hat W (hmem W hL.fr)).2.1.2.2.1,(hat W (hmem W hL.fr)).2.1.2.2.2.1,(hat W (hmem W hL.fr)).2.1.2.2.2.2,(hat W (hmem W hL.fr)).2.2⟩
 have HOK:Hid (CkOk { c with pl:=i.pl } /\ CkOk { c with pl:=i.pl,had:=putHad c.had 6 }):=⟨hok.pl i.pl,hok.had i.pl _⟩
 generalize hO1:(fun g=>O g /\ g < w.heap.size) = O1 at hS1
 clear hO1 hck hok hlow hB hF hof hn htw hmem hat hr ha1 ha2 hr1 hr2
 unfold itV
 rw [hk]
 clear hk
 have HS1:Hid (LS w O O1 b s s (some c) [(w.heap.size + 1,flL (0,0),87),(w.heap.size,[I J 6,.string (bs i.name),.slice (some ⟨g,off,none⟩) 2 kc,I J i.pl],140)] ((w.alloc (.cells #[I J 6,.string (bs i.name),.slice (some ⟨g,off,none⟩) 2 kc,I J i.pl] 140)).alloc (.cells #[I J 0,I J 0] 87))):=hS1
 clear hS1
 go_enter Tryz.func60,Tryz.ntmps60
 go_upto_region 1 with (fail)
 generalize ((w.alloc (.cells #[I J 6,.string (bs i.name),.slice (some ⟨g,off,none⟩) 2 kc,I J i.pl] 140)).alloc (.cells #[I J 0,I J 0] 87)) = w1 at *
 have x3:w1.cell? ⟨w.heap.size,3,none⟩ = some (I J i.pl):=HS1.out.at (g:=w.heap.size) (cs:=[I J 6,.string (bs i.name),.slice (some ⟨g,off,none⟩) 2 kc,I J i.pl]) (ty:=140) (by simp) rfl
 have b24:w1.cell? ⟨b,24,none⟩ = some (I J c.pl):=(HS1.out.ck _ rfl).1.c24
 have bf:w1.frozen? ⟨b,24,none⟩ = false:=(HS1.out.ck _ rfl).1.fz 24
 have HS2:Hid (LS w O O1 b s s (some { c with pl:=i.pl }) [(w.heap.size + 1,flL (0,0),87),(w.heap.size,[I J 6,.string (bs i.name),.slice (some ⟨g,off,none⟩) 2 kc,I J i.pl],140)] (w1.setCell ⟨b,24,none⟩ (I J i.pl))):=HS1.out.putB rfl rfl rfl rfl rfl rfl HOK.out.1
 go_upto_region 2 with (fail)
 clear x3 b24 bf HS1
 generalize w1.setCell ⟨b,24,none⟩ (I J i.pl) = w2 at *
 have x0:w2.cell? ⟨w.heap.size,0,none⟩ = some (I J 6):=HS2.out.at (g:=w.heap.size) (cs:=[I J 6,.string (bs i.name),.slice (some ⟨g,off,none⟩) 2 kc,I J i.pl]) (ty:=140) (by simp) rfl
 have x1:w2.cell? ⟨w.heap.size,1,none⟩ = some (.string (bs i.name)):=HS2.out.at (g:=w.heap.size) (cs:=[I J 6,.string (bs i.name),.slice (some ⟨g,off,none⟩) 2 kc,I J i.pl]) (ty:=140) (by simp) rfl
 have x2:w2.cell? ⟨w.heap.size,2,none⟩ = some (.slice (some ⟨g,off,none⟩) 2 kc):=HS2.out.at (g:=w.heap.size) (cs:=[I J 6,.string (bs i.name),.slice (some ⟨g,off,none⟩) 2 kc,I J i.pl]) (ty:=140) (by simp) rfl
 have x3:w2.cell? ⟨w.heap.size,3,none⟩ = some (I J i.pl):=HS2.out.at (g:=w.heap.size) (cs:=[I J 6,.string (bs i.name),.slice (some ⟨g,off,none⟩) 2 kc,I J i.pl]) (ty:=140) (by simp) rfl
 go_wp2_with (go_at_call 89; refine (HTW.out _ _ _ _ HS2.out).mono ?_; rintro e w3 ⟨rfl,HS3⟩)
 clear x0 x1 x2 x3 HS2 HTW
 have HL4:Hid (LS w O O1 b s s (some { c with pl:=i.pl }) [(w.heap.size + 1,flL (0,0),87),(w.heap.size,[I J 6,.string (bs i.name),.slice (some ⟨g,off,none⟩) 2 kc,I J i.pl],140)] w3.drew):=HS3.out.drew
 have HS0:Hid (w3.drew.cell? ⟨w.heap.size,0,none⟩ = some (I J 6)):=HL4.out.at (g:=w.heap.size) (cs:=[I J 6,.string (bs i.name),.slice (some ⟨g,off,none⟩) 2 kc,I J i.pl]) (ty:=140) (by simp) rfl
 clear HS3
 refine wp_region_Y (fun j=>[6].contains j) (fun W=>W.cell? ⟨w.heap.size,0,none⟩ = some (I J 6)) (by kernel_rfl) ?_
 refine wpAnyY_takeD (i:=0) 15 (v:=.pointer (some ⟨b,0,none⟩)) rfl rfl (by kernel_rfl) (by kernel_rfl) (late_of (by kernel_rfl)) (by kernel_rfl) (by kernel_rfl) (fun _ _ _ h=>h) HS0.out (Or.inl ⟨by rfl,by (intro W hW; go_simp)⟩) ?_
 simp only [Act.put,lA,lB,lC]
 refine wpAnyY_takeD (i:=1) 16 (v:=.pointer (some ⟨w.heap.size,0,none⟩)) rfl rfl (by kernel_rfl) (by kernel_rfl) (late_of (by kernel_rfl)) (by kernel_rfl) (by kernel_rfl) (fun _ _ _ h=>h) HS0.out (Or.inl ⟨by rfl,by (intro W hW; go_simp)⟩) ?_
 simp only [Act.put,lA,lB,lC]
 refine wpAnyY_takeD (i:=2) 17 (v:=I J 6) rfl rfl (by kernel_rfl) (by kernel_rfl) (late_of (by kernel_rfl)) (by kernel_rfl) (by kernel_rfl) (fun _ _ _ h=>h) HS0.out (Or.inl ⟨by rfl,by (intro W hW; go_simp)⟩) ?_
 simp only [Act.put,lA,lB,lC]
 refine wpAnyY_takeD (i:=3) 18 (v:=.pointer (some ⟨b,0,none⟩)) rfl rfl (by kernel_rfl) (by kernel_rfl) (late_of (by kernel_rfl)) (by kernel_rfl) (by kernel_rfl) (fun _ _ _ h=>h) HS0.out (Or.inl ⟨by rfl,by (intro W hW; go_simp)⟩) ?_
 simp only [Act.put,lA,lB,lC]
 refine wpAnyY_takeD (i:=4) 19 (v:=.pointer (some ⟨b,13,none⟩)) rfl rfl (by kernel_rfl) (by kernel_rfl) (late_of (by kernel_rfl)) (by kernel_rfl) (by kernel_rfl) (fun _ _ _ h=>h) HS0.out (Or.inl ⟨by rfl,by (intro W hW; go_simp)⟩) ?_
 simp only [Act.put,lA,lB,lC]
 refine wpAnyY_takeD (i:=5) 20 (v:=.pointer (some ⟨b,19,none⟩)) rfl rfl (by kernel_rfl) (by kernel_rfl) (late_of (by kernel_rfl)) (by kernel_rfl) (by kernel_rfl) (fun _ _ _ h=>h) HS0.out (Or.inl ⟨by rfl,by (intro W hW; go_simp)⟩) ?_
 simp only [Act.put,lA,lB,lC]
 refine wpAnyY_one (i:=6) rfl (by kernel_rfl) (fun K hK=>?_)
 refine storeB_step rfl rfl rfl rfl ((HL4.out.ck _ rfl).1.hadk (k:=6) (by omega)) ((HL4.out.ck _ rfl).1.fz 19) ?_
 intro V hV
 have HL5:Hid (LS w O O1 b s s (some { c with pl:=i.pl,had:=putHad c.had 6 }) [(w.heap.size + 1,flL (0,0),87),(w.heap.size,[I J 6,.string (bs i.name),.slice (some ⟨g,off,none⟩) 2 kc,I J i.pl],140)] V):=by subst hV; exact HL4.out.putB rfl rfl rfl rfl rfl rfl HOK.out.2
 refine hK.out _ _ (fun hh=>absurd hh (by decide)) ?_
 clear hK K HL4 HS0 hV HOK
 refine wpAnyY_done (by kernel_rfl) ?_ _
 have x0:V.cell? ⟨w.heap.size,0,none⟩ = some (I J 6):=HL5.out.at (g:=w.heap.size) (cs:=[I J 6,.string (bs i.name),.slice (some ⟨g,off,none⟩) 2 kc,I J i.pl]) (ty:=140) (by simp) rfl
 go_wp2_with fail
 clear x0
 have HL6:Hid (LS w O O1 b s s (some { c with pl:=i.pl,had:=putHad c.had 6 }) [(w.heap.size + 1,flL (0,0),87),(w.heap.size,[I J 6,.string (bs i.name),.slice (some ⟨g,off,none⟩) 2 kc,I J i.pl],140)] V.drew):=HL5.out.drew
 have HS0:Hid (V.drew.cell? ⟨w.heap.size,2,none⟩ = some (.slice (some ⟨g,off,none⟩) 2 kc) /\ V.drew.cell? ⟨g,off,none⟩ = some (I J h.kind) /\ V.drew.cell? ⟨g,off + 1,none⟩ = some (I J h.num) /\ V.drew.cell? ⟨g,off + 2,none⟩ = some (.string (bs h.text)) /\ V.drew.cell? ⟨g,off + 3,none⟩ = some (.slice ka1 kn1 kc1) /\ V.drew.cell? ⟨g,off + 4,none⟩ = some (I J h.pl) /\ V.drew.cell? ⟨g,off + 5,none⟩ = some (I J h2.kind) /\ V.drew.cell? ⟨g,off + 5 + 1,none⟩ = some (I J h2.num) /\ V.drew.cell? ⟨g,off + 5 + 2,none⟩ = some (.string (bs h2.text)) /\ V.drew.cell? ⟨g,off + 5 + 3,none⟩ = some (.slice la ln lc) /\ V.drew.cell? ⟨g,off + 5 + 4,none⟩ = some (I J h2.pl)):=HSS.out _ _ _ _ HL6.out
 clear HL5
 refine wp_region_Y (fun j=>[9,10].contains j) (fun W=>W.cell? ⟨w.heap.size,2,none⟩ = some (.slice (some ⟨g,off,none⟩) 2 kc) /\ W.cell? ⟨g,off,none⟩ = some (I J h.kind) /\ W.cell? ⟨g,off + 1,none⟩ = some (I J h.num) /\ W.cell? ⟨g,off + 2,none⟩ = some (.string (bs h.text)) /\ W.cell? ⟨g,off + 3,none⟩ = some (.slice ka1 kn1 kc1) /\ W.cell? ⟨g,off + 4,none⟩ = some (I J h.pl) /\ W.cell? ⟨g,off + 5,none⟩ = some (I J h2.kind) /\ W.cell? ⟨g,off + 5 + 1,none⟩ = some (I J h2.num) /\ W.cell? ⟨g,off + 5 + 2,none⟩ = some (.string (bs h2.text)) /\ W.cell? ⟨g,off + 5 + 3,none⟩ = some (.slice la ln lc) /\ W.cell? ⟨g,off + 5 + 4,none⟩ = some (I J h2.pl)) (by kernel_rfl) ?_
 refine wpAnyY_takeD (i:=0) 55 (v:=.pointer (some ⟨b,0,none⟩)) rfl rfl (by kernel_rfl) (by kernel_rfl) (late_of (by kernel_rfl)) (by kernel_rfl) (by kernel_rfl) (fun _ _ _ h=>h) HS0.out (Or.inl ⟨by rfl,by (intro W hW; obtain ⟨_,_,_,_,_,_,_,_,_,_,_⟩:=hW; go_simp)⟩) ?_
 simp only [Act.put,lA,lB,lC]
 refine wpAnyY_takeD (i:=1) 56 (v:=.pointer (some ⟨w.heap.size,2,none⟩)) rfl rfl (by kernel_rfl) (by kernel_rfl) (late_of (by kernel_rfl)) (by kernel_rfl) (by kernel_rfl) (fun _ _ _ h=>h) HS0.out (Or.inl ⟨by rfl,by (intro W hW; obtain ⟨_,_,_,_,_,_,_,_,_,_,_⟩:=hW; go_simp)⟩) ?_
 simp only [Act.put,lA,lB,lC]
 refine wpAnyY_takeD (i:=2) 57 (v:=.slice (some ⟨g,off,none⟩) 2 kc) rfl rfl (by kernel_rfl) (by kernel_rfl) (late_of (by kernel_rfl)) (by kernel_rfl) (by kernel_rfl) (fun _ _ _ h=>h) HS0.out (Or.inl ⟨by rfl,by (intro W hW; obtain ⟨_,_,_,_,_,_,_,_,_,_,_⟩:=hW; go_simp)⟩) ?_
 simp only [Act.put,lA,lB,lC]
 refine wpAnyY_takeD (i:=3) 58 (v:=.pointer (some ⟨g,off,none⟩)) rfl rfl (by kernel_rfl) (by kernel_rfl) (late_of (by kernel_rfl)) (by kernel_rfl) (by kernel_rfl) (fun _ _ _ h=>h) HS0.out (Or.inl ⟨by rfl,by (intro W hW; obtain ⟨_,_,_,_,_,_,_,_,_,_,_⟩:=hW; go_simp)⟩) ?_
 simp only [Act.put,lA,lB,lC]
 refine wpAnyY_takeD (i:=4) 59 (v:=.agg #[I J h.kind,I J h.num,.string (bs h.text),.slice ka1 kn1 kc1,I J h.pl]) rfl rfl (by kernel_rfl) (by kernel_rfl) (late_of (by kernel_rfl)) (by kernel_rfl) (by kernel_rfl) (fun _ _ _ h=>h) HS0.out (Or.inl ⟨by rfl,by (intro W hW; obtain ⟨_,_,_,_,_,_,_,_,_,_,_⟩:=hW; go_simp)⟩) ?_
 simp only [Act.put,lA,lB,lC]
 refine wpAnyY_takeD (i:=5) 60 (v:=.pointer (some ⟨w.heap.size,2,none⟩)) rfl rfl (by kernel_rfl) (by kernel_rfl) (late_of (by kernel_rfl)) (by kernel_rfl) (by kernel_rfl) (fun _ _ _ h=>h) HS0.out (Or.inl ⟨by rfl,by (intro W hW; obtain ⟨_,_,_,_,_,_,_,_,_,_,_⟩:=hW; go_simp)⟩) ?_
 simp only [Act.put,lA,lB,lC]
 refine wpAnyY_takeD (i:=6) 61 (v:=.slice (some ⟨g,off,none⟩) 2 kc) rfl rfl (by kernel_rfl) (by kernel_rfl) (late_of (by kernel_rfl)) (by kernel_rfl) (by kernel_rfl) (fun _ _ _ h=>h) HS0.out (Or.inl ⟨by rfl,by (intro W hW; obtain ⟨_,_,_,_,_,_,_,_,_,_,_⟩:=hW; go_simp)⟩) ?_
 simp only [Act.put,lA,lB,lC]
 refine wpAnyY_takeD (i:=7) 62 (v:=.pointer (some ⟨g,off + 5,none⟩)) rfl rfl (by kernel_rfl) (by kernel_rfl) (late_of (by kernel_rfl)) (by kernel_rfl) (by kernel_rfl) (fun _ _ _ h=>h) HS0.out (Or.inl ⟨by rfl,by (intro W hW; obtain ⟨_,_,_,_,_,_,_,_,_,_,_⟩:=hW; go_simp)⟩) ?_
 simp only [Act.put,lA,lB,lC]
 refine wpAnyY_takeD (i:=8) 63 (v:=.agg #[I J h2.kind,I J h2.num,.string (bs h2.text),.slice la ln lc,I J h2.pl]) rfl rfl (by kernel_rfl) (by kernel_rfl) (late_of (by kernel_rfl)) (by kernel_rfl) (by kernel_rfl) (fun _ _ _ h=>h) HS0.out (Or.inl ⟨by rfl,by (intro W hW; obtain ⟨_,_,_,_,_,_,_,_,_,_,_⟩:=hW; go_simp)⟩) ?_
 simp only [Act.put,lA,lB,lC]
 refine wpAnyY_one (i:=9) rfl (by kernel_rfl) (fun K hK=>?_)
 refine call53_step rfl rfl rfl rfl rfl rfl ?_
 refine (HC.out _ _ _ HL6.out).mono ?_
 intro e V2 hp
 obtain ⟨f1,f2,hff⟩:∃ f1 f2,faultOf r = (f1,f2):=⟨_,_,rfl⟩
 have hRl:=HL6.out.loc (w.heap.size + 1,flL (0,0),87) (by simp)
 have hl:=hRl.1.fr (O':=O1) hp.val.2 (fun g hg=>.inl hg)
 have hv:=hp.val.1
 rw [hff] at hv
 have HF:Hid (∀ u v,TPost O b w r e ((V2.setCell ⟨w.heap.size + 1,0,none⟩ u).setCell ⟨w.heap.size + 1,1,none⟩ v)):=fun u v=>hp.lift HL6.out.fr HL6.out.new hRl.1.off hRl.2 hRl.1.lt u v
 refine ⟨_,hv,?_⟩
 subst hv
 refine hK.out _ _ (fun hh=>absurd hh (by decide)) ?_
 clear hK K HL6 HS0 HC HSS hff hp hRl
 simp only [Act.put,lA,lB,lC]
 refine wpAnyY_one (i:=10) rfl (by kernel_rfl) (fun K hK=>?_)
 refine store32_step rfl rfl rfl rfl rfl hl.heap ?_
 intro V3 hV
 have HF3:Hid (TPost O b w r (.returned (.agg #[I J f1,I J f2])) V3):=by rw [hV]; exact HF.out _ _
 have hl3:V3.heap[w.heap.size + 1]? = some (.cells #[I J f1,I J f2] 87 (0,0)):=by rw [hV]; exact ((hl.put 0 (I J f1)).put 1 (I J f2)).heap
 refine hK.out _ _ (fun hh=>absurd hh (by decide)) ?_
 clear hK K HF hl hV
 have z0:V3.cell? ⟨w.heap.size + 1,0,none⟩ = some (I J f1):=blk hl3 rfl
 have z1:V3.cell? ⟨w.heap.size + 1,1,none⟩ = some (I J f2):=blk hl3 rfl
 clear hl3
 refine wpAnyY_done (by kernel_rfl) ?_ _
 go_wp2
 refine bodyPost_ret (v:=flV (f1,f2)) ?_ rfl ?_
 ·simp only [results,hres]
  unfold flV
  simp only
  go_simp
 ·show TPost _ _ _ _ _ _
  exact HF3.out
end Go.Proofs.YtbbbnopganhebabGreat
