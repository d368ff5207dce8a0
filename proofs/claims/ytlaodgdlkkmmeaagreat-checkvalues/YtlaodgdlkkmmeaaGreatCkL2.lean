/-
  A definition is laid down: lay, all of it.
-/
import Derived.Deep.RegionLaw
import Derived.Test.YtlaodgdlkkmmeaaGreatCkL
namespace Go.Proofs.YtlaodgdlkkmmeaaGreat
open Go.RowKit Go.Deep Go.Maps
open Go.Value renaming int->I,slice->Γ
open Go.IntKind renaming i64->J
set_option maxRecDepth 20000
set_option maxHeartbeats 4000000
theorem lay_fine {O:Nat -> Prop} {b:Nat} {s:Sl} {c:Ck} (w:World) (h:CkAt O b s c w) (hok:CkOk c) (d:Df) (hd:DfIn d c.values.length) (p:Int) (hin:inB maxK (rawB c.values d) = true) (hn:¬ c.values.length = 5000) :
 Calls Tryz.prog 59 #[.pointer (some ⟨b,0,none⟩),dfV d,I J p] w (XPost O b s w (.ok ({ c with defs:=c.defs ++ [d],values:=c.values ++ [rawB c.values d] },⟨false,[],c.values.length,rawB c.values d⟩))):=by
 have hres:Tryz.f59.results = #[.cell 6 109,.cell 7 32]:=by kernel_rfl
 obtain ⟨va,cap,hvv,-⟩:=own_isI h.values
 have HLA:=LA.start h d
 generalize hO1:(fun g=>O g /\ g < w.heap.size) = O1 at HLA
 clear hO1
 have HJK:Hid (∀ W,LA w O O1 b s c d W -> W.cell? ⟨w.heap.size,0,none⟩ = some (I J d.op) /\ W.cell? ⟨w.heap.size,1,none⟩ = some (I J d.num) /\ W.cell? ⟨w.heap.size,2,none⟩ = some (I J d.a) /\ W.cell? ⟨w.heap.size,3,none⟩ = some (I J d.b) /\ W.cell? ⟨b,11,none⟩ = some (Γ va c.values.length cap)):=
  fun W hW=>⟨blk hW.box rfl,blk hW.box rfl,blk hW.box rfl,blk hW.box rfl,hvv ▸ blk hW.ck.block rfl⟩
 have HJB:Hid (∀ W W',LA w O O1 b s c d W -> Below W.heap.size W W' -> LA w O O1 b s c d W'):=fun W W' h1 h2=>h1.next h2
 have HC:Hid (∀ W,LA w O O1 b s c d W -> Calls Tryz.prog 41 #[.agg #[I J d.op,I J d.num,I J d.a,I J d.b],Γ va c.values.length cap] W (WPost (rawB c.values d) W)):=fun W hW=>by
  obtain ⟨va',cap',e,hI⟩:=own_isI hW.ck.values
  rw [hvv] at e
  cases e
  exact worth_calls d c.values va cap W hI (fun v hv=>by have:=hok.vals v hv; omega) hd
 unfold dfV
 obtain ⟨op,num,a,b'⟩:=d
 simp only at HLA HJK HC ⊢
 have HL:=hid HLA
 have HIN:=hid hin
 have HVV:=hid hvv
 generalize rawB c.values ⟨op,num,a,b'⟩ = r at *
 generalize hnn:c.values.length = n at *
 have hn1:((n:Int) == 5000) = false:=by rw [beq_eq_false_iff_ne]; omega
 have hfew:=hok.few
 have HDN:Hid (c.values.length = n /\ c.defs.length = n):=⟨hnn,hok.same.trans hnn⟩
 rw [hnn] at hfew
 clear hnn
 clear HLA h hok hd hin hvv hn
 go_enter Tryz.func59,Tryz.ntmps59
 go_upto_region 1 with (fail)
 generalize (((w.alloc (.cells #[I J op,I J num,I J a,I J b'] 43)).alloc (.cells #[.bool false,.string ⟨#[]⟩,I J 0,I J 0] 109)).alloc (.cells #[I J 0,I J 0] 32)) = w1 at *
 have hJ0:LA w O O1 b s c ⟨op,num,a,b'⟩ w1:=HL.out
 have hJ1:LA w O O1 b s c ⟨op,num,a,b'⟩ w1.drew:=hJ0.next (Below.refl _ _).drew
 obtain ⟨x0,x1,x2,x3,x4⟩:=HJK.out _ hJ0
 have y:=HJK.out _ hJ1
 clear HL
 go_region_held3 (fun W=>LA w O O1 b s c ⟨op,num,a,b'⟩ W /\ W.cell? ⟨w.heap.size,0,none⟩ = some (I J op) /\ W.cell? ⟨w.heap.size,1,none⟩ = some (I J num) /\ W.cell? ⟨w.heap.size,2,none⟩ = some (I J a) /\ W.cell? ⟨w.heap.size,3,none⟩ = some (I J b') /\ W.cell? ⟨b,11,none⟩ = some (Γ va n cap)) (first | exact ⟨hJ1,y⟩ | exact ⟨by assumption,HJK.out _ (by assumption)⟩) (first
  | (go_at_call 41; with_reducible refine (HC.out _ (by assumption)).mono ?_; intro e W1 hp; obtain ⟨v,rfl,hv,hb⟩:=wpost_parts hp; clear hp; have HJ':=HJB.out _ _ (by assumption) hb; have hc':=HJK.out _ HJ'; clear hb))
 have HLW:=hid HJ'
 have hm:inB maxV r = true:=inB_KV HIN.out
 have hv2:=hv hm
 clear HJ' hc' HC HJB HJK hJ0 hJ1 x0 x1 x2 x3 x4 y
 rename_i hcx
 clear hcx
 subst hv2
 clear hv
 have HW:Hid (∀ w,Calls Tryz.prog 80 #[I J v,I J 72057594037927936] w fun e w'=>e = .returned (.bool true) /\ w' = w):=fun w=>by
  have:=within_calls v 72057594037927936 w (by omega) (by omega)
  rw [show inB 72057594037927936 v = true from HIN.out] at this; exact this
 have r5:W1.cell? ⟨b,11,none⟩ = some (Γ va n cap):=by have:=HLW.out.ck.c11; rw [HVV.out] at this; exact this
 go_wp2_with (go_at_call 80; refine (HW.out _).mono ?_; rintro e w' ⟨rfl,rfl⟩)
 clear HW r5
 obtain ⟨da,dc,hdv⟩:∃ da dc,s.dv = Γ da n dc:=by
  obtain ⟨da,dc,e⟩:=owned_shape HLW.out.ck.defs
  exact ⟨da,dc,by rw [e,HDN.out.2]⟩
 have HDV:Hid (s.dv = Γ da n dc):=hdv
 clear hdv
 have HJd:Hid (LA w O O1 b s c ⟨op,num,a,b'⟩ w'.drew):=HLW.out.next (Below.refl _ _).drew
 have HJc:∀ W,LA w O O1 b s c ⟨op,num,a,b'⟩ W -> W.cell? ⟨b,1,none⟩ = some (Γ da n dc) /\ W.cell? ⟨w.heap.size,0,none⟩ = some (I J op) /\ W.cell? ⟨w.heap.size,1,none⟩ = some (I J num) /\ W.cell? ⟨w.heap.size,2,none⟩ = some (I J a) /\ W.cell? ⟨w.heap.size,3,none⟩ = some (I J b'):=fun W hW=>⟨by have:=hW.ck.c1; rw [HDV.out] at this; exact this,blk hW.box rfl,blk hW.box rfl,blk hW.box rfl,blk hW.box rfl⟩
 have HJn:∀ o,LA w O O1 b s c ⟨op,num,a,b'⟩ (w'.alloc o).drew:=fun o=>(HLW.out.next ((Below.refl _ _).alloc (Nat.le_refl _) o)).next (Below.refl _ _).drew
 obtain ⟨c1,d0,d1,d2,d3⟩:=HJc _ HJd.out
 have c1o:∀ o,(w'.alloc o).drew.cell? ⟨b,1,none⟩ = some (Γ da n dc):=fun o=>(HJc _ (HJn o)).1
 have d0o:∀ o,(w'.alloc o).drew.cell? ⟨w.heap.size,0,none⟩ = some (I J op):=fun o=>(HJc _ (HJn o)).2.1
 have d1o:∀ o,(w'.alloc o).drew.cell? ⟨w.heap.size,1,none⟩ = some (I J num):=fun o=>(HJc _ (HJn o)).2.2.1
 have d2o:∀ o,(w'.alloc o).drew.cell? ⟨w.heap.size,2,none⟩ = some (I J a):=fun o=>(HJc _ (HJn o)).2.2.2.1
 have d3o:∀ o,(w'.alloc o).drew.cell? ⟨w.heap.size,3,none⟩ = some (I J b'):=fun o=>(HJc _ (HJn o)).2.2.2.2
 clear HJc HJn
 obtain ⟨i0,hi,hz0,hz1,hz2⟩:=info_parts info43
 have HJO:Hid (∀ W o,Hid (LA w O O1 b s c ⟨op,num,a,b'⟩ W) -> (W.alloc o).ownsRow 0 43 4 (Γ da n dc) n (dfRow c.defs)):=by
  intro W o hW
  have:=(hW.out.ck.alloc o).defs
  rw [HDV.out,HDN.out.2] at this
  exact this
 have HJE:Hid (∀ W o v' w4,Hid (LA w O O1 b s c ⟨op,num,a,b'⟩ W) -> w4.ownsRow 0 43 4 v' (n + 1) (dfRow c.defs ++ dfCells ⟨op,num,a,b'⟩) -> (W.alloc o).grownBy w4 (Value.slice da n dc).ownBlock -> (∀ g,v'.ownBlock = some g -> some g = (Value.slice da n dc).ownBlock \/ (W.alloc o).heap.size <= g) ->
  w4.cell? ⟨b,1,none⟩ = some (Γ da n dc) /\ w4.frozen? ⟨b,1,none⟩ = false /\ Hid (LB w O b s { c with defs:=c.defs ++ [⟨op,num,a,b'⟩] } ⟨op,num,a,b'⟩ (w4.setCell ⟨b,1,none⟩ v'))):=by
  intro W o v' w4 hW ho hg hfr
  have hW2:=hW.out.next ((Below.refl _ _).alloc (Nat.le_refl _) o)
  rw [<- HDV.out] at hg hfr ⊢
  rw [<- HDN.out.2] at ho
  exact hW2.addDef ho hg hfr
 clear HDV
 go_region_law (first
  | (refine step_append_fresh rfl (.tmp 48) (.tmp 50) 25 rfl 0 43 i0 _ 4 32 Tryz.underlying25 hi hz0 hz1 hz2 rfl (by decide) _ _ _ (by simp [Act.eval]) (HJO.out _ _ (by assumption)) ⟨_,0,none⟩ 1 1 (dfCells ⟨op,num,a,b'⟩) (by simp [Act.eval]) rfl (df_new _ op num a b') (df_one _) (by unfold maxLen; omega) (by omega) (Nat.zero_le _) ?_
     intro v' w4 ho hg hfr
     obtain ⟨k1,k2,k3⟩:=HJE.out w'.drew _ _ _ HJd ho hg hfr
     obtain ⟨ao2,cap2,rfl⟩:=owned_shape ho
     clear ho hg hfr))
 all_goals (
  generalize w4.setCell ⟨b,1,none⟩ (Γ ao2 (n + 1) cap2) = V at *
  clear c1 c1o d0 d0o d1 d1o d2 d2o d3 d3o HJE HJO HJd HLW k1 k2 hi hz0 hz1 hz2 i0
  obtain ⟨O2,s2,hs2,hv2,hL2⟩:=k3.out
  have HL2:Hid (LA w O O2 b s2 { c with defs:=c.defs ++ [⟨op,num,a,b'⟩] } ⟨op,num,a,b'⟩ V /\ s2.sv = s.sv /\ s2.vv = Γ va n cap):=⟨hL2,hs2,hv2.trans HVV.out⟩
  clear hL2 hs2 hv2 k3 HVV
  have c11:V.cell? ⟨b,11,none⟩ = some (Γ va n cap):=by have:=HL2.out.1.ck.c11; rw [HL2.out.2.2] at this; exact this
  have hltb:=HL2.out.1.ck.lt
  obtain ⟨i0,hi,hz0,hz1,hz2⟩:=info_parts info3
  have HJO:Hid (∀ o,(V.alloc o).ownsRow 0 3 1 (Γ va n cap) n (itRow c.values)):=by
   intro o
   have:=(HL2.out.1.ck.alloc o).values
   rw [HL2.out.2.2] at this
   have e:({ c with defs:=c.defs ++ [⟨op,num,a,b'⟩] }:Ck).values.length = n:=HDN.out.1
   rw [e] at this
   exact this
  have HJE:Hid (∀ o v' w4,w4.ownsRow 0 3 1 v' (n + 1) (itRow c.values ++ [I J v]) -> (V.alloc o).grownBy w4 (Value.slice va n cap).ownBlock -> (∀ g,v'.ownBlock = some g -> some g = (Value.slice va n cap).ownBlock \/ (V.alloc o).heap.size <= g) ->
   w4.cell? ⟨b,11,none⟩ = some (Γ va n cap) /\ w4.frozen? ⟨b,11,none⟩ = false /\ Hid (∃ O3 s3,s3.sv = s.sv /\ LA w O O3 b s3 { c with defs:=c.defs ++ [⟨op,num,a,b'⟩],values:=c.values ++ [v] } ⟨op,num,a,b'⟩ (w4.setCell ⟨b,11,none⟩ v'))):=by
   intro o v' w4 ho hg hfr
   have hW2:=HL2.out.1.next ((Below.refl _ _).alloc (Nat.le_refl _) o)
   rw [<- HL2.out.2.2] at hg hfr ⊢
   have ho2:w4.ownsRow 0 3 1 v' (({ c with defs:=c.defs ++ [⟨op,num,a,b'⟩] }:Ck).values.length + 1) (itRow ({ c with defs:=c.defs ++ [⟨op,num,a,b'⟩] }:Ck).values ++ [I J v]):=by
    have e:({ c with defs:=c.defs ++ [⟨op,num,a,b'⟩] }:Ck).values.length = n:=HDN.out.1
    rw [e]; exact ho
   obtain ⟨q1,q2,O3,s3,q3,q4⟩:=hW2.addVal ho2 hg hfr
   exact ⟨q1,q2,O3,s3,q3.trans HL2.out.2.1,q4⟩
  clear HL2 HDN
  go_upto_region 9 with (first
   | (at_builtin; refine wpList_append_fresh rfl (.tmp 59) (.tmp 61) 26 rfl 0 3 i0 _ 1 8 Tryz.underlying26 hi hz0 hz1 hz2 rfl (by decide) _ _ _ rfl (HJO.out _) ⟨_,0,none⟩ 1 1 [I J v] rfl rfl (it_new _ v) (it_one v) (by unfold maxLen; omega) (by omega) (Nat.zero_le _) ?_
      intro v' w5 ho hg hfr
      obtain ⟨k1,k2,k3⟩:=HJE.out _ _ _ ho hg hfr
      obtain ⟨ao3,cap3,rfl⟩:=owned_shape ho
      clear ho hg hfr HJE HJO c11))
  generalize w5.setCell ⟨b,11,none⟩ (Γ ao3 (n + 1) cap3) = V2 at *
  clear k1 k2 hi hz0 hz1 hz2 i0 hltb
  obtain ⟨O3,s3,q3,q4⟩:=k3.out
  have HLW:Hid (LA w O O3 b s3 { c with defs:=c.defs ++ [⟨op,num,a,b'⟩],values:=c.values ++ [v] } ⟨op,num,a,b'⟩ V2 /\ s3.sv = s.sv):=⟨q4,q3⟩
  clear k3 q3 q4
  have r0:=blk (i:=0) HLW.out.1.r1 rfl
  have r1:=blk (i:=1) HLW.out.1.r1 rfl
  have r2:=blk (i:=2) HLW.out.1.r1 rfl
  have r3:=blk (i:=3) HLW.out.1.r1 rfl
  have q0:=blk (i:=0) HLW.out.1.r2 rfl
  have q1:=blk (i:=1) HLW.out.1.r2 rfl
  have rf:∀ i,V2.frozen? ⟨w.heap.size + 1,i,none⟩ = false:=fun i=>blkf i HLW.out.1.r1
  have qf:∀ i,V2.frozen? ⟨w.heap.size + 1 + 1,i,none⟩ = false:=fun i=>blkf i HLW.out.1.r2
  go_wp2
  refine bodyPost_ret (v:=.tuple #[mnV ⟨false,[],(n:Int),v⟩,flV (0,0)]) ?_ rfl ⟨rfl,?_,O3,s3,HLW.out.2,?_,?_⟩
  ·simp only [results,hres]
   go_simp
   exact ⟨rfl,rfl⟩
  ·exact fr_res HLW.out.1.fr _ _ _ _ _ _
  ·intro g hg
   rcases HLW.out.1.new g hg with h1 | h1
   ·exact .inl h1.1
   ·exact .inr (by omega)
  ·exact ck_res HLW.out.1 _ _ _ _ _ _)
theorem lay_calls {O:Nat -> Prop} {b:Nat} {s:Sl} {c:Ck} (w:World) (h:CkAt O b s c w) (hok:CkOk c) (d:Df) (hd:DfIn d c.values.length) (p:Int) :
 Calls Tryz.prog 59 #[.pointer (some ⟨b,0,none⟩),dfV d,I J p] w (XPost O b s w (layB c d p)):=by
 unfold layB
 by_cases hin:inB maxK (rawB c.values d) = false
 ·rw [if_pos hin]; exact lay_far w h hok d hd p hin
 ·rw [if_neg hin]
  have hin':inB maxK (rawB c.values d) = true:=by simpa using hin
  by_cases hn:c.values.length = 5000
  ·rw [if_pos hn]; exact lay_full w h hok d hd p hin' hn
  ·rw [if_neg hn]; exact lay_fine w h hok d hd p hin' hn
end Go.Proofs.YtlaodgdlkkmmeaaGreat
