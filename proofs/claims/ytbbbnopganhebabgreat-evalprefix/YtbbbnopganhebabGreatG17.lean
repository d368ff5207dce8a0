/-
  A definition is laid down: lay, all of it. And what follows.
-/
import Derived.Deep.RegionLaw
import Derived.Test.YtbbbnopganhebabGreatCkL
import Derived.Test.YtbbbnopganhebabGreatG08
namespace Go.Proofs.YtbbbnopganhebabGreat
open Go.RowKit Go.Deep Go.Maps
open Go.Value renaming int->I
open Go.IntKind renaming i64->J
set_option maxRecDepth 20000
set_option maxHeartbeats 4000000
theorem lay_fine {O:Nat -> Prop} {b:Nat} {s:Sl} {c:Ck} (w:World) (h:CkAt O b s c w) (hok:CkOk c) (d:Df) (hd:DfIn d c.values.length) (p:Int) (hin:inB maxK (rawB c.values d) = true) (hn:¬ c.values.length = 5000) :
 Calls Tryz.prog 100 #[.pointer (some ⟨b,0,none⟩),dfV d,I J p] w (XPost O b s w (.ok ({ c with defs:=c.defs ++ [d],values:=c.values ++ [rawB c.values d] },⟨false,[],c.values.length,rawB c.values d⟩))):=by
 have hres:Tryz.f100.results = #[.cell 6 183,.cell 7 87]:=by kernel_rfl
 obtain ⟨va,cap,hvv,-⟩:=own_isI h.values
 have HLA:=LA.start h d
 generalize hO1:(fun g=>O g /\ g < w.heap.size) = O1 at HLA
 clear hO1
 have HJK:Hid (∀ W,LA w O O1 b s c d W -> W.cell? ⟨w.heap.size,0,none⟩ = some (I J d.op) /\ W.cell? ⟨w.heap.size,1,none⟩ = some (I J d.num) /\ W.cell? ⟨w.heap.size,2,none⟩ = some (I J d.a) /\ W.cell? ⟨w.heap.size,3,none⟩ = some (I J d.b) /\ W.cell? ⟨b,11,none⟩ = some (.slice va c.values.length cap)):=
  fun W hW=>⟨blk hW.box rfl,blk hW.box rfl,blk hW.box rfl,blk hW.box rfl,hvv ▸ blk hW.ck.block rfl⟩
 have HJB:Hid (∀ W W',LA w O O1 b s c d W -> Below W.heap.size W W' -> LA w O O1 b s c d W'):=fun W W' h1 h2=>h1.next h2
 have HC:Hid (∀ W,LA w O O1 b s c d W -> Calls Tryz.prog 68 #[.agg #[I J d.op,I J d.num,I J d.a,I J d.b],.slice va c.values.length cap] W (WPost (rawB c.values d) W)):=fun W hW=>by
  obtain ⟨va',cap',e,hI⟩:=own_isI hW.ck.values
  rw [hvv] at e
  cases e
  exact worth_calls d c.values va cap W hI (fun v hv=>by have:=hok.vals v hv; omega) hd
 unfold dfV
 obtain ⟨op,num,a,b'⟩:=d
 simp only at HLA HJK HC ⊢
 have HL:Hid (LA w O O1 b s c ⟨op,num,a,b'⟩ (((w.alloc (.cells #[I J op,I J num,I J a,I J b'] 53)).alloc (.cells #[.bool false,.string ⟨#[]⟩,I J 0,I J 0] 183)).alloc (.cells #[I J 0,I J 0] 87))):=HLA
 have HIN:Hid (inB maxK (rawB c.values ⟨op,num,a,b'⟩) = true):=hin
 have HVV:Hid (s.vv = .slice va c.values.length cap):=hvv
 generalize rawB c.values ⟨op,num,a,b'⟩ = r at *
 generalize hnn:c.values.length = n at *
 have hn1:((n:Int) == 5000) = false:=by rw [beq_eq_false_iff_ne]; omega
 have hfew:=hok.few
 have HDN:Hid (c.values.length = n /\ c.defs.length = n):=⟨hnn,hok.same.trans hnn⟩
 rw [hnn] at hfew
 clear hnn
 clear HLA h hok hd hin hvv hn
 go_enter Tryz.func100,Tryz.ntmps100
 go_upto_region 1 with (fail)
 generalize (((w.alloc (.cells #[I J op,I J num,I J a,I J b'] 53)).alloc (.cells #[.bool false,.string ⟨#[]⟩,I J 0,I J 0] 183)).alloc (.cells #[I J 0,I J 0] 87)) = w1 at *
 have hJ0:LA w O O1 b s c ⟨op,num,a,b'⟩ w1:=HL.out
 have hJ1:LA w O O1 b s c ⟨op,num,a,b'⟩ w1.drew:=hJ0.next (Below.refl _ _).drew
 obtain ⟨x0,x1,x2,x3,x4⟩:=HJK.out _ hJ0
 have y:=HJK.out _ hJ1
 clear HL
 go_region_held3 (fun W=>LA w O O1 b s c ⟨op,num,a,b'⟩ W /\ W.cell? ⟨w.heap.size,0,none⟩ = some (I J op) /\ W.cell? ⟨w.heap.size,1,none⟩ = some (I J num) /\ W.cell? ⟨w.heap.size,2,none⟩ = some (I J a) /\ W.cell? ⟨w.heap.size,3,none⟩ = some (I J b') /\ W.cell? ⟨b,11,none⟩ = some (.slice va n cap)) (first | exact ⟨hJ1,y⟩ | exact ⟨by assumption,HJK.out _ (by assumption)⟩) (first
  | (go_at_call 68; with_reducible refine (HC.out _ (by assumption)).mono ?_; intro e W1 hp; obtain ⟨v,rfl,hv,hb⟩:=wpost_parts hp; clear hp; have HJ':=HJB.out _ _ (by assumption) hb; have hc':=HJK.out _ HJ'; clear hb))
 have HLW:Hid (LA w O O1 b s c ⟨op,num,a,b'⟩ W1):=HJ'
 have hm:inB maxV r = true:=inB_KV HIN.out
 have hv2:=hv hm
 clear HJ' hc' HC HJB HJK hJ0 hJ1 x0 x1 x2 x3 x4 y
 rename_i hcx
 clear hcx
 subst hv2
 clear hv
 have HW:Hid (∀ w,Calls Tryz.prog 106 #[I J v,I J 72057594037927936] w fun e w'=>e = .returned (.bool true) /\ w' = w):=fun w=>by
  have:=within_calls v 72057594037927936 w (by omega) (by omega)
  rw [show inB 72057594037927936 v = true from HIN.out] at this; exact this
 have r5:W1.cell? ⟨b,11,none⟩ = some (.slice va n cap):=by have:=HLW.out.ck.c11; rw [HVV.out] at this; exact this
 go_wp2_with (go_at_call 106; refine (HW.out _).mono ?_; rintro e w' ⟨rfl,rfl⟩)
 clear HW r5
 obtain ⟨da,dc,hdv⟩:∃ da dc,s.dv = .slice da n dc:=by
  obtain ⟨da,dc,e⟩:=owned_shape HLW.out.ck.defs
  exact ⟨da,dc,by rw [e,HDN.out.2]⟩
 have HDV:Hid (s.dv = .slice da n dc):=hdv
 clear hdv
 have HJd:Hid (LA w O O1 b s c ⟨op,num,a,b'⟩ w'.drew):=HLW.out.next (Below.refl _ _).drew
 have HJc:∀ W,LA w O O1 b s c ⟨op,num,a,b'⟩ W -> W.cell? ⟨b,1,none⟩ = some (.slice da n dc) /\ W.cell? ⟨w.heap.size,0,none⟩ = some (I J op) /\ W.cell? ⟨w.heap.size,1,none⟩ = some (I J num) /\ W.cell? ⟨w.heap.size,2,none⟩ = some (I J a) /\ W.cell? ⟨w.heap.size,3,none⟩ = some (I J b'):=fun W hW=>⟨by have:=hW.ck.c1; rw [HDV.out] at this; exact this,blk hW.box rfl,blk hW.box rfl,blk hW.box rfl,blk hW.box rfl⟩
 have HJn:∀ o,LA w O O1 b s c ⟨op,num,a,b'⟩ (w'.alloc o).drew:=fun o=>(HLW.out.next ((Below.refl _ _).alloc (Nat.le_refl _) o)).next (Below.refl _ _).drew
 obtain ⟨c1,d0,d1,d2,d3⟩:=HJc _ HJd.out
 have c1o:∀ o,(w'.alloc o).drew.cell? ⟨b,1,none⟩ = some (.slice da n dc):=fun o=>(HJc _ (HJn o)).1
 have d0o:∀ o,(w'.alloc o).drew.cell? ⟨w.heap.size,0,none⟩ = some (I J op):=fun o=>(HJc _ (HJn o)).2.1
 have d1o:∀ o,(w'.alloc o).drew.cell? ⟨w.heap.size,1,none⟩ = some (I J num):=fun o=>(HJc _ (HJn o)).2.2.1
 have d2o:∀ o,(w'.alloc o).drew.cell? ⟨w.heap.size,2,none⟩ = some (I J a):=fun o=>(HJc _ (HJn o)).2.2.2.1
 have d3o:∀ o,(w'.alloc o).drew.cell? ⟨w.heap.size,3,none⟩ = some (I J b'):=fun o=>(HJc _ (HJn o)).2.2.2.2
 clear HJc HJn
 obtain ⟨i0,hi,hz0,hz1,hz2⟩:=info_parts info43
 have HJO:Hid (∀ W o,Hid (LA w O O1 b s c ⟨op,num,a,b'⟩ W) -> (W.alloc o).ownsRow 0 53 4 (.slice da n dc) n (dfRow c.defs)):=by
  intro W o hW
  have:=(hW.out.ck.alloc o).defs
  rw [HDV.out,HDN.out.2] at this
  exact this
 have HJE:Hid (∀ W o v' w4,Hid (LA w O O1 b s c ⟨op,num,a,b'⟩ W) -> w4.ownsRow 0 53 4 v' (n + 1) (dfRow c.defs ++ dfCells ⟨op,num,a,b'⟩) -> (W.alloc o).grownBy w4 (Value.slice da n dc).ownBlock -> (∀ g,v'.ownBlock = some g -> some g = (Value.slice da n dc).ownBlock \/ (W.alloc o).heap.size <= g) ->
  w4.cell? ⟨b,1,none⟩ = some (.slice da n dc) /\ w4.frozen? ⟨b,1,none⟩ = false /\ Hid (LB w O b s { c with defs:=c.defs ++ [⟨op,num,a,b'⟩] } ⟨op,num,a,b'⟩ (w4.setCell ⟨b,1,none⟩ v'))):=by
  intro W o v' w4 hW ho hg hfr
  have hW2:=hW.out.next ((Below.refl _ _).alloc (Nat.le_refl _) o)
  rw [<- HDV.out] at hg hfr ⊢
  rw [<- HDN.out.2] at ho
  exact hW2.addDef ho hg hfr
 clear HDV
 go_region_law (first
  | (refine step_append_fresh rfl (.tmp 48) (.tmp 50) 22 rfl 0 53 i0 _ 4 32 Tryz.underlying22 hi hz0 hz1 hz2 rfl (by decide) _ _ _ (by simp [Act.eval]) (HJO.out _ _ (by assumption)) ⟨_,0,none⟩ 1 1 (dfCells ⟨op,num,a,b'⟩) (by simp [Act.eval]) rfl (df_new _ op num a b') (df_one _) (by unfold maxLen; omega) (by omega) (Nat.zero_le _) ?_
     intro v' w4 ho hg hfr
     obtain ⟨k1,k2,k3⟩:=HJE.out w'.drew _ _ _ HJd ho hg hfr
     obtain ⟨ao2,cap2,rfl⟩:=owned_shape ho
     clear ho hg hfr))
 all_goals (
  generalize w4.setCell ⟨b,1,none⟩ (.slice ao2 (n + 1) cap2) = V at *
  clear c1 c1o d0 d0o d1 d1o d2 d2o d3 d3o HJE HJO HJd HLW k1 k2 hi hz0 hz1 hz2 i0
  obtain ⟨O2,s2,hs2,hv2,hL2⟩:=k3.out
  have HL2:Hid (LA w O O2 b s2 { c with defs:=c.defs ++ [⟨op,num,a,b'⟩] } ⟨op,num,a,b'⟩ V /\ s2.sv = s.sv /\ s2.vv = .slice va n cap):=⟨hL2,hs2,hv2.trans HVV.out⟩
  clear hL2 hs2 hv2 k3 HVV
  have c11:V.cell? ⟨b,11,none⟩ = some (.slice va n cap):=by have:=HL2.out.1.ck.c11; rw [HL2.out.2.2] at this; exact this
  have hltb:=HL2.out.1.ck.lt
  obtain ⟨i0,hi,hz0,hz1,hz2⟩:=info_parts info3
  have HJO:Hid (∀ o,(V.alloc o).ownsRow 0 3 1 (.slice va n cap) n (itRow c.values)):=by
   intro o
   have:=(HL2.out.1.ck.alloc o).values
   rw [HL2.out.2.2] at this
   have e:({ c with defs:=c.defs ++ [⟨op,num,a,b'⟩] }:Ck).values.length = n:=HDN.out.1
   rw [e] at this
   exact this
  have HJE:Hid (∀ o v' w4,w4.ownsRow 0 3 1 v' (n + 1) (itRow c.values ++ [I J v]) -> (V.alloc o).grownBy w4 (Value.slice va n cap).ownBlock -> (∀ g,v'.ownBlock = some g -> some g = (Value.slice va n cap).ownBlock \/ (V.alloc o).heap.size <= g) ->
   w4.cell? ⟨b,11,none⟩ = some (.slice va n cap) /\ w4.frozen? ⟨b,11,none⟩ = false /\ Hid (∃ O3 s3,s3.sv = s.sv /\ LA w O O3 b s3 { c with defs:=c.defs ++ [⟨op,num,a,b'⟩],values:=c.values ++ [v] } ⟨op,num,a,b'⟩ (w4.setCell ⟨b,11,none⟩ v'))):=by
   intro o v' w4 ho hg hfr
   have hW2:=HL2.out.1.next ((Below.refl _ _).alloc (Nat.le_refl _) o)
   rw [<- HL2.out.2.2] at hg hfr ⊢
   have ho2:w4.ownsRow 0 3 1 v' (({ c with defs:=c.defs ++ [⟨op,num,a,b'⟩] }:Ck).values.length + 1) (itRow ({ c with defs:=c.defs ++ [⟨op,num,a,b'⟩] }:Ck).values ++ [I J v]):=by
    have e:({ c with defs:=c.defs ++ [⟨op,num,a,b'⟩] }:Ck).values.length = n:=HDN.out.1
    rw [e]; exact ho
   obtain ⟨q1,q2,O3,s3,q3,q4⟩:=hW2.addVal ho2 hg hfr
   exact ⟨q1,q2,O3,s3,q3.trans HL2.out.2.1,q4⟩
  clear HL2 HDN
  go_upto_region 9 with (first
   | (at_builtin; refine wpList_append_fresh rfl (.tmp 59) (.tmp 61) 23 rfl 0 3 i0 _ 1 8 Tryz.underlying23 hi hz0 hz1 hz2 rfl (by decide) _ _ _ rfl (HJO.out _) ⟨_,0,none⟩ 1 1 [I J v] rfl rfl (it_new _ v) (it_one v) (by unfold maxLen; omega) (by omega) (Nat.zero_le _) ?_
      intro v' w5 ho hg hfr
      obtain ⟨k1,k2,k3⟩:=HJE.out _ _ _ ho hg hfr
      obtain ⟨ao3,cap3,rfl⟩:=owned_shape ho
      clear ho hg hfr HJE HJO c11))
  generalize w5.setCell ⟨b,11,none⟩ (.slice ao3 (n + 1) cap3) = V2 at *
  clear k1 k2 hi hz0 hz1 hz2 i0 hltb
  obtain ⟨O3,s3,q3,q4⟩:=k3.out
  have HLW:Hid (LA w O O3 b s3 { c with defs:=c.defs ++ [⟨op,num,a,b'⟩],values:=c.values ++ [v] } ⟨op,num,a,b'⟩ V2 /\ s3.sv = s.sv):=⟨q4,q3⟩
  clear k3 q3 q4
  have r0:=blk (i:=0) HLW.out.1.r1 rfl
  have r1:=blk (i:=1) HLW.out.1.r1 rfl
  have r2:=blk (i:=2) HLW.out.1.r1 rfl
  have r3:=blk (i:=3) HLW.out.1.r1 rfl
  have q0:=blk (i:=0) HLW.out.1.r2 rfl
  have q1:=blk (i:=1) HLW.out.1.r2 rfl
  have rf:∀ i,V2.frozen? ⟨w.heap.size + 1,i,none⟩ = false:=fun i=>blkf i HLW.out.1.r1
  have qf:∀ i,V2.frozen? ⟨w.heap.size + 1 + 1,i,none⟩ = false:=fun i=>blkf i HLW.out.1.r2
  go_wp2
  refine bodyPost_ret (v:=.tuple #[mnV ⟨false,[],(n:Int),v⟩,flV (0,0)]) ?_ rfl ⟨rfl,?_,O3,s3,HLW.out.2,?_,?_⟩
  ·simp only [results,hres]
   go_simp
   exact ⟨rfl,rfl⟩
  ·exact fr_res HLW.out.1.fr _ _ _ _ _ _
  ·intro g hg
   rcases HLW.out.1.new g hg with h1 | h1
   ·exact .inl h1.1
   ·exact .inr (by omega)
  ·exact ck_res HLW.out.1 _ _ _ _ _ _)
theorem lay_calls {O:Nat -> Prop} {b:Nat} {s:Sl} {c:Ck} (w:World) (h:CkAt O b s c w) (hok:CkOk c) (d:Df) (hd:DfIn d c.values.length) (p:Int) :
 Calls Tryz.prog 100 #[.pointer (some ⟨b,0,none⟩),dfV d,I J p] w (XPost O b s w (layB c d p)):=by
 unfold layB
 by_cases hin:inB maxK (rawB c.values d) = false
 ·rw [if_pos hin]; exact lay_far w h hok d hd p hin
 ·rw [if_neg hin]
  have hin':inB maxK (rawB c.values d) = true:=by simpa using hin
  by_cases hn:c.values.length = 5000
  ·rw [if_pos hn]; exact lay_full w h hok d hd p hin' hn
  ·rw [if_neg hn]; exact lay_fine w h hok d hd p hin' hn
set_option maxRecDepth 20000
set_option maxHeartbeats 1000000
theorem beqz (z k:Int):(z == k) = decide (z = k):=by rw [Bool.eq_iff_iff]; simp
theorem ahead_calls (a p:Int) (g:Nat) (w:World) (hc:w.cell? ⟨g,0,none⟩ = some (I J p)) :
 Calls Tryz.prog 104 #[I J a,.pointer (some ⟨g,0,none⟩)] w fun e w'=>e = .returned (.bool (aheadB a p)) /\ w = w':=by
 by_cases h:0 <= a
 ·have hd:decide (0 <= a) = true:=by simpa using h
  go_enter Tryz.func104,Tryz.ntmps104
  go_wp2
  go_ret
  exact ⟨ret_bool (by simp [aheadB,h]),rfl⟩
 ·have hd:decide (0 <= a) = false:=by simpa using h
  go_enter Tryz.func104,Tryz.ntmps104
  go_wp2
  go_ret
  exact ⟨ret_bool (by simp [aheadB]; omega),rfl⟩
theorem isDef_calls (d:Df) (p:Int) (w:World) :
 Calls Tryz.prog 67 #[dfV d,I J p] w fun e w'=>e = .returned (.bool (defB d p)) /\ Below w.heap.size w w':=by
 have hmf:∀ (fn:Fn) (first cap:Array Value) (w:World),(Instr.makeFunc fn first cap).run Tryz.prog w = .ok (.func fn first cap) w:=fun _ _ _ _=>rfl
 have HBl:Hid (Below w.heap.size w ((w.alloc (.cells #[I J d.op,I J d.num,I J d.a,I J d.b] 53)).alloc (.cells #[I J p] 3))):=((Below.refl _ _).alloc (Nat.le_refl _) _).alloc (by simp) _
 have HA:Hid (∀ a,Calls Tryz.prog 104 #[I J a,.pointer (some ⟨w.heap.size + 1,0,none⟩)] ((w.alloc (.cells #[I J d.op,I J d.num,I J d.a,I J d.b] 53)).alloc (.cells #[I J p] 3)) fun e w'=>e = .returned (.bool (aheadB a p)) /\ ((w.alloc (.cells #[I J d.op,I J d.num,I J d.a,I J d.b] 53)).alloc (.cells #[I J p] 3)) = w'):=fun a=>by
  refine ahead_calls a p _ _ ?_
  have:=heap_alloc_new (w.alloc (.cells #[I J d.op,I J d.num,I J d.a,I J d.b] 53)) (.cells #[I J p] 3)
  rw [show (w.alloc (.cells #[I J d.op,I J d.num,I J d.a,I J d.b] 53)).heap.size = w.heap.size + 1 by simp] at this
  exact blk this rfl
 unfold dfV
 obtain ⟨op,num,a,b⟩:=d
 simp only at HBl HA ⊢
 have HD:Hid (defB ⟨op,num,a,b⟩ p = if op = 1 then decide (a = 0 /\ b = 0) else if op = 2 then decide (num = 0) && (aheadB a p && decide (b = 0)) else if 3 <= op /\ op <= 7 then decide (num = 0) && (aheadB a p && aheadB b p) else false):=rfl
 generalize defB ⟨op,num,a,b⟩ p = D at *
 by_cases h1:op = 1
 ·subst h1
  have e1:((1:Int) == 1) = true:=rfl
  have HE:Hid (D = decide (a = 0 /\ b = 0)):=HD.out
  clear HD
  by_cases ha:a = 0
  ·subst ha
   have ea:((0:Int) == 0) = true:=rfl
   go_enter Tryz.func67,Tryz.ntmps67
   go_wp2
   go_ret
   exact ⟨ret_bool (by rw [HE.out]; simp [beqz]),HBl.out⟩
  ·have ea:(a == 0) = false:=by simpa using ha
   go_enter Tryz.func67,Tryz.ntmps67
   go_wp2
   go_ret
   exact ⟨ret_bool (by rw [HE.out]; simp [ha]),HBl.out⟩
 have e1:(op == 1) = false:=by simpa using h1
 by_cases h2:op = 2
 ·subst h2
  have e2:((2:Int) == 2) = true:=rfl
  have HE:Hid (D = (decide (num = 0) && (aheadB a p && decide (b = 0)))):=HD.out
  clear HD h1
  by_cases hn:num = 0
  ·subst hn
   have en:((0:Int) == 0) = true:=rfl
   cases haa:aheadB a p
   ·rw [haa] at HE
    have HA2:Hid (Calls Tryz.prog 104 #[I J a,.pointer (some ⟨w.heap.size + 1,0,none⟩)] ((w.alloc (.cells #[I J 2,I J 0,I J a,I J b] 53)).alloc (.cells #[I J p] 3)) fun e w'=>e = .returned (.bool false) /\ ((w.alloc (.cells #[I J 2,I J 0,I J a,I J b] 53)).alloc (.cells #[I J p] 3)) = w'):=by have:=HA.out a; rw [haa] at this; exact this
    clear HA haa
    go_enter Tryz.func67,Tryz.ntmps67
    go_wp2_with (go_at_call 104; refine (HA2.out).mono ?_; rintro e w' ⟨rfl,rfl⟩)
    go_ret
    exact ⟨ret_bool (by rw [HE.out]; simp),HBl.out⟩
   ·rw [haa] at HE
    have HA2:Hid (Calls Tryz.prog 104 #[I J a,.pointer (some ⟨w.heap.size + 1,0,none⟩)] ((w.alloc (.cells #[I J 2,I J 0,I J a,I J b] 53)).alloc (.cells #[I J p] 3)) fun e w'=>e = .returned (.bool true) /\ ((w.alloc (.cells #[I J 2,I J 0,I J a,I J b] 53)).alloc (.cells #[I J p] 3)) = w'):=by have:=HA.out a; rw [haa] at this; exact this
    clear HA haa
    go_enter Tryz.func67,Tryz.ntmps67
    go_wp2_with (go_at_call 104; refine (HA2.out).mono ?_; rintro e w' ⟨rfl,rfl⟩)
    go_ret
    exact ⟨ret_bool (by rw [HE.out]; simp [beqz]),HBl.out⟩
  ·have en:(num == 0) = false:=by simpa using hn
   go_enter Tryz.func67,Tryz.ntmps67
   go_wp2
   go_ret
   exact ⟨ret_bool (by rw [HE.out]; simp [hn]),HBl.out⟩
 have e2:(op == 2) = false:=by simpa using h2
 by_cases h3:3 <= op /\ op <= 7
 ·have HE:Hid (D = (decide (num = 0) && (aheadB a p && aheadB b p))):=by have:=HD.out; rw [if_neg h1,if_neg h2,if_pos h3] at this; exact this
  clear HD
  have hop:op = 3 \/ op = 4 \/ op = 5 \/ op = 6 \/ op = 7:=by omega
  clear h1 h2 h3 e1 e2
  by_cases hn:num = 0
  ·subst hn
   have en:((0:Int) == 0) = true:=rfl
   cases haa:aheadB a p
   ·rw [haa] at HE
    have hA2:=HA.out a
    rw [haa] at hA2
    clear haa HA
    rcases hop with rfl | rfl | rfl | rfl | rfl
    all_goals
     go_enter Tryz.func67,Tryz.ntmps67
     go_wp2_with (go_at_call 104; refine (hA2).mono ?_; rintro e w' ⟨rfl,rfl⟩)
     go_ret
     exact ⟨ret_bool (by rw [HE.out]; simp),HBl.out⟩
   ·rw [haa] at HE
    have hA2:=HA.out a
    have hB2:=HA.out b
    rw [haa] at hA2
    have HAa:Hid (Calls Tryz.prog 104 #[I J a,.pointer (some ⟨w.heap.size + 1,0,none⟩)] ((w.alloc (.cells #[I J op,I J 0,I J a,I J b] 53)).alloc (.cells #[I J p] 3)) fun e w'=>e = .returned (.bool true) /\ ((w.alloc (.cells #[I J op,I J 0,I J a,I J b] 53)).alloc (.cells #[I J p] 3)) = w'):=hA2
    have HBb:Hid (Calls Tryz.prog 104 #[I J b,.pointer (some ⟨w.heap.size + 1,0,none⟩)] ((w.alloc (.cells #[I J op,I J 0,I J a,I J b] 53)).alloc (.cells #[I J p] 3)) fun e w'=>e = .returned (.bool (aheadB b p)) /\ ((w.alloc (.cells #[I J op,I J 0,I J a,I J b] 53)).alloc (.cells #[I J p] 3)) = w'):=hB2
    clear haa HA hA2 hB2
    generalize aheadB b p = rb at *
    rcases hop with rfl | rfl | rfl | rfl | rfl
    all_goals
     go_enter Tryz.func67,Tryz.ntmps67
     go_wp2_with fail
     refine (HAa.out).mono ?_
     rintro e w' ⟨rfl,rfl⟩
     go_wp2_with fail
     refine (HBb.out).mono ?_
     rintro e w' ⟨rfl,rfl⟩
     go_wp2
     go_ret
     exact ⟨ret_bool (by rw [HE.out]; simp),HBl.out⟩
  ·have en:(num == 0) = false:=by simpa using hn
   rcases hop with rfl | rfl | rfl | rfl | rfl
   all_goals
    go_enter Tryz.func67,Tryz.ntmps67
    go_wp2
    go_ret
    exact ⟨ret_bool (by rw [HE.out]; simp [hn]),HBl.out⟩
 ·have HE:Hid (D = false):=by have:=HD.out; rw [if_neg h1,if_neg h2,if_neg h3] at this; exact this
  have e3:(op == 3) = false:=by rw [beq_eq_false_iff_ne]; omega
  have e4:(op == 4) = false:=by rw [beq_eq_false_iff_ne]; omega
  have e5:(op == 5) = false:=by rw [beq_eq_false_iff_ne]; omega
  have e6:(op == 6) = false:=by rw [beq_eq_false_iff_ne]; omega
  have e7:(op == 7) = false:=by rw [beq_eq_false_iff_ne]; omega
  clear HD h1 h2 h3
  go_enter Tryz.func67,Tryz.ntmps67
  go_wp2
  go_ret
  exact ⟨ret_bool (by rw [HE.out]),HBl.out⟩
set_option maxRecDepth 20000
set_option maxHeartbeats 1000000
/-- Definitions that can be read in a world. -/
structure DfsAt (w:World) (ao:Option Addr) (n:Nat) (l:List Df):Prop where
 length:l.length = n
 short:n <= maxLen
 fits:∀ d ∈ l,InR d.num
 cells:0 < n -> ∃ g off,ao = some ⟨g,off,none⟩ /\ ∀ (i:Nat) (d:Df),l[i]? = some d -> w.cell? ⟨g,off + i * 4,none⟩ = some (I J d.op) /\ w.cell? ⟨g,off + i * 4 + 1,none⟩ = some (I J d.num) /\ w.cell? ⟨g,off + i * 4 + 2,none⟩ = some (I J d.a) /\ w.cell? ⟨g,off + i * 4 + 3,none⟩ = some (I J d.b)
theorem DfsAt.below {w w':World} {ao:Option Addr} {n:Nat} {l:List Df} (h:DfsAt w ao n l) (hb:Below w.heap.size w w'):DfsAt w' ao n l:=by
 refine ⟨h.length,h.short,h.fits,fun h0=>?_⟩
 obtain ⟨g,off,e,hc⟩:=h.cells h0
 refine ⟨g,off,e,fun i d hi=>?_⟩
 obtain ⟨h1,h2,h3,h4⟩:=hc i d hi
 exact ⟨by rw [hb.cell (World.block_lt_of_cell? w _ h1)]; exact h1,by rw [hb.cell (World.block_lt_of_cell? w _ h2)]; exact h2,by rw [hb.cell (World.block_lt_of_cell? w _ h3)]; exact h3,by rw [hb.cell (World.block_lt_of_cell? w _ h4)]; exact h4⟩
theorem DfsAt.nil (w:World) (ao:Option Addr):DfsAt w ao 0 []:=⟨rfl,Nat.zero_le _,fun d hd=>by simp at hd,fun h=>absurd h (by decide)⟩
def ValPost (r:List Int × Int) (w:World) (e:Ending) (w':World):Prop:=
 ∃ ao cap,e = .returned (.tuple #[.slice ao r.1.length cap,I J r.2]) /\ w'.ownsRow w.heap.size 3 1 (.slice ao r.1.length cap) r.1.length (itRow r.1) /\ Below w.heap.size w w'
theorem defB_in {d:Df} {n:Nat} (h:defB d n = true) (hn:InR d.num):DfIn d n:=by
 unfold defB at h
 split at h
 ·exact ⟨hn,fun h1=>by omega,fun h1=>by omega⟩
 ·split at h
  ·simp only [Bool.and_eq_true,aheadB,decide_eq_true_eq] at h
   exact ⟨hn,fun _ _=>h.2.1,fun h1=>by omega⟩
  ·split at h
   ·simp only [Bool.and_eq_true,aheadB,decide_eq_true_eq] at h
    exact ⟨hn,fun _ _=>h.2.1,fun _ _=>h.2.2⟩
   ·cases h
theorem own_isI' {w:World} {base:Nat} {vo:Option Addr} {i vc:Nat} {vs:List Int} (h:w.ownsRow base 3 1 (.slice vo i vc) i (itRow vs)) (hl:vs.length = i):IsI w vo vs:=by
 subst hl
 obtain ⟨ao,cap,e,hI⟩:=own_isI h
 cases e
 exact hI
theorem dropD {α:Type} {l:List α} {i:Nat} {d:α} (h:l[i]? = some d):l.drop i = d :: l.drop (i + 1):=by
 obtain ⟨h1,h2⟩:=List.getElem?_eq_some_iff.1 h
 rw [List.drop_eq_getElem_cons h1,h2]
theorem none_row (w:World) (base:Nat) (e:TypeId) (size:Nat):w.ownsRow base e size (.slice none 0 0) 0 []:=⟨by simp,.inl ⟨rfl,rfl⟩⟩
theorem values_calls (l:List Df) (ao:Option Addr) (n cc:Nat) (w:World) (h:DfsAt w ao n l) :
 Calls Tryz.prog 36 #[.slice ao n cc] w fun e w'=>ValPost (valsB l) w e w':=by
 have hns:=h.short
 unfold maxLen at hns
 have hlen:=h.length
 by_cases hbig:5004 < n
 ·have HX:Hid (valsB l = ([],2)):=by show valsB l = _; unfold valsB; rw [if_pos (by omega)]
  clear h hlen
  go_enter Tryz.func36,Tryz.ntmps36
  go_wp2
  go_ret2
  show ValPost _ _ _ _
  rw [HX.out]
  exact ⟨none,0,rfl,none_row _ _ _ _,Below.refl _ _⟩
 ·have hd:decide ((5004:Int) < (n:Int)) = false:=by simp; omega
  obtain ⟨R,hR⟩:∃ R,valF l [] = R:=⟨_,rfl⟩
  have HX:Hid (valsB l = valE R):=by show valsB l = _; rw [valsB_eq (by omega),hR]
  have HR:Hid (valF (l.drop 0) [] = R):=by rw [List.drop_zero]; exact hR
  have HD:Hid (DfsAt w ao n l):=h
  clear hR h hlen
  obtain ⟨i0,hi,hz0,hz1,hz2⟩:=info_parts info3
  go_enter Tryz.func36,Tryz.ntmps36
  go_wp2_with (at_make; refine wpList_make_own _ rfl _ _ 23 rfl w.heap.size 3 i0 _ 1 Tryz.underlying23 hi hz0 hz1 .i64 .i64 _ n rfl rfl rfl (by rw [hz2]; omega) (by unfold maxLen; omega) (Nat.le_refl _) ?_; intro w2 hr hg)
  have HO:Hid (w2.ownsRow w.heap.size 3 1 (.slice (some ⟨w.heap.size,0,none⟩) 0 n) 0 [] /\ Below w.heap.size w w2):=⟨hr,(Below.refl _ _).grown hg (Nat.le_refl _) (by intro k hk; cases hk)⟩
  clear hr hg
  go_loopg [17,4] n (fun k iv kv wr=>∃ (vs:List Int) (vo:Option Addr) (vc i:Nat),iv = I J (i:Int) /\ kv = .slice vo i vc /\ i + k = n /\ Hid (valF (l.drop i) vs = R /\ vs.length = i /\ (∀ v ∈ vs,-144115188075855872 <= v /\ v <= 144115188075855872) /\ wr.ownsRow w.heap.size 3 1 (.slice vo i vc) i (itRow vs) /\ Below w.heap.size w wr))
  case atStart=>exact ⟨[],_,n,0,rfl,rfl,by omega,HR.out,rfl,fun v hv=>by simp at hv,HO.out.1,HO.out.2⟩
  case round=>
   clear HO HR
   obtain ⟨vs,vo,vc,i,rfl,rfl,hik,HT⟩:=hrel
   by_cases hin:i < n
   ·obtain ⟨d,hdi⟩:∃ d,l[i]? = some d:=⟨l[i]'(by rw [HD.out.length]; exact hin),List.getElem?_eq_getElem _⟩
    obtain ⟨g,off,hao,hcs⟩:=HD.out.cells (by omega)
    subst hao
    obtain ⟨b0,b1,b2,b3⟩:=hcs i d hdi
    obtain ⟨t1,t2,t3,t4,t5⟩:=HT.out
    rw [dropD hdi] at t1
    have HDr:Hid (l.drop i = d :: l.drop (i + 1)):=dropD hdi
    have hdn:=HD.out.fits d (List.mem_of_getElem? hdi)
    have x0:wr.cell? ⟨g,off + i * 4,none⟩ = some (I J d.op):=by rw [t5.cell (World.block_lt_of_cell? w _ b0)]; exact b0
    have x1:wr.cell? ⟨g,off + i * 4 + 1,none⟩ = some (I J d.num):=by rw [t5.cell (World.block_lt_of_cell? w _ b1)]; exact b1
    have x2:wr.cell? ⟨g,off + i * 4 + 2,none⟩ = some (I J d.a):=by rw [t5.cell (World.block_lt_of_cell? w _ b2)]; exact b2
    have x3:wr.cell? ⟨g,off + i * 4 + 3,none⟩ = some (I J d.b):=by rw [t5.cell (World.block_lt_of_cell? w _ b3)]; exact b3
    have hC1:=isDef_calls d (i:Int) (wr.alloc (.cells #[I J d.op,I J d.num,I J d.a,I J d.b] 53))
    unfold dfV at hC1
    clear hcs b0 b1 b2 b3 hdi
    cases hdb:defB d i with
    | false=>
      have HY:Hid (R = .error 1):=by rw [<- t1]; exact valF_bad (by rw [t2]; exact hdb)
      rw [hdb] at hC1
      have HC1:Hid (Calls Tryz.prog 67 #[.agg #[I J d.op,I J d.num,I J d.a,I J d.b],I J (i:Int)] (wr.alloc (.cells #[I J d.op,I J d.num,I J d.a,I J d.b] 53)) fun e w'=>e = .returned (.bool false) /\ Below (wr.alloc (.cells #[I J d.op,I J d.num,I J d.a,I J d.b] 53)).heap.size (wr.alloc (.cells #[I J d.op,I J d.num,I J d.a,I J d.b] 53)) w'):=hC1
      have HB:Hid (Below w.heap.size w wr):=t5
      clear hC1 hdb t1 t2 t3 t4 t5 HT hdn
      go_wp2_with fail
      refine (HC1.out).mono ?_
      rintro e w3 ⟨rfl,hb3⟩
      have HB3:Hid (Below w.heap.size w w3):=HB.out.trans ((below_box' hb3).mono HB.out.size)
      clear hb3
      go_wp2
      go_ret2
      show ValPost _ _ _ _
      rw [HX.out,HY.out]
      exact ⟨none,0,rfl,none_row _ _ _ _,HB3.out⟩
    | true=>
      rw [hdb] at hC1
      have HC1:Hid (Calls Tryz.prog 67 #[.agg #[I J d.op,I J d.num,I J d.a,I J d.b],I J (i:Int)] (wr.alloc (.cells #[I J d.op,I J d.num,I J d.a,I J d.b] 53)) fun e w'=>e = .returned (.bool true) /\ Below (wr.alloc (.cells #[I J d.op,I J d.num,I J d.a,I J d.b] 53)).heap.size (wr.alloc (.cells #[I J d.op,I J d.num,I J d.a,I J d.b] 53)) w'):=hC1
      have HDI:Hid (DfIn d vs.length):=by show DfIn d _; rw [t2]; exact defB_in hdb hdn
      have HDB:Hid (defB d vs.length = true):=by rw [t2]; exact hdb
      clear hC1 hdb t1 t2 t3 t4 t5 hdn
      go_wp2_with fail
      refine (HC1.out).mono ?_
      rintro e w3 ⟨rfl,hb3⟩
      have hB3:=below_box' hb3
      have y0:w3.cell? ⟨wr.heap.size,0,none⟩ = some (I J d.op):=by rw [hb3.cell (by simp)]; exact blk (heap_alloc_new wr _) rfl
      have y1:w3.cell? ⟨wr.heap.size,1,none⟩ = some (I J d.num):=by rw [hb3.cell (by simp)]; exact blk (heap_alloc_new wr _) rfl
      have y2:w3.cell? ⟨wr.heap.size,2,none⟩ = some (I J d.a):=by rw [hb3.cell (by simp)]; exact blk (heap_alloc_new wr _) rfl
      have y3:w3.cell? ⟨wr.heap.size,3,none⟩ = some (I J d.b):=by rw [hb3.cell (by simp)]; exact blk (heap_alloc_new wr _) rfl
      have HT3:Hid (valF (d :: l.drop (i + 1)) vs = R /\ vs.length = i /\ (∀ v ∈ vs,-144115188075855872 <= v /\ v <= 144115188075855872) /\ w3.ownsRow w.heap.size 3 1 (.slice vo i vc) i (itRow vs) /\ Below w.heap.size w w3):=by
       obtain ⟨t1,t2,t3,t4,t5⟩:=HT.out
       rw [HDr.out] at t1
       exact ⟨t1,t2,t3,owned_below t4 hB3,t5.trans (hB3.mono t5.size)⟩
      have hC2:=worth_calls d vs vo vc w3 (own_isI' HT3.out.2.2.2.1 HT3.out.2.1) HT3.out.2.2.1 HDI.out
      rw [HT3.out.2.1] at hC2
      unfold dfV at hC2
      clear hb3 hB3 HT HC1 x0 x1 x2 x3
      have HC2:Hid (Calls Tryz.prog 68 #[.agg #[I J d.op,I J d.num,I J d.a,I J d.b],.slice vo i vc] w3 (WPost (rawB vs d) w3)):=hC2
      clear hC2
      go_wp2_with fail
      refine (HC2.out).mono ?_
      intro e w4 hp
      obtain ⟨v,he,hv,hb4⟩:=wpost_parts hp
      subst he
      clear hp
      cases hm:inB maxV (rawB vs d) with
      | false=>
        have HY:Hid (R = .error 93):=by rw [<- HT3.out.1]; exact valF_far HDB.out hm
        have HB4:Hid (Below w.heap.size w w4):=HT3.out.2.2.2.2.trans (hb4.mono HT3.out.2.2.2.2.size)
        clear hb4 hv hm HT3 y0 y1 y2 y3
        go_wp2
        go_ret2
        show ValPost _ _ _ _
        rw [HX.out,HY.out]
        exact ⟨none,0,rfl,none_row _ _ _ _,HB4.out⟩
      | true=>
        have hv2:=hv hm
        subst hv2
        have HT4:Hid (valF (l.drop (i + 1)) (vs ++ [rawB vs d]) = R /\ vs.length = i /\ (∀ v ∈ vs ++ [rawB vs d],-144115188075855872 <= v /\ v <= 144115188075855872) /\ (w4.alloc (.cells #[I J (rawB vs d)] 3)).ownsRow w.heap.size 3 1 (.slice vo i vc) i (itRow vs) /\ Below w.heap.size w (w4.alloc (.cells #[I J (rawB vs d)] 3))):=by
         obtain ⟨t1,t2,t3,t4,t5⟩:=HT3.out
         have hb5:Below w3.heap.size w3 (w4.alloc (.cells #[I J (rawB vs d)] 3)):=hb4.alloc hb4.size _
         refine ⟨by rw [<- t1]; exact (valF_ok HDB.out hm).symm,t2,fun u hu=>?_,owned_below t4 hb5,t5.trans (hb5.mono t5.size)⟩
         rcases List.mem_append.1 hu with h1 | h1
         ·exact t3 u h1
         ·rw [List.mem_singleton.1 h1]; exact (inB_iff _ _).1 hm
        generalize rawB vs d = r at *
        clear hb4 hv hm HT3 y0 y1 y2 y3 HC2 HDI HDB
        go_wp2_with (at_builtin; refine wpList_append_own _ rfl _ _ 23 rfl w.heap.size 3 i0 _ 1 8 Tryz.underlying23 hi hz0 hz1 hz2 rfl (by decide) (.slice vo i vc) i (itRow vs) rfl HT4.out.2.2.2.1 ⟨w4.heap.size,0,none⟩ 1 1 [I J r] rfl rfl (it_new w4 r) (it_one r) (by unfold maxLen; omega) (by omega) HT4.out.2.2.2.2.size ?_)
        intro v' w5 ho hg _
        obtain ⟨vo5,vc5,rfl⟩:=owned_shape ho
        have HN:Hid (w5.ownsRow w.heap.size 3 1 (.slice vo5 (i + 1) vc5) (i + 1) (itRow (vs ++ [r])) /\ Below w.heap.size w w5):=by
         refine ⟨by rw [itRow_snoc]; exact ho,HT4.out.2.2.2.2.grown hg HT4.out.2.2.2.2.size (fun k hk=>?_)⟩
         rcases HT4.out.2.2.2.1.2 with ⟨e,_⟩ | ⟨q,cap,cur,e,hq,_⟩
         ·cases e; cases hk
         ·cases e; cases hk; exact hq
        clear ho hg
        go_wp2_with fail
        go_roundg (gk - 1)
        case measure=>omega
        case rel=>exact ⟨vs ++ [r],vo5,vc5,i + 1,by go_num,rfl,by omega,HT4.out.1,by rw [List.length_append,HT4.out.2.1]; rfl,HT4.out.2.2.1,HN.out.1,HN.out.2⟩
   ·have hin2:i = n:=by omega
    subst hin2
    have HY:Hid (R = .ok vs /\ vs.length = i /\ wr.ownsRow w.heap.size 3 1 (.slice vo i vc) i (itRow vs) /\ Below w.heap.size w wr):=by
     obtain ⟨t1,t2,t3,t4,t5⟩:=HT.out
     rw [List.drop_eq_nil_of_le (by rw [HD.out.length]; omega)] at t1
     exact ⟨t1.symm,t2,t4,t5⟩
    clear HT
    go_wp2
    go_ret2
    show ValPost _ _ _ _
    rw [HX.out,HY.out.1]
    have e:vs.length = i:=HY.out.2.1
    exact ⟨vo,vc,by show _ = Ending.returned (.tuple #[.slice vo vs.length vc,I J 0]); rw [e]; rfl,by show wr.ownsRow _ _ _ (.slice vo vs.length vc) vs.length _; rw [e]; exact HY.out.2.2.1,HY.out.2.2.2⟩
set_option maxRecDepth 20000
set_option maxHeartbeats 1000000
def placeB (vs:List Int) (least p:Int):Bool:=decide (0 <= p /\ p < vs.length /\ least <= vAt vs p /\ vAt vs p <= 72057594037927936)
def fromP (vs:List Int) (least:Int) (ps:List Int):Bool:=ps.all (placeB vs least)
theorem fromP_bad {vs:List Int} {least:Int} {ps:List Int} (k:Nat) (p:Int) (hk:ps[k]? = some p) (h:placeB vs least p = false):fromP vs least ps = false:=by
 unfold fromP
 rw [List.all_eq_false]
 exact ⟨p,List.mem_of_getElem? hk,by simp [h]⟩
theorem fromP_all {vs:List Int} {least:Int} {ps:List Int} (h:∀ (j:Nat) (p:Int),ps[j]? = some p -> placeB vs least p = true):fromP vs least ps = true:=by
 unfold fromP
 rw [List.all_eq_true]
 intro p hp
 obtain ⟨j,hj⟩:=List.getElem?_of_mem hp
 exact h j p hj
/-- Numbers that can be read in a world. -/
structure IntA (w:World) (ao:Option Addr) (n:Nat) (l:List Int):Prop where
 length:l.length = n
 short:n <= maxLen
 isI:IsI w ao l
theorem IntA.below {w w':World} {ao:Option Addr} {n:Nat} {l:List Int} (h:IntA w ao n l) (hb:Below w.heap.size w w'):IntA w' ao n l:=⟨h.length,h.short,h.isI.below hb⟩
theorem intA_new {W:World} {l:List Int} {g:Nat} (hg:g = W.heap.size) (hs:l.length <= maxLen):IntA (W.alloc (.cells (itRow l).toArray 3)) (some ⟨g,0,none⟩) l.length l:=by
 subst hg
 refine ⟨rfl,hs,fun i v hi=>⟨_,0,rfl,?_⟩⟩
 rw [Nat.zero_add]
 exact blk (heap_alloc_new W _) (by simp [itRow,hi])
theorem intA_own {w:World} {base:Nat} {vo:Option Addr} {n vc:Nat} {vs:List Int} (h:w.ownsRow base 3 1 (.slice vo n vc) n (itRow vs)) (hl:vs.length = n) (hs:n <= maxLen):IntA w vo n vs:=⟨hl,hs,own_isI' h hl⟩
theorem from_calls (vs:List Int) (vo:Option Addr) (vn vc g:Nat) (least:Int) (ps:List Int) (po:Option Addr) (pn pc:Nat) (w:World) (hv:IntA w vo vn vs) (hp:IntA w po pn ps) (hg:w.cell? ⟨g,0,none⟩ = some (.slice vo vn vc)) :
 Calls Tryz.prog 141 #[I J least,.slice po pn pc,.pointer (some ⟨g,0,none⟩)] w fun e w'=>e = .returned (.bool (fromP vs least ps)) /\ w = w':=by
 have hpn:=hp.short
 have hvn:=hv.short
 unfold maxLen at hpn hvn
 have HV:Hid (IntA w vo vn vs):=hv
 have HP:Hid (IntA w po pn ps):=hp
 clear hv hp
 go_enter Tryz.func141,Tryz.ntmps141
 go_wp2
 go_loop [7,10] (fun _ i=>∃ k:Nat,k <= pn /\ i = I J k /\ (∀ (j:Nat) (p:Int),j < k -> ps[j]? = some p -> placeB vs least p = true)) (fun _ i=>pn - (intOf i).toNat)
 case atStart=>exact ⟨0,Nat.zero_le _,rfl,fun j p hj=>by omega⟩
 case round=>
  obtain ⟨k,hk,rfl,hall⟩:=hrel
  have HA:Hid (∀ (j:Nat) (p:Int),j < k -> ps[j]? = some p -> placeB vs least p = true):=hall
  clear hall
  by_cases hlt:k < pn
  ·obtain ⟨p,hpk⟩:∃ p,ps[k]? = some p:=⟨ps[k]'(by rw [HP.out.length]; exact hlt),List.getElem?_eq_getElem _⟩
   obtain ⟨g1,o1,rfl,hc1⟩:=HP.out.isI k p hpk
   have HK:Hid (ps[k]? = some p):=hpk
   clear hpk
   by_cases hp0:p < 0
   ·have HE:Hid (fromP vs least ps = false):=fromP_bad k p HK.out (by simp [placeB]; omega)
    go_wp2
    go_ret
    rw [HE.out]; exact ⟨rfl,rfl⟩
   by_cases hp1:(vn:Int) <= p
   ·have HE:Hid (fromP vs least ps = false):=fromP_bad k p HK.out (by have:=HV.out.length; simp [placeB]; omega)
    go_wp2
    go_ret
    rw [HE.out]; exact ⟨rfl,rfl⟩
   obtain ⟨q,rfl⟩:=Int.eq_ofNat_of_zero_le (show 0 <= p by omega)
   have hq:q < vn:=by omega
   have hvq:=vAt_get (vs:=vs) (i:=q) (by rw [HV.out.length]; exact hq)
   obtain ⟨g2,o2,rfl,hc2⟩:=HV.out.isI q _ hvq
   have HPl:Hid (placeB vs least (q:Int) = decide (least <= vAt vs q /\ vAt vs q <= 72057594037927936)):=by
    have:=HV.out.length
    show placeB _ _ _ = _
    unfold placeB
    congr 1
    apply propext
    constructor
    ·intro h; exact h.2.2
    ·intro h; exact ⟨by omega,by omega,h⟩
   clear hvq hp0 hp1
   generalize vAt vs (q:Int) = v at *
   by_cases h1:v < least
   ·have HE:Hid (fromP vs least ps = false):=fromP_bad k _ HK.out (by rw [HPl.out]; simp; omega)
    go_wp2
    go_ret
    rw [HE.out]; exact ⟨rfl,rfl⟩
   by_cases h2:72057594037927936 < v
   ·have HE:Hid (fromP vs least ps = false):=fromP_bad k _ HK.out (by rw [HPl.out]; simp; omega)
    go_wp2
    go_ret
    rw [HE.out]; exact ⟨rfl,rfl⟩
   go_wp2
   go_round
   case rel=>
    refine ⟨k + 1,by omega,by go_num,?_⟩
    intro j p' hj hjp
    by_cases e:j = k
    ·subst e; rw [HK.out] at hjp; cases hjp; rw [HPl.out]; simp; omega
    ·exact HA.out j p' (by omega) hjp
   case measure=>simp [intOf]; omega
  ·have HE:Hid (fromP vs least ps = true):=fromP_all (fun j p hj=>HA.out j p (by have:=(List.getElem?_eq_some_iff.1 hj).1; rw [HP.out.length] at this; omega) hj)
   go_wp2
   go_ret
   rw [HE.out]; exact ⟨rfl,rfl⟩
end Go.Proofs.YtbbbnopganhebabGreat
