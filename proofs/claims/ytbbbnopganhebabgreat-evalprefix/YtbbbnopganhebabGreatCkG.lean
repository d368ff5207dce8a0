/-
  A tree as a scheme: Check, all of it.
-/
import Derived.Test.YtbbbnopganhebabGreatG44
namespace Go.Proofs.YtbbbnopganhebabGreat
open Go.RowKit Go.Deep Go.Maps
open Go.Value renaming int->I
open Go.IntKind renaming i64->J
set_option maxRecDepth 20000
set_option maxHeartbeats 1000000
def endR:Er Ck -> Er Ck
 | .error f=>.error f
 | .ok c=>endsB c
theorem checkG_eq {L:List It} (h:treeRight L = true):checkG (treeRight L) L = endR (takeAll L ck0):=by
 unfold checkG
 rw [h,if_neg (by decide)]
 cases takeAll L ck0 <;> rfl
theorem takeAll_err {c:Ck} {i:It} {r:List It} {f:Int × Int} (h:takeC c i = .error f):takeAll (i :: r) c = .error f:=by simp only [takeAll,h]
theorem takeAll_ok {c c':Ck} {i:It} {r:List It} (h:takeC c i = .ok c'):takeAll (i :: r) c = takeAll r c':=by simp only [takeAll,h]
theorem ck_res13 {w W:World} {O:Nat -> Prop} {b:Nat} {s:Sl} {c:Ck} (h:CkAt O b s c W) (h1:¬ O (w.heap.size + 1)) (h2:¬ O (w.heap.size + 1 + 1)) (v0 v1 v2 v3 v4 v5 v6 v7 v8 v9 v10 u0 u1:Value):CkAt O b s c (((((((((((((W.setCell ⟨w.heap.size + 1,0,none⟩ v0).setCell ⟨w.heap.size + 1,1,none⟩ v1).setCell ⟨w.heap.size + 1,2,none⟩ v2).setCell ⟨w.heap.size + 1,3,none⟩ v3).setCell ⟨w.heap.size + 1,4,none⟩ v4).setCell ⟨w.heap.size + 1,5,none⟩ v5).setCell ⟨w.heap.size + 1,6,none⟩ v6).setCell ⟨w.heap.size + 1,7,none⟩ v7).setCell ⟨w.heap.size + 1,8,none⟩ v8).setCell ⟨w.heap.size + 1,9,none⟩ v9).setCell ⟨w.heap.size + 1,10,none⟩ v10).setCell ⟨w.heap.size + 1 + 1,0,none⟩ u0).setCell ⟨w.heap.size + 1 + 1,1,none⟩ u1):=(ck_set (ck_set (ck_set (ck_set (ck_set (ck_set (ck_set (ck_set (ck_set (ck_set (ck_set (ck_set (ck_set h h1 0 v0) h1 1 v1) h1 2 v2) h1 3 v3) h1 4 v4) h1 5 v5) h1 6 v6) h1 7 v7) h1 8 v8) h1 9 v9) h1 10 v10) h2 0 u0) h2 1 u1)
theorem schAt_of {O:Nat -> Prop} {b:Nat} {s:Sl} {c:Ck} {W:World} (h:CkAt O b s c W):SchAt W c s:=⟨h.defs,h.subst,h.pieces⟩
theorem cr0 (w:World) (ao:Option Addr) (n cc:Nat):CR w (((w.alloc (.cells #[.slice ao n cc] 85)).alloc (.cells #[.string ⟨#[]⟩,.slice none 0 0,.slice none 0 0,.slice none 0 0,I J 0,.bool false,I J 0,I J 0,I J 0,I J 0,I J 0] 57)).alloc (.cells #[I J 0,I J 0] 87)) /\ (((w.alloc (.cells #[.slice ao n cc] 85)).alloc (.cells #[.string ⟨#[]⟩,.slice none 0 0,.slice none 0 0,.slice none 0 0,I J 0,.bool false,I J 0,I J 0,I J 0,I J 0,I J 0] 57)).alloc (.cells #[I J 0,I J 0] 87)).heap[w.heap.size]? = some (.cells #[.slice ao n cc] 85 (0,0)):=by
 have hb:Below w.heap.size w (((w.alloc (.cells #[.slice ao n cc] 85)).alloc (.cells #[.string ⟨#[]⟩,.slice none 0 0,.slice none 0 0,.slice none 0 0,I J 0,.bool false,I J 0,I J 0,I J 0,I J 0,I J 0] 57)).alloc (.cells #[I J 0,I J 0] 87)):=(((Below.refl _ _).alloc (Nat.le_refl _) _).alloc (by simp) _).alloc (by simp; omega) _
 refine ⟨⟨hb,?_,?_⟩,?_⟩
 ·have h1:=heap_alloc_new (w.alloc (.cells #[.slice ao n cc] 85)) (.cells #[.string ⟨#[]⟩,.slice none 0 0,.slice none 0 0,.slice none 0 0,I J 0,.bool false,I J 0,I J 0,I J 0,I J 0,I J 0] 57)
  have hb:=(Below.refl _ _).alloc (Nat.le_refl _) (a:=((w.alloc (.cells #[.slice ao n cc] 85)).alloc (.cells #[.string ⟨#[]⟩,.slice none 0 0,.slice none 0 0,.slice none 0 0,I J 0,.bool false,I J 0,I J 0,I J 0,I J 0,I J 0] 57))) (.cells #[I J 0,I J 0] 87)
  rw [hb.block _ (by simp)]
  rwa [show (w.alloc (.cells #[.slice ao n cc] 85)).heap.size = w.heap.size + 1 by simp] at h1
 ·have h1:=heap_alloc_new ((w.alloc (.cells #[.slice ao n cc] 85)).alloc (.cells #[.string ⟨#[]⟩,.slice none 0 0,.slice none 0 0,.slice none 0 0,I J 0,.bool false,I J 0,I J 0,I J 0,I J 0,I J 0] 57)) (.cells #[I J 0,I J 0] 87)
  rwa [show ((w.alloc (.cells #[.slice ao n cc] 85)).alloc (.cells #[.string ⟨#[]⟩,.slice none 0 0,.slice none 0 0,.slice none 0 0,I J 0,.bool false,I J 0,I J 0,I J 0,I J 0,I J 0] 57)).heap.size = w.heap.size + 1 + 1 by simp] at h1
 ·have h1:=heap_alloc_new w (.cells #[.slice ao n cc] 85)
  have hb:=((Below.refl _ _).alloc (Nat.le_refl _) (a:=(w.alloc (.cells #[.slice ao n cc] 85))) (.cells #[.string ⟨#[]⟩,.slice none 0 0,.slice none 0 0,.slice none 0 0,I J 0,.bool false,I J 0,I J 0,I J 0,I J 0,I J 0] 57)).alloc (by simp) (.cells #[I J 0,I J 0] 87)
  rw [hb.block _ (by simp)]
  exact h1
theorem check_calls (L:List It) (ao:Option Addr) (n cc:Nat) (w:World) (hF:ItsAt false (fun _=>True) w L ao n) (hn:n <= maxLen) (hr:treeRight L = true) (hA:L.all itSim = true) (HRk:Hid (∃ c1 c2,takeAll L ck0 = .ok c1 /\ endsB c1 = .ok c2 /\ c1.had 9 = false /\ c1.had 10 = false)) :
 Calls Tryz.prog 29 #[.agg #[.slice ao n cc]] w fun e w'=>ChkPost (checkG (treeRight L) L) w e w':=by
 have hres:Tryz.f29.results = #[.cell 2 57,.cell 3 87]:=by kernel_rfl
 rw [checkG_eq hr]
 have hall:L.all itSim = true /\ L.length <= 100:=by
  have:=hr
  unfold treeRight at this
  simp only [Bool.and_eq_true,decide_eq_true_eq] at this
  exact ⟨hA,this.1⟩
 clear hA
 have hlen:=itsAt_len hF
 have hn100:n <= 100:=by omega
 obtain ⟨hR0,hBx⟩:=cr0 w ao n cc
 have HC:Hid (∀ W,Below w.heap.size w W -> Calls Tryz.prog 58 #[.agg #[.slice ao n cc]] W fun e w'=>e = .returned (.bool true) /\ Below W.heap.size W w'):=fun W hW=>by
  have:=right_calls L ao n cc W (hF.below hW) hn
  rw [hr] at this
  exact this
 have HR0:Hid (CR w (((w.alloc (.cells #[.slice ao n cc] 85)).alloc (.cells #[.string ⟨#[]⟩,.slice none 0 0,.slice none 0 0,.slice none 0 0,I J 0,.bool false,I J 0,I J 0,I J 0,I J 0,I J 0] 57)).alloc (.cells #[I J 0,I J 0] 87)) /\ (((w.alloc (.cells #[.slice ao n cc] 85)).alloc (.cells #[.string ⟨#[]⟩,.slice none 0 0,.slice none 0 0,.slice none 0 0,I J 0,.bool false,I J 0,I J 0,I J 0,I J 0,I J 0] 57)).alloc (.cells #[I J 0,I J 0] 87)).heap[w.heap.size]? = some (.cells #[.slice ao n cc] 85 (0,0))):=⟨hR0,hBx⟩
 have hF2:ItsAt false (fun g=>g < w.heap.size) w L ao n:=hF.base (fun g hg _=>hg)
 obtain ⟨g,off,hka,hF'⟩:=itsAt_addr hF2
 have HF:Hid (ItsAt false (fun g=>g < w.heap.size) w L (some ⟨g,off + 0 * 4,none⟩) (n - 0) /\ L.all itSim = true):=⟨hF',hall.1⟩
 generalize hRR:takeAll L ck0 = R at HRk ⊢
 have HRR:Hid (takeAll L ck0 = R):=hRR
 clear hRR hF hF2 hF' hall hr hlen hR0 hBx hn
 go_enter Tryz.func29,Tryz.ntmps29
 go_wp2_with fail
 refine (HC.out _ HR0.out.1.low).mono ?_
 rintro e w1 ⟨rfl,hb1⟩
 have HR1:Hid (CR w w1 /\ w1.heap[w.heap.size]? = some (.cells #[.slice ao n cc] 85 (0,0))):=⟨HR0.out.1.next hb1,by rw [hb1.block _ (lt_block HR0.out.2)]; exact HR0.out.2⟩
 clear hb1 HR0 HC
 go_wp2_with fail
 refine (newChecker_calls _).mono ?_
 rintro e w2 ⟨b,rfl,hs⟩
 obtain ⟨s0,hck,hb2⟩:=hs.out
 have HS2:Hid (CS w (.slice ao n cc) (fun g=>w1.heap.size <= g) b s0 ck0 w2):=by
  have h2:=HR1.out.1.next hb2
  have hl:=lt_block HR1.out.1.r2
  exact ⟨hck,fun g hg=>by have:w1.heap.size <= g:=hg; omega,h2.low,by rw [hb2.block _ (lt_block HR1.out.2)]; exact HR1.out.2,h2.r1,h2.r2⟩
 clear hs hck hb2 HR1
 have x0:w2.cell? ⟨w.heap.size,0,none⟩ = some (.slice ao n cc):=blk HS2.out.box rfl
 go_wp2_with fail
 go_loopg [18] n (fun k iv wr=>∃ (L':List It) (i:Nat) (O:Nat -> Prop) (s:Sl) (c:Ck),iv = I J (i:Int) /\ i + k = n /\ Hid (ItsAt false (fun g=>g < w.heap.size) wr L' (some ⟨g,off + i * 4,none⟩) (n - i) /\ L'.all itSim = true /\ takeAll L' c = R /\ CkB i c /\ CS w (.slice ao n cc) O b s c wr))
 case atStart=>exact ⟨L,0,_,s0,ck0,rfl,by omega,HF.out.1.below HS2.out.low,HF.out.2,HRR.out,ck0_ok,HS2.out⟩
 case round=>
  clear HS2 x0 HF HRR
  obtain ⟨L',i,O,s,c,rfl,hik,HT⟩:=hrel
  by_cases hi:i < n
  ·obtain ⟨h1,r1,ka1,kc1,kk1,rfl,-,hok1,hkc1,⟨c0,c1,c2,c3⟩,hk1,hr1⟩:=itsAt_head HT.out.1 hi
   have hka2:=hka (by omega)
   subst hka2
   have hbx:∀ o',Below wr.heap.size wr (wr.alloc o'):=fun o'=>(Below.refl _ _).alloc (Nat.le_refl _) o'
   obtain ⟨t1,t2,t3,t4,t5⟩:=HT.out
   have hri:itSim h1 = true /\ r1.all itSim = true:=by simpa using t2
   have HTk0:Hid (∀ c',takeC c h1 = .ok c' -> Calls Tryz.prog 60 #[.pointer (some ⟨b,0,none⟩),.agg #[I J h1.kind,.string (bs h1.name),.slice ka1 kc1 kk1,I J h1.pl]] (wr.alloc (.cells #[I J h1.kind,.string (bs h1.name),.slice ka1 kc1 kk1,I J h1.pl] 140)) (TPost O b (wr.alloc (.cells #[I J h1.kind,.string (bs h1.name),.slice ka1 kc1 kk1,I J h1.pl] 140)) (takeC c h1))):=
    fun c' hT=>take_calls (B:=w.heap.size) h1 ka1 kc1 kk1 _ (t5.ck.alloc _) t4.ok (fun g hg=>by have:=t5.off g hg; omega) (Nat.le_trans t5.low.size (hbx _).size) (hk1.below (hbx _)) hok1.name hri.1 hT
   have HR:Hid (ItsAt false (fun g=>g < w.heap.size) wr r1 (some ⟨g,off + (i + 1) * 4,none⟩) (n - (i + 1)) /\ r1.all itSim = true /\ takeAll (h1 :: r1) c = R /\ CkB i c /\ CS w (.slice (some ⟨g,off,none⟩) n cc) O b s c wr /\ itSim h1 = true /\ shortF h1.args):=⟨hr1,hri.2,t3,t4,t5,hri.1,foAt_short hk1⟩
   clear HT hk1 hr1 hok1 hkc1 hbx t1 t2 t3 t4 t5 hri
   cases hh:takeC c h1 with
   | error f=>
     obtain ⟨c1,c2,h5,-⟩:=HRk.out
     rw [<- HR.out.2.2.1,takeAll_err hh] at h5
     cases h5
   | ok c'=>
     have HTk1:=HTk0.out c' hh
     rw [hh] at HTk1
     have HTk:Hid (Calls _ _ _ _ _):=HTk1
     clear HTk1 HTk0
     have HG:Hid (takeAll r1 c' = R /\ CkB (i + 1) c'):=⟨by rw [<- HR.out.2.2.1]; exact (takeAll_ok hh).symm,takeC_good HR.out.2.2.2.1 HR.out.2.2.2.2.2.1 HR.out.2.2.2.2.2.2 hh⟩
     clear hh
     go_wp2_with fail
     refine HTk.out.mono ?_
     intro e w3 hp
     obtain ⟨he,hfr,O',s',hO',hck'⟩:=hp
     subst he
     have HN:Hid (ItsAt false (fun g=>g < w.heap.size) (w3.alloc (.cells #[I J 0,I J 0] 87)) r1 (some ⟨g,off + (i + 1) * 4,none⟩) (n - (i + 1)) /\ CS w (.slice (some ⟨g,off,none⟩) n cc) O' b s' c' (w3.alloc (.cells #[I J 0,I J 0] 87))):=by
      have hcs:=(HR.out.2.2.2.2.1.alloc (.cells #[I J h1.kind,.string (bs h1.name),.slice ka1 kc1 kk1,I J h1.pl] 140))
      have hgo:=hcs.go hfr hO' hck'
      refine ⟨?_,hgo.alloc _⟩
      have h1:=HR.out.1.below ((Below.refl _ _).alloc (Nat.le_refl _) (.cells #[I J h1.kind,.string (bs h1.name),.slice ka1 kc1 kk1,I J h1.pl] 140))
      have h2:=itsAt_keep (w':=w3) (fun q hq hqB=>hfr.block q hq (fun ho=>by have:=hcs.off q ho; omega)) h1
      exact h2.below ((Below.refl _ _).alloc (Nat.le_refl _) _)
     clear hfr hO' hck' HTk c0 c1 c2 c3
     have HRa:Hid (r1.all itSim = true):=HR.out.2.1
     clear HR
     unfold flV
     have n0:((0:Int) != 0) = false:=rfl
     go_wp2_with fail
     go_roundg (gk - 1)
     case measure=>omega
     case rel=>exact ⟨r1,i + 1,O',s',c',by go_num,by omega,HN.out.1,HRa.out,HG.out.1,HG.out.2,HN.out.2⟩
  ·have hin:i = n:=by omega
   obtain ⟨t1,t2,t3,t4,t5⟩:=HT.out
   rw [show n - i = 0 by omega] at t1
   have hL:=itsAt_end t1
   subst hL
   have HX0:Hid (R = .ok c):=t3.symm
   have HEn:Hid (Calls Tryz.prog 61 #[.pointer (some ⟨b,0,none⟩)] wr (TPost O b wr (endsB c)) /\ ∃ c2,endsB c = .ok c2):=by
    obtain ⟨c1,c2,h5,h6,h7,h8⟩:=HRk.out
    rw [<- t3] at h5
    cases h5
    exact ⟨end_calls wr t5.ck t4.ok t4.al h6 h7 h8,c2,h6⟩
   have HS:Hid (CS w (.slice ao n cc) O b s c wr):=t5
   clear HT t1 t2 t3 t4 t5
   cases hh:endsB c with
   | error f=>
     obtain ⟨c2,h5⟩:=HEn.out.2
     rw [hh] at h5
     cases h5
   | ok c'=>
     rw [hh] at HEn
     have HX:Hid (endR R = .ok c'):=by rw [HX0.out]; exact hh
     clear hh HX0
     go_wp2_with fail
     refine HEn.out.1.mono ?_
     intro e w3 hp
     obtain ⟨he,hfr,O',s',hO',hck'⟩:=hp
     subst he
     have HN:Hid (CS w (.slice ao n cc) O' b s' c' (w3.alloc (.cells #[I J 0,I J 0] 87))):=(HS.out.go hfr hO' hck').alloc _
     have HC5:Hid (CR w (w3.alloc (.cells #[I J 0,I J 0] 87))):=⟨HN.out.low,HN.out.r1,HN.out.r2⟩
     have hbo:=HN.out.off b HN.out.ck.inB
     have hbl:b < w3.heap.size:=hck'.lt
     clear hfr hO' hck' HEn HS
     unfold flV
     have n0:((0:Int) != 0) = false:=rfl
     have q0:(w3.alloc (.cells #[I J 0,I J 0] 87)).cell? ⟨w.heap.size + 1,0,none⟩ = some (.string ⟨#[]⟩):=blk HC5.out.r1 rfl
     have q1:(w3.alloc (.cells #[I J 0,I J 0] 87)).cell? ⟨w.heap.size + 1,1,none⟩ = some (.slice none 0 0):=blk HC5.out.r1 rfl
     have q2:(w3.alloc (.cells #[I J 0,I J 0] 87)).cell? ⟨w.heap.size + 1,2,none⟩ = some (.slice none 0 0):=blk HC5.out.r1 rfl
     have q3:(w3.alloc (.cells #[I J 0,I J 0] 87)).cell? ⟨w.heap.size + 1,3,none⟩ = some (.slice none 0 0):=blk HC5.out.r1 rfl
     have q4:(w3.alloc (.cells #[I J 0,I J 0] 87)).cell? ⟨w.heap.size + 1,4,none⟩ = some (I J 0):=blk HC5.out.r1 rfl
     have q5:(w3.alloc (.cells #[I J 0,I J 0] 87)).cell? ⟨w.heap.size + 1,5,none⟩ = some (.bool false):=blk HC5.out.r1 rfl
     have q6:(w3.alloc (.cells #[I J 0,I J 0] 87)).cell? ⟨w.heap.size + 1,6,none⟩ = some (I J 0):=blk HC5.out.r1 rfl
     have q7:(w3.alloc (.cells #[I J 0,I J 0] 87)).cell? ⟨w.heap.size + 1,7,none⟩ = some (I J 0):=blk HC5.out.r1 rfl
     have q8:(w3.alloc (.cells #[I J 0,I J 0] 87)).cell? ⟨w.heap.size + 1,8,none⟩ = some (I J 0):=blk HC5.out.r1 rfl
     have q9:(w3.alloc (.cells #[I J 0,I J 0] 87)).cell? ⟨w.heap.size + 1,9,none⟩ = some (I J 0):=blk HC5.out.r1 rfl
     have q10:(w3.alloc (.cells #[I J 0,I J 0] 87)).cell? ⟨w.heap.size + 1,10,none⟩ = some (I J 0):=blk HC5.out.r1 rfl
     have p0:(w3.alloc (.cells #[I J 0,I J 0] 87)).cell? ⟨w.heap.size + 1 + 1,0,none⟩ = some (I J 0):=blk HC5.out.r2 rfl
     have p1:(w3.alloc (.cells #[I J 0,I J 0] 87)).cell? ⟨w.heap.size + 1 + 1,1,none⟩ = some (I J 0):=blk HC5.out.r2 rfl
     have qf:∀ i,(w3.alloc (.cells #[I J 0,I J 0] 87)).frozen? ⟨w.heap.size + 1,i,none⟩ = false:=fun i=>blkf i HC5.out.r1
     have pf:∀ i,(w3.alloc (.cells #[I J 0,I J 0] 87)).frozen? ⟨w.heap.size + 1 + 1,i,none⟩ = false:=fun i=>blkf i HC5.out.r2
     have k0:(w3.alloc (.cells #[I J 0,I J 0] 87)).cell? ⟨b,0,none⟩ = some (.string (bs c'.letters)):=HN.out.ck.c0
     have k1:(w3.alloc (.cells #[I J 0,I J 0] 87)).cell? ⟨b,1,none⟩ = some (s'.dv):=HN.out.ck.c1
     have k2:(w3.alloc (.cells #[I J 0,I J 0] 87)).cell? ⟨b,2,none⟩ = some (s'.sv):=HN.out.ck.c2
     have k3:(w3.alloc (.cells #[I J 0,I J 0] 87)).cell? ⟨b,3,none⟩ = some (s'.pv):=HN.out.ck.c3
     have k4:(w3.alloc (.cells #[I J 0,I J 0] 87)).cell? ⟨b,4,none⟩ = some (I J c'.mode):=HN.out.ck.c4
     have k5:(w3.alloc (.cells #[I J 0,I J 0] 87)).cell? ⟨b,5,none⟩ = some (.bool c'.banded):=HN.out.ck.c5
     have k6:(w3.alloc (.cells #[I J 0,I J 0] 87)).cell? ⟨b,6,none⟩ = some (I J c'.lo):=HN.out.ck.c6
     have k7:(w3.alloc (.cells #[I J 0,I J 0] 87)).cell? ⟨b,7,none⟩ = some (I J c'.hi):=HN.out.ck.c7
     have k8:(w3.alloc (.cells #[I J 0,I J 0] 87)).cell? ⟨b,8,none⟩ = some (I J c'.front):=HN.out.ck.c8
     have k9:(w3.alloc (.cells #[I J 0,I J 0] 87)).cell? ⟨b,9,none⟩ = some (I J c'.back):=HN.out.ck.c9
     have k10:(w3.alloc (.cells #[I J 0,I J 0] 87)).cell? ⟨b,10,none⟩ = some (I J c'.least):=HN.out.ck.c10
     obtain ⟨dv,hdv⟩:∃ dv,s'.dv = dv:=⟨_,rfl⟩
     obtain ⟨da,dn,dc,hd2⟩:∃ da dn dc,s'.dv = .slice da dn dc:=by obtain ⟨a,cp,e⟩:=owned_shape HN.out.ck.defs; exact ⟨a,_,cp,e⟩
     obtain ⟨sa,sn,sc,hs2⟩:∃ da dn dc,s'.sv = .slice da dn dc:=by obtain ⟨a,cp,e⟩:=owned_shape HN.out.ck.subst; exact ⟨a,_,cp,e⟩
     obtain ⟨pa,pn,pc,hp2⟩:∃ da dn dc,s'.pv = .slice da dn dc:=by obtain ⟨a,cp,e⟩:=owned_shape HN.out.ck.pieces; exact ⟨a,_,cp,e⟩
     clear hdv dv
     rw [hd2] at k1
     rw [hs2] at k2
     rw [hp2] at k3
     have HV:Hid (s'.dv = .slice da dn dc /\ s'.sv = .slice sa sn sc /\ s'.pv = .slice pa pn pc):=⟨hd2,hs2,hp2⟩
     clear hd2 hs2 hp2
     go_wp2
     refine bodyPost_ret (v:=.tuple #[schV c' s',flV (0,0)]) ?_ rfl ?_
     ·simp only [results,hres]
      unfold flV schV
      rw [HV.out.1,HV.out.2.1,HV.out.2.2]
      simp only
      go_simp
     ·show ChkPost _ _ _ _
      rw [HX.out]
      refine ⟨s',rfl,below_res HC5.out.low _ _ _ _ _ _ _ _ _ _ _ _ _,schAt_of (ck_res13 HN.out.ck (fun ho=>?_) (fun ho=>?_) _ _ _ _ _ _ _ _ _ _ _ _ _)⟩
      ·have:=HN.out.off _ ho; omega
      ·have:=HN.out.off _ ho; omega
end Go.Proofs.YtbbbnopganhebabGreat
