/-
  One item more: kinds 3, 4, 10. And what follows.
-/
import Derived.Test.YtbbbnopganhebabGreatG42
import Derived.Test.YtbbbnopganhebabGreatG26
namespace Go.Proofs.YtbbbnopganhebabGreat
open Go.RowKit Go.Deep Go.Maps
open Go.Value renaming int->I
open Go.IntKind renaming i64->J
set_option maxRecDepth 20000
set_option maxHeartbeats 4000000
theorem take_3 {B:Nat} {O:Nat -> Prop} {b:Nat} {s:Sl} {c:Ck} (i:It) (ka:Option Addr) (kc:Nat) (w:World) (hck:CkAt O b s c w) (hok:CkOk c) (hlow:∀ g,O g -> B <= g) (hB:B <= w.heap.size) (hF:FoAt false (fun g=>g < B) w i.args ka 1) (hof:okF i.args) (hn:i.name.length <= maxLen) (hk:i.kind = 3) (htw:twiceB { c with pl:=i.pl } i = false) :
 Calls Tryz.prog 60 #[.pointer (some ⟨b,0,none⟩),itV i ka 1 kc] w (TPost O b w (singleB (fun c p=>{ c with mat:=p }) ({ c with pl:=i.pl,had:=putHad c.had 3 }) (arg1 i.args))):=by
 have hres:Tryz.f60.results = #[.cell 4 87]:=by kernel_rfl
 obtain ⟨g,off,h,k,ka1,kn1,kc1,rfl,ha1,hr1,hat⟩:=one_arg hF (by omega) hof
 rw [ha1]
 have hS1:LS w O (fun g=>O g /\ g < w.heap.size) b s s (some c) [(w.heap.size + 1,flL (0,0),87),(w.heap.size,[I J 3,.string (bs i.name),.slice (some ⟨g,off,none⟩) 1 kc,I J i.pl],140)] ((w.alloc (.cells #[I J 3,.string (bs i.name),.slice (some ⟨g,off,none⟩) 1 kc,I J i.pl] 140)).alloc (.cells #[I J 0,I J 0] 87)):=by
  have:=LS.startI hck hok i (some ⟨g,off,none⟩) 1 kc
  unfold itL at this
  rw [hk] at this
  exact this
 have hmem:∀ W,Fr O w W -> ∀ q,q < w.heap.size -> q < B -> W.heap[q]? = w.heap[q]?:=fun W hf q hq hqB=>hf.block q hq (fun ho=>by have:=hlow q ho; omega)
 obtain ⟨r,hr⟩:∃ r,r = singleB (fun c p=>{ c with mat:=p }) ({ c with pl:=i.pl,had:=putHad c.had 3 }) (h,k):=⟨_,rfl⟩
 rw [<- hr]
 have HC:Hid (∀ O' s' W,LS w O O' b s s' (some { c with pl:=i.pl,had:=putHad c.had 3 }) [(w.heap.size + 1,flL (0,0),87),(w.heap.size,[I J 3,.string (bs i.name),.slice (some ⟨g,off,none⟩) 1 kc,I J i.pl],140)] W -> Calls Tryz.prog 98 #[.pointer (some ⟨b,0,none⟩),.agg #[I J h.kind,I J h.num,.string (bs h.text),.slice ka1 kn1 kc1,I J h.pl],.pointer (some ⟨b,25,none⟩)] W (TPost O' b W r)):=by
  intro O' s' W hL
  have hlow':∀ g,O' g -> B <= g:=fun q hq=>by rcases hL.new q hq with h1 | h1; exact hlow q h1; omega
  obtain ⟨hE,-⟩:=hat W (hmem W hL.fr)
  have hB':=Nat.le_trans hB hL.fr.size
  obtain ⟨k1,k2',k3⟩:=hL.ck _ rfl
  rw [hr]
  exact single_calls h k ka1 kn1 kc1 b 25 (fun c p=>{ c with mat:=p }) W k1 k2' hlow' hB' hE hr1 (fun O3 s3 c3 W3 p j1 _ _=>⟨j1.inB,⟨_,j1.c25⟩,j1.fz 25,j1.put rfl rfl rfl rfl rfl rfl⟩)
 have HTW:Hid (∀ O' s' L W,LS w O O' b s s' (some { c with pl:=i.pl }) L W -> Calls Tryz.prog 89 #[.pointer (some ⟨b,0,none⟩),.agg #[I J 3,.string (bs i.name),.slice (some ⟨g,off,none⟩) 1 kc,I J i.pl]] W fun e w'=>e = .returned (.bool false) /\ Hid (LS w O O' b s s' (some { c with pl:=i.pl }) L w')):=fun O' s' L W hL=>by
  have:=hL.twice i (some ⟨g,off,none⟩) 1 kc (by omega) (by omega) hn
  rw [htw] at this
  unfold itV at this
  rw [hk] at this
  exact this
 have HSS:Hid (∀ O' s' oc W,LS w O O' b s s' oc [(w.heap.size + 1,flL (0,0),87),(w.heap.size,[I J 3,.string (bs i.name),.slice (some ⟨g,off,none⟩) 1 kc,I J i.pl],140)] W -> W.cell? ⟨w.heap.size,2,none⟩ = some (.slice (some ⟨g,off,none⟩) 1 kc) /\ W.cell? ⟨g,off,none⟩ = some (I J h.kind) /\ W.cell? ⟨g,off + 1,none⟩ = some (I J h.num) /\ W.cell? ⟨g,off + 2,none⟩ = some (.string (bs h.text)) /\ W.cell? ⟨g,off + 3,none⟩ = some (.slice ka1 kn1 kc1) /\ W.cell? ⟨g,off + 4,none⟩ = some (I J h.pl)):=fun O' s' oc W hL=>⟨hL.at (g:=w.heap.size) (cs:=[I J 3,.string (bs i.name),.slice (some ⟨g,off,none⟩) 1 kc,I J i.pl]) (ty:=140) (by simp) rfl,(hat W (hmem W hL.fr)).2⟩
 have HOK:Hid (CkOk { c with pl:=i.pl } /\ CkOk { c with pl:=i.pl,had:=putHad c.had 3 }):=⟨hok.pl i.pl,hok.had i.pl _⟩
 generalize hO1:(fun g=>O g /\ g < w.heap.size) = O1 at hS1
 clear hO1 hck hok hlow hB hF hof hn htw hmem hat hr ha1 hr1
 unfold itV
 rw [hk]
 clear hk
 have HS1:Hid (LS w O O1 b s s (some c) [(w.heap.size + 1,flL (0,0),87),(w.heap.size,[I J 3,.string (bs i.name),.slice (some ⟨g,off,none⟩) 1 kc,I J i.pl],140)] ((w.alloc (.cells #[I J 3,.string (bs i.name),.slice (some ⟨g,off,none⟩) 1 kc,I J i.pl] 140)).alloc (.cells #[I J 0,I J 0] 87))):=hS1
 clear hS1
 go_enter Tryz.func60,Tryz.ntmps60
 go_upto_region 1 with (fail)
 generalize ((w.alloc (.cells #[I J 3,.string (bs i.name),.slice (some ⟨g,off,none⟩) 1 kc,I J i.pl] 140)).alloc (.cells #[I J 0,I J 0] 87)) = w1 at *
 have x3:w1.cell? ⟨w.heap.size,3,none⟩ = some (I J i.pl):=HS1.out.at (g:=w.heap.size) (cs:=[I J 3,.string (bs i.name),.slice (some ⟨g,off,none⟩) 1 kc,I J i.pl]) (ty:=140) (by simp) rfl
 have b24:w1.cell? ⟨b,24,none⟩ = some (I J c.pl):=(HS1.out.ck _ rfl).1.c24
 have bf:w1.frozen? ⟨b,24,none⟩ = false:=(HS1.out.ck _ rfl).1.fz 24
 have HS2:Hid (LS w O O1 b s s (some { c with pl:=i.pl }) [(w.heap.size + 1,flL (0,0),87),(w.heap.size,[I J 3,.string (bs i.name),.slice (some ⟨g,off,none⟩) 1 kc,I J i.pl],140)] (w1.setCell ⟨b,24,none⟩ (I J i.pl))):=HS1.out.putB rfl rfl rfl rfl rfl rfl HOK.out.1
 go_upto_region 2 with (fail)
 clear x3 b24 bf HS1
 generalize w1.setCell ⟨b,24,none⟩ (I J i.pl) = w2 at *
 have x0:w2.cell? ⟨w.heap.size,0,none⟩ = some (I J 3):=HS2.out.at (g:=w.heap.size) (cs:=[I J 3,.string (bs i.name),.slice (some ⟨g,off,none⟩) 1 kc,I J i.pl]) (ty:=140) (by simp) rfl
 have x1:w2.cell? ⟨w.heap.size,1,none⟩ = some (.string (bs i.name)):=HS2.out.at (g:=w.heap.size) (cs:=[I J 3,.string (bs i.name),.slice (some ⟨g,off,none⟩) 1 kc,I J i.pl]) (ty:=140) (by simp) rfl
 have x2:w2.cell? ⟨w.heap.size,2,none⟩ = some (.slice (some ⟨g,off,none⟩) 1 kc):=HS2.out.at (g:=w.heap.size) (cs:=[I J 3,.string (bs i.name),.slice (some ⟨g,off,none⟩) 1 kc,I J i.pl]) (ty:=140) (by simp) rfl
 have x3:w2.cell? ⟨w.heap.size,3,none⟩ = some (I J i.pl):=HS2.out.at (g:=w.heap.size) (cs:=[I J 3,.string (bs i.name),.slice (some ⟨g,off,none⟩) 1 kc,I J i.pl]) (ty:=140) (by simp) rfl
 go_wp2_with (go_at_call 89; refine (HTW.out _ _ _ _ HS2.out).mono ?_; rintro e w3 ⟨rfl,HS3⟩)
 clear x0 x1 x2 x3 HS2 HTW
 have HL4:Hid (LS w O O1 b s s (some { c with pl:=i.pl }) [(w.heap.size + 1,flL (0,0),87),(w.heap.size,[I J 3,.string (bs i.name),.slice (some ⟨g,off,none⟩) 1 kc,I J i.pl],140)] w3.drew):=HS3.out.drew
 have HS0:Hid (w3.drew.cell? ⟨w.heap.size,0,none⟩ = some (I J 3)):=HL4.out.at (g:=w.heap.size) (cs:=[I J 3,.string (bs i.name),.slice (some ⟨g,off,none⟩) 1 kc,I J i.pl]) (ty:=140) (by simp) rfl
 clear HS3
 refine wp_region_Y (fun j=>[6].contains j) (fun W=>W.cell? ⟨w.heap.size,0,none⟩ = some (I J 3)) (by kernel_rfl) ?_
 refine wpAnyY_takeD (i:=0) 15 (v:=.pointer (some ⟨b,0,none⟩)) rfl rfl (by kernel_rfl) (by kernel_rfl) (late_of (by kernel_rfl)) (by kernel_rfl) (by kernel_rfl) (fun _ _ _ h=>h) HS0.out (Or.inl ⟨by rfl,by (intro W hW; go_simp)⟩) ?_
 simp only [Act.put,lA,lB,lC]
 refine wpAnyY_takeD (i:=1) 16 (v:=.pointer (some ⟨w.heap.size,0,none⟩)) rfl rfl (by kernel_rfl) (by kernel_rfl) (late_of (by kernel_rfl)) (by kernel_rfl) (by kernel_rfl) (fun _ _ _ h=>h) HS0.out (Or.inl ⟨by rfl,by (intro W hW; go_simp)⟩) ?_
 simp only [Act.put,lA,lB,lC]
 refine wpAnyY_takeD (i:=2) 17 (v:=I J 3) rfl rfl (by kernel_rfl) (by kernel_rfl) (late_of (by kernel_rfl)) (by kernel_rfl) (by kernel_rfl) (fun _ _ _ h=>h) HS0.out (Or.inl ⟨by rfl,by (intro W hW; go_simp)⟩) ?_
 simp only [Act.put,lA,lB,lC]
 refine wpAnyY_takeD (i:=3) 18 (v:=.pointer (some ⟨b,0,none⟩)) rfl rfl (by kernel_rfl) (by kernel_rfl) (late_of (by kernel_rfl)) (by kernel_rfl) (by kernel_rfl) (fun _ _ _ h=>h) HS0.out (Or.inl ⟨by rfl,by (intro W hW; go_simp)⟩) ?_
 simp only [Act.put,lA,lB,lC]
 refine wpAnyY_takeD (i:=4) 19 (v:=.pointer (some ⟨b,13,none⟩)) rfl rfl (by kernel_rfl) (by kernel_rfl) (late_of (by kernel_rfl)) (by kernel_rfl) (by kernel_rfl) (fun _ _ _ h=>h) HS0.out (Or.inl ⟨by rfl,by (intro W hW; go_simp)⟩) ?_
 simp only [Act.put,lA,lB,lC]
 refine wpAnyY_takeD (i:=5) 20 (v:=.pointer (some ⟨b,16,none⟩)) rfl rfl (by kernel_rfl) (by kernel_rfl) (late_of (by kernel_rfl)) (by kernel_rfl) (by kernel_rfl) (fun _ _ _ h=>h) HS0.out (Or.inl ⟨by rfl,by (intro W hW; go_simp)⟩) ?_
 simp only [Act.put,lA,lB,lC]
 refine wpAnyY_one (i:=6) rfl (by kernel_rfl) (fun K hK=>?_)
 refine storeB_step rfl rfl rfl rfl ((HL4.out.ck _ rfl).1.hadk (k:=3) (by omega)) ((HL4.out.ck _ rfl).1.fz 16) ?_
 intro V hV
 have HL5:Hid (LS w O O1 b s s (some { c with pl:=i.pl,had:=putHad c.had 3 }) [(w.heap.size + 1,flL (0,0),87),(w.heap.size,[I J 3,.string (bs i.name),.slice (some ⟨g,off,none⟩) 1 kc,I J i.pl],140)] V):=by subst hV; exact HL4.out.putB rfl rfl rfl rfl rfl rfl HOK.out.2
 refine hK.out _ _ (fun hh=>absurd hh (by decide)) ?_
 clear hK K HL4 HS0 hV HOK
 refine wpAnyY_done (by kernel_rfl) ?_ _
 have x0:V.cell? ⟨w.heap.size,0,none⟩ = some (I J 3):=HL5.out.at (g:=w.heap.size) (cs:=[I J 3,.string (bs i.name),.slice (some ⟨g,off,none⟩) 1 kc,I J i.pl]) (ty:=140) (by simp) rfl
 go_wp2_with fail
 clear x0
 have HL6:Hid (LS w O O1 b s s (some { c with pl:=i.pl,had:=putHad c.had 3 }) [(w.heap.size + 1,flL (0,0),87),(w.heap.size,[I J 3,.string (bs i.name),.slice (some ⟨g,off,none⟩) 1 kc,I J i.pl],140)] V.drew):=HL5.out.drew
 have HS0:Hid (V.drew.cell? ⟨w.heap.size,2,none⟩ = some (.slice (some ⟨g,off,none⟩) 1 kc) /\ V.drew.cell? ⟨g,off,none⟩ = some (I J h.kind) /\ V.drew.cell? ⟨g,off + 1,none⟩ = some (I J h.num) /\ V.drew.cell? ⟨g,off + 2,none⟩ = some (.string (bs h.text)) /\ V.drew.cell? ⟨g,off + 3,none⟩ = some (.slice ka1 kn1 kc1) /\ V.drew.cell? ⟨g,off + 4,none⟩ = some (I J h.pl)):=HSS.out _ _ _ _ HL6.out
 clear HL5
 refine wp_region_Y (fun j=>[8,9].contains j) (fun W=>W.cell? ⟨w.heap.size,2,none⟩ = some (.slice (some ⟨g,off,none⟩) 1 kc) /\ W.cell? ⟨g,off,none⟩ = some (I J h.kind) /\ W.cell? ⟨g,off + 1,none⟩ = some (I J h.num) /\ W.cell? ⟨g,off + 2,none⟩ = some (.string (bs h.text)) /\ W.cell? ⟨g,off + 3,none⟩ = some (.slice ka1 kn1 kc1) /\ W.cell? ⟨g,off + 4,none⟩ = some (I J h.pl)) (by kernel_rfl) ?_
 refine wpAnyY_takeD (i:=0) 100 (v:=.pointer (some ⟨b,0,none⟩)) rfl rfl (by kernel_rfl) (by kernel_rfl) (late_of (by kernel_rfl)) (by kernel_rfl) (by kernel_rfl) (fun _ _ _ h=>h) HS0.out (Or.inl ⟨by rfl,by (intro W hW; obtain ⟨_,_,_,_,_,_⟩:=hW; go_simp)⟩) ?_
 simp only [Act.put,lA,lB,lC]
 refine wpAnyY_takeD (i:=1) 101 (v:=.pointer (some ⟨w.heap.size,2,none⟩)) rfl rfl (by kernel_rfl) (by kernel_rfl) (late_of (by kernel_rfl)) (by kernel_rfl) (by kernel_rfl) (fun _ _ _ h=>h) HS0.out (Or.inl ⟨by rfl,by (intro W hW; obtain ⟨_,_,_,_,_,_⟩:=hW; go_simp)⟩) ?_
 simp only [Act.put,lA,lB,lC]
 refine wpAnyY_takeD (i:=2) 102 (v:=.slice (some ⟨g,off,none⟩) 1 kc) rfl rfl (by kernel_rfl) (by kernel_rfl) (late_of (by kernel_rfl)) (by kernel_rfl) (by kernel_rfl) (fun _ _ _ h=>h) HS0.out (Or.inl ⟨by rfl,by (intro W hW; obtain ⟨_,_,_,_,_,_⟩:=hW; go_simp)⟩) ?_
 simp only [Act.put,lA,lB,lC]
 refine wpAnyY_takeD (i:=3) 103 (v:=.pointer (some ⟨g,off,none⟩)) rfl rfl (by kernel_rfl) (by kernel_rfl) (late_of (by kernel_rfl)) (by kernel_rfl) (by kernel_rfl) (fun _ _ _ h=>h) HS0.out (Or.inl ⟨by rfl,by (intro W hW; obtain ⟨_,_,_,_,_,_⟩:=hW; go_simp)⟩) ?_
 simp only [Act.put,lA,lB,lC]
 refine wpAnyY_takeD (i:=4) 104 (v:=.agg #[I J h.kind,I J h.num,.string (bs h.text),.slice ka1 kn1 kc1,I J h.pl]) rfl rfl (by kernel_rfl) (by kernel_rfl) (late_of (by kernel_rfl)) (by kernel_rfl) (by kernel_rfl) (fun _ _ _ h=>h) HS0.out (Or.inl ⟨by rfl,by (intro W hW; obtain ⟨_,_,_,_,_,_⟩:=hW; go_simp)⟩) ?_
 simp only [Act.put,lA,lB,lC]
 refine wpAnyY_takeD (i:=5) 105 (v:=.pointer (some ⟨b,0,none⟩)) rfl rfl (by kernel_rfl) (by kernel_rfl) (late_of (by kernel_rfl)) (by kernel_rfl) (by kernel_rfl) (fun _ _ _ h=>h) HS0.out (Or.inl ⟨by rfl,by (intro W hW; obtain ⟨_,_,_,_,_,_⟩:=hW; go_simp)⟩) ?_
 simp only [Act.put,lA,lB,lC]
 refine wpAnyY_takeD (i:=6) 106 (v:=.pointer (some ⟨b,0,none⟩)) rfl rfl (by kernel_rfl) (by kernel_rfl) (late_of (by kernel_rfl)) (by kernel_rfl) (by kernel_rfl) (fun _ _ _ h=>h) HS0.out (Or.inl ⟨by rfl,by (intro W hW; obtain ⟨_,_,_,_,_,_⟩:=hW; go_simp)⟩) ?_
 simp only [Act.put,lA,lB,lC]
 refine wpAnyY_takeD (i:=7) 107 (v:=.pointer (some ⟨b,25,none⟩)) rfl rfl (by kernel_rfl) (by kernel_rfl) (late_of (by kernel_rfl)) (by kernel_rfl) (by kernel_rfl) (fun _ _ _ h=>h) HS0.out (Or.inl ⟨by rfl,by (intro W hW; obtain ⟨_,_,_,_,_,_⟩:=hW; go_simp)⟩) ?_
 simp only [Act.put,lA,lB,lC]
 refine wpAnyY_one (i:=8) rfl (by kernel_rfl) (fun K hK=>?_)
 refine call57_step rfl rfl rfl rfl rfl rfl ?_
 refine (HC.out _ _ _ HL6.out).mono ?_
 intro e V2 hp
 obtain ⟨f1,f2,hff⟩:∃ f1 f2,faultOf r = (f1,f2):=⟨_,_,rfl⟩
 have hRl:=HL6.out.loc (w.heap.size + 1,flL (0,0),87) (by simp)
 have hl:=hRl.1.fr (O':=O1) hp.val.2 (fun g hg=>.inl hg)
 have hv:=hp.val.1
 rw [hff] at hv
 have HF:Hid (∀ u v,TPost O b w r e ((V2.setCell ⟨w.heap.size + 1,0,none⟩ u).setCell ⟨w.heap.size + 1,1,none⟩ v)):=fun u v=>hp.lift HL6.out.fr HL6.out.new hRl.1.off hRl.2 hRl.1.lt u v
 refine ⟨_,hv,?_⟩
 subst hv
 refine hK.out _ _ (fun hh=>absurd hh (by decide)) ?_
 clear hK K HL6 HS0 HC HSS hff hp hRl
 simp only [Act.put,lA,lB,lC]
 refine wpAnyY_one (i:=9) rfl (by kernel_rfl) (fun K hK=>?_)
 refine store32_step rfl rfl rfl rfl rfl hl.heap ?_
 intro V3 hV
 have HF3:Hid (TPost O b w r (.returned (.agg #[I J f1,I J f2])) V3):=by rw [hV]; exact HF.out _ _
 have hl3:V3.heap[w.heap.size + 1]? = some (.cells #[I J f1,I J f2] 87 (0,0)):=by rw [hV]; exact ((hl.put 0 (I J f1)).put 1 (I J f2)).heap
 refine hK.out _ _ (fun hh=>absurd hh (by decide)) ?_
 clear hK K HF hl hV
 have z0:V3.cell? ⟨w.heap.size + 1,0,none⟩ = some (I J f1):=blk hl3 rfl
 have z1:V3.cell? ⟨w.heap.size + 1,1,none⟩ = some (I J f2):=blk hl3 rfl
 clear hl3
 refine wpAnyY_done (by kernel_rfl) ?_ _
 go_wp2
 refine bodyPost_ret (v:=flV (f1,f2)) ?_ rfl ?_
 ·simp only [results,hres]
  unfold flV
  simp only
  go_simp
 ·show TPost _ _ _ _ _ _
  exact HF3.out
theorem take_4 {B:Nat} {O:Nat -> Prop} {b:Nat} {s:Sl} {c:Ck} (i:It) (ka:Option Addr) (kc:Nat) (w:World) (hck:CkAt O b s c w) (hok:CkOk c) (hlow:∀ g,O g -> B <= g) (hB:B <= w.heap.size) (hF:FoAt false (fun g=>g < B) w i.args ka 1) (hof:okF i.args) (hn:i.name.length <= maxLen) (hk:i.kind = 4) (htw:twiceB { c with pl:=i.pl } i = false) :
 Calls Tryz.prog 60 #[.pointer (some ⟨b,0,none⟩),itV i ka 1 kc] w (TPost O b w (singleB (fun c p=>{ c with mis:=p }) ({ c with pl:=i.pl,had:=putHad c.had 4 }) (arg1 i.args))):=by
 have hres:Tryz.f60.results = #[.cell 4 87]:=by kernel_rfl
 obtain ⟨g,off,h,k,ka1,kn1,kc1,rfl,ha1,hr1,hat⟩:=one_arg hF (by omega) hof
 rw [ha1]
 have hS1:LS w O (fun g=>O g /\ g < w.heap.size) b s s (some c) [(w.heap.size + 1,flL (0,0),87),(w.heap.size,[I J 4,.string (bs i.name),.slice (some ⟨g,off,none⟩) 1 kc,I J i.pl],140)] ((w.alloc (.cells #[I J 4,.string (bs i.name),.slice (some ⟨g,off,none⟩) 1 kc,I J i.pl] 140)).alloc (.cells #[I J 0,I J 0] 87)):=by
  have:=LS.startI hck hok i (some ⟨g,off,none⟩) 1 kc
  unfold itL at this
  rw [hk] at this
  exact this
 have hmem:∀ W,Fr O w W -> ∀ q,q < w.heap.size -> q < B -> W.heap[q]? = w.heap[q]?:=fun W hf q hq hqB=>hf.block q hq (fun ho=>by have:=hlow q ho; omega)
 obtain ⟨r,hr⟩:∃ r,r = singleB (fun c p=>{ c with mis:=p }) ({ c with pl:=i.pl,had:=putHad c.had 4 }) (h,k):=⟨_,rfl⟩
 rw [<- hr]
 have HC:Hid (∀ O' s' W,LS w O O' b s s' (some { c with pl:=i.pl,had:=putHad c.had 4 }) [(w.heap.size + 1,flL (0,0),87),(w.heap.size,[I J 4,.string (bs i.name),.slice (some ⟨g,off,none⟩) 1 kc,I J i.pl],140)] W -> Calls Tryz.prog 98 #[.pointer (some ⟨b,0,none⟩),.agg #[I J h.kind,I J h.num,.string (bs h.text),.slice ka1 kn1 kc1,I J h.pl],.pointer (some ⟨b,26,none⟩)] W (TPost O' b W r)):=by
  intro O' s' W hL
  have hlow':∀ g,O' g -> B <= g:=fun q hq=>by rcases hL.new q hq with h1 | h1; exact hlow q h1; omega
  obtain ⟨hE,-⟩:=hat W (hmem W hL.fr)
  have hB':=Nat.le_trans hB hL.fr.size
  obtain ⟨k1,k2',k3⟩:=hL.ck _ rfl
  rw [hr]
  exact single_calls h k ka1 kn1 kc1 b 26 (fun c p=>{ c with mis:=p }) W k1 k2' hlow' hB' hE hr1 (fun O3 s3 c3 W3 p j1 _ _=>⟨j1.inB,⟨_,j1.c26⟩,j1.fz 26,j1.put rfl rfl rfl rfl rfl rfl⟩)
 have HTW:Hid (∀ O' s' L W,LS w O O' b s s' (some { c with pl:=i.pl }) L W -> Calls Tryz.prog 89 #[.pointer (some ⟨b,0,none⟩),.agg #[I J 4,.string (bs i.name),.slice (some ⟨g,off,none⟩) 1 kc,I J i.pl]] W fun e w'=>e = .returned (.bool false) /\ Hid (LS w O O' b s s' (some { c with pl:=i.pl }) L w')):=fun O' s' L W hL=>by
  have:=hL.twice i (some ⟨g,off,none⟩) 1 kc (by omega) (by omega) hn
  rw [htw] at this
  unfold itV at this
  rw [hk] at this
  exact this
 have HSS:Hid (∀ O' s' oc W,LS w O O' b s s' oc [(w.heap.size + 1,flL (0,0),87),(w.heap.size,[I J 4,.string (bs i.name),.slice (some ⟨g,off,none⟩) 1 kc,I J i.pl],140)] W -> W.cell? ⟨w.heap.size,2,none⟩ = some (.slice (some ⟨g,off,none⟩) 1 kc) /\ W.cell? ⟨g,off,none⟩ = some (I J h.kind) /\ W.cell? ⟨g,off + 1,none⟩ = some (I J h.num) /\ W.cell? ⟨g,off + 2,none⟩ = some (.string (bs h.text)) /\ W.cell? ⟨g,off + 3,none⟩ = some (.slice ka1 kn1 kc1) /\ W.cell? ⟨g,off + 4,none⟩ = some (I J h.pl)):=fun O' s' oc W hL=>⟨hL.at (g:=w.heap.size) (cs:=[I J 4,.string (bs i.name),.slice (some ⟨g,off,none⟩) 1 kc,I J i.pl]) (ty:=140) (by simp) rfl,(hat W (hmem W hL.fr)).2⟩
 have HOK:Hid (CkOk { c with pl:=i.pl } /\ CkOk { c with pl:=i.pl,had:=putHad c.had 4 }):=⟨hok.pl i.pl,hok.had i.pl _⟩
 generalize hO1:(fun g=>O g /\ g < w.heap.size) = O1 at hS1
 clear hO1 hck hok hlow hB hF hof hn htw hmem hat hr ha1 hr1
 unfold itV
 rw [hk]
 clear hk
 have HS1:Hid (LS w O O1 b s s (some c) [(w.heap.size + 1,flL (0,0),87),(w.heap.size,[I J 4,.string (bs i.name),.slice (some ⟨g,off,none⟩) 1 kc,I J i.pl],140)] ((w.alloc (.cells #[I J 4,.string (bs i.name),.slice (some ⟨g,off,none⟩) 1 kc,I J i.pl] 140)).alloc (.cells #[I J 0,I J 0] 87))):=hS1
 clear hS1
 go_enter Tryz.func60,Tryz.ntmps60
 go_upto_region 1 with (fail)
 generalize ((w.alloc (.cells #[I J 4,.string (bs i.name),.slice (some ⟨g,off,none⟩) 1 kc,I J i.pl] 140)).alloc (.cells #[I J 0,I J 0] 87)) = w1 at *
 have x3:w1.cell? ⟨w.heap.size,3,none⟩ = some (I J i.pl):=HS1.out.at (g:=w.heap.size) (cs:=[I J 4,.string (bs i.name),.slice (some ⟨g,off,none⟩) 1 kc,I J i.pl]) (ty:=140) (by simp) rfl
 have b24:w1.cell? ⟨b,24,none⟩ = some (I J c.pl):=(HS1.out.ck _ rfl).1.c24
 have bf:w1.frozen? ⟨b,24,none⟩ = false:=(HS1.out.ck _ rfl).1.fz 24
 have HS2:Hid (LS w O O1 b s s (some { c with pl:=i.pl }) [(w.heap.size + 1,flL (0,0),87),(w.heap.size,[I J 4,.string (bs i.name),.slice (some ⟨g,off,none⟩) 1 kc,I J i.pl],140)] (w1.setCell ⟨b,24,none⟩ (I J i.pl))):=HS1.out.putB rfl rfl rfl rfl rfl rfl HOK.out.1
 go_upto_region 2 with (fail)
 clear x3 b24 bf HS1
 generalize w1.setCell ⟨b,24,none⟩ (I J i.pl) = w2 at *
 have x0:w2.cell? ⟨w.heap.size,0,none⟩ = some (I J 4):=HS2.out.at (g:=w.heap.size) (cs:=[I J 4,.string (bs i.name),.slice (some ⟨g,off,none⟩) 1 kc,I J i.pl]) (ty:=140) (by simp) rfl
 have x1:w2.cell? ⟨w.heap.size,1,none⟩ = some (.string (bs i.name)):=HS2.out.at (g:=w.heap.size) (cs:=[I J 4,.string (bs i.name),.slice (some ⟨g,off,none⟩) 1 kc,I J i.pl]) (ty:=140) (by simp) rfl
 have x2:w2.cell? ⟨w.heap.size,2,none⟩ = some (.slice (some ⟨g,off,none⟩) 1 kc):=HS2.out.at (g:=w.heap.size) (cs:=[I J 4,.string (bs i.name),.slice (some ⟨g,off,none⟩) 1 kc,I J i.pl]) (ty:=140) (by simp) rfl
 have x3:w2.cell? ⟨w.heap.size,3,none⟩ = some (I J i.pl):=HS2.out.at (g:=w.heap.size) (cs:=[I J 4,.string (bs i.name),.slice (some ⟨g,off,none⟩) 1 kc,I J i.pl]) (ty:=140) (by simp) rfl
 go_wp2_with (go_at_call 89; refine (HTW.out _ _ _ _ HS2.out).mono ?_; rintro e w3 ⟨rfl,HS3⟩)
 clear x0 x1 x2 x3 HS2 HTW
 have HL4:Hid (LS w O O1 b s s (some { c with pl:=i.pl }) [(w.heap.size + 1,flL (0,0),87),(w.heap.size,[I J 4,.string (bs i.name),.slice (some ⟨g,off,none⟩) 1 kc,I J i.pl],140)] w3.drew):=HS3.out.drew
 have HS0:Hid (w3.drew.cell? ⟨w.heap.size,0,none⟩ = some (I J 4)):=HL4.out.at (g:=w.heap.size) (cs:=[I J 4,.string (bs i.name),.slice (some ⟨g,off,none⟩) 1 kc,I J i.pl]) (ty:=140) (by simp) rfl
 clear HS3
 refine wp_region_Y (fun j=>[6].contains j) (fun W=>W.cell? ⟨w.heap.size,0,none⟩ = some (I J 4)) (by kernel_rfl) ?_
 refine wpAnyY_takeD (i:=0) 15 (v:=.pointer (some ⟨b,0,none⟩)) rfl rfl (by kernel_rfl) (by kernel_rfl) (late_of (by kernel_rfl)) (by kernel_rfl) (by kernel_rfl) (fun _ _ _ h=>h) HS0.out (Or.inl ⟨by rfl,by (intro W hW; go_simp)⟩) ?_
 simp only [Act.put,lA,lB,lC]
 refine wpAnyY_takeD (i:=1) 16 (v:=.pointer (some ⟨w.heap.size,0,none⟩)) rfl rfl (by kernel_rfl) (by kernel_rfl) (late_of (by kernel_rfl)) (by kernel_rfl) (by kernel_rfl) (fun _ _ _ h=>h) HS0.out (Or.inl ⟨by rfl,by (intro W hW; go_simp)⟩) ?_
 simp only [Act.put,lA,lB,lC]
 refine wpAnyY_takeD (i:=2) 17 (v:=I J 4) rfl rfl (by kernel_rfl) (by kernel_rfl) (late_of (by kernel_rfl)) (by kernel_rfl) (by kernel_rfl) (fun _ _ _ h=>h) HS0.out (Or.inl ⟨by rfl,by (intro W hW; go_simp)⟩) ?_
 simp only [Act.put,lA,lB,lC]
 refine wpAnyY_takeD (i:=3) 18 (v:=.pointer (some ⟨b,0,none⟩)) rfl rfl (by kernel_rfl) (by kernel_rfl) (late_of (by kernel_rfl)) (by kernel_rfl) (by kernel_rfl) (fun _ _ _ h=>h) HS0.out (Or.inl ⟨by rfl,by (intro W hW; go_simp)⟩) ?_
 simp only [Act.put,lA,lB,lC]
 refine wpAnyY_takeD (i:=4) 19 (v:=.pointer (some ⟨b,13,none⟩)) rfl rfl (by kernel_rfl) (by kernel_rfl) (late_of (by kernel_rfl)) (by kernel_rfl) (by kernel_rfl) (fun _ _ _ h=>h) HS0.out (Or.inl ⟨by rfl,by (intro W hW; go_simp)⟩) ?_
 simp only [Act.put,lA,lB,lC]
 refine wpAnyY_takeD (i:=5) 20 (v:=.pointer (some ⟨b,17,none⟩)) rfl rfl (by kernel_rfl) (by kernel_rfl) (late_of (by kernel_rfl)) (by kernel_rfl) (by kernel_rfl) (fun _ _ _ h=>h) HS0.out (Or.inl ⟨by rfl,by (intro W hW; go_simp)⟩) ?_
 simp only [Act.put,lA,lB,lC]
 refine wpAnyY_one (i:=6) rfl (by kernel_rfl) (fun K hK=>?_)
 refine storeB_step rfl rfl rfl rfl ((HL4.out.ck _ rfl).1.hadk (k:=4) (by omega)) ((HL4.out.ck _ rfl).1.fz 17) ?_
 intro V hV
 have HL5:Hid (LS w O O1 b s s (some { c with pl:=i.pl,had:=putHad c.had 4 }) [(w.heap.size + 1,flL (0,0),87),(w.heap.size,[I J 4,.string (bs i.name),.slice (some ⟨g,off,none⟩) 1 kc,I J i.pl],140)] V):=by subst hV; exact HL4.out.putB rfl rfl rfl rfl rfl rfl HOK.out.2
 refine hK.out _ _ (fun hh=>absurd hh (by decide)) ?_
 clear hK K HL4 HS0 hV HOK
 refine wpAnyY_done (by kernel_rfl) ?_ _
 have x0:V.cell? ⟨w.heap.size,0,none⟩ = some (I J 4):=HL5.out.at (g:=w.heap.size) (cs:=[I J 4,.string (bs i.name),.slice (some ⟨g,off,none⟩) 1 kc,I J i.pl]) (ty:=140) (by simp) rfl
 go_wp2_with fail
 clear x0
 have HL6:Hid (LS w O O1 b s s (some { c with pl:=i.pl,had:=putHad c.had 4 }) [(w.heap.size + 1,flL (0,0),87),(w.heap.size,[I J 4,.string (bs i.name),.slice (some ⟨g,off,none⟩) 1 kc,I J i.pl],140)] V.drew):=HL5.out.drew
 have HS0:Hid (V.drew.cell? ⟨w.heap.size,2,none⟩ = some (.slice (some ⟨g,off,none⟩) 1 kc) /\ V.drew.cell? ⟨g,off,none⟩ = some (I J h.kind) /\ V.drew.cell? ⟨g,off + 1,none⟩ = some (I J h.num) /\ V.drew.cell? ⟨g,off + 2,none⟩ = some (.string (bs h.text)) /\ V.drew.cell? ⟨g,off + 3,none⟩ = some (.slice ka1 kn1 kc1) /\ V.drew.cell? ⟨g,off + 4,none⟩ = some (I J h.pl)):=HSS.out _ _ _ _ HL6.out
 clear HL5
 refine wp_region_Y (fun j=>[8,9].contains j) (fun W=>W.cell? ⟨w.heap.size,2,none⟩ = some (.slice (some ⟨g,off,none⟩) 1 kc) /\ W.cell? ⟨g,off,none⟩ = some (I J h.kind) /\ W.cell? ⟨g,off + 1,none⟩ = some (I J h.num) /\ W.cell? ⟨g,off + 2,none⟩ = some (.string (bs h.text)) /\ W.cell? ⟨g,off + 3,none⟩ = some (.slice ka1 kn1 kc1) /\ W.cell? ⟨g,off + 4,none⟩ = some (I J h.pl)) (by kernel_rfl) ?_
 refine wpAnyY_takeD (i:=0) 111 (v:=.pointer (some ⟨b,0,none⟩)) rfl rfl (by kernel_rfl) (by kernel_rfl) (late_of (by kernel_rfl)) (by kernel_rfl) (by kernel_rfl) (fun _ _ _ h=>h) HS0.out (Or.inl ⟨by rfl,by (intro W hW; obtain ⟨_,_,_,_,_,_⟩:=hW; go_simp)⟩) ?_
 simp only [Act.put,lA,lB,lC]
 refine wpAnyY_takeD (i:=1) 112 (v:=.pointer (some ⟨w.heap.size,2,none⟩)) rfl rfl (by kernel_rfl) (by kernel_rfl) (late_of (by kernel_rfl)) (by kernel_rfl) (by kernel_rfl) (fun _ _ _ h=>h) HS0.out (Or.inl ⟨by rfl,by (intro W hW; obtain ⟨_,_,_,_,_,_⟩:=hW; go_simp)⟩) ?_
 simp only [Act.put,lA,lB,lC]
 refine wpAnyY_takeD (i:=2) 113 (v:=.slice (some ⟨g,off,none⟩) 1 kc) rfl rfl (by kernel_rfl) (by kernel_rfl) (late_of (by kernel_rfl)) (by kernel_rfl) (by kernel_rfl) (fun _ _ _ h=>h) HS0.out (Or.inl ⟨by rfl,by (intro W hW; obtain ⟨_,_,_,_,_,_⟩:=hW; go_simp)⟩) ?_
 simp only [Act.put,lA,lB,lC]
 refine wpAnyY_takeD (i:=3) 114 (v:=.pointer (some ⟨g,off,none⟩)) rfl rfl (by kernel_rfl) (by kernel_rfl) (late_of (by kernel_rfl)) (by kernel_rfl) (by kernel_rfl) (fun _ _ _ h=>h) HS0.out (Or.inl ⟨by rfl,by (intro W hW; obtain ⟨_,_,_,_,_,_⟩:=hW; go_simp)⟩) ?_
 simp only [Act.put,lA,lB,lC]
 refine wpAnyY_takeD (i:=4) 115 (v:=.agg #[I J h.kind,I J h.num,.string (bs h.text),.slice ka1 kn1 kc1,I J h.pl]) rfl rfl (by kernel_rfl) (by kernel_rfl) (late_of (by kernel_rfl)) (by kernel_rfl) (by kernel_rfl) (fun _ _ _ h=>h) HS0.out (Or.inl ⟨by rfl,by (intro W hW; obtain ⟨_,_,_,_,_,_⟩:=hW; go_simp)⟩) ?_
 simp only [Act.put,lA,lB,lC]
 refine wpAnyY_takeD (i:=5) 116 (v:=.pointer (some ⟨b,0,none⟩)) rfl rfl (by kernel_rfl) (by kernel_rfl) (late_of (by kernel_rfl)) (by kernel_rfl) (by kernel_rfl) (fun _ _ _ h=>h) HS0.out (Or.inl ⟨by rfl,by (intro W hW; obtain ⟨_,_,_,_,_,_⟩:=hW; go_simp)⟩) ?_
 simp only [Act.put,lA,lB,lC]
 refine wpAnyY_takeD (i:=6) 117 (v:=.pointer (some ⟨b,0,none⟩)) rfl rfl (by kernel_rfl) (by kernel_rfl) (late_of (by kernel_rfl)) (by kernel_rfl) (by kernel_rfl) (fun _ _ _ h=>h) HS0.out (Or.inl ⟨by rfl,by (intro W hW; obtain ⟨_,_,_,_,_,_⟩:=hW; go_simp)⟩) ?_
 simp only [Act.put,lA,lB,lC]
 refine wpAnyY_takeD (i:=7) 118 (v:=.pointer (some ⟨b,26,none⟩)) rfl rfl (by kernel_rfl) (by kernel_rfl) (late_of (by kernel_rfl)) (by kernel_rfl) (by kernel_rfl) (fun _ _ _ h=>h) HS0.out (Or.inl ⟨by rfl,by (intro W hW; obtain ⟨_,_,_,_,_,_⟩:=hW; go_simp)⟩) ?_
 simp only [Act.put,lA,lB,lC]
 refine wpAnyY_one (i:=8) rfl (by kernel_rfl) (fun K hK=>?_)
 refine call57_step rfl rfl rfl rfl rfl rfl ?_
 refine (HC.out _ _ _ HL6.out).mono ?_
 intro e V2 hp
 obtain ⟨f1,f2,hff⟩:∃ f1 f2,faultOf r = (f1,f2):=⟨_,_,rfl⟩
 have hRl:=HL6.out.loc (w.heap.size + 1,flL (0,0),87) (by simp)
 have hl:=hRl.1.fr (O':=O1) hp.val.2 (fun g hg=>.inl hg)
 have hv:=hp.val.1
 rw [hff] at hv
 have HF:Hid (∀ u v,TPost O b w r e ((V2.setCell ⟨w.heap.size + 1,0,none⟩ u).setCell ⟨w.heap.size + 1,1,none⟩ v)):=fun u v=>hp.lift HL6.out.fr HL6.out.new hRl.1.off hRl.2 hRl.1.lt u v
 refine ⟨_,hv,?_⟩
 subst hv
 refine hK.out _ _ (fun hh=>absurd hh (by decide)) ?_
 clear hK K HL6 HS0 HC HSS hff hp hRl
 simp only [Act.put,lA,lB,lC]
 refine wpAnyY_one (i:=9) rfl (by kernel_rfl) (fun K hK=>?_)
 refine store32_step rfl rfl rfl rfl rfl hl.heap ?_
 intro V3 hV
 have HF3:Hid (TPost O b w r (.returned (.agg #[I J f1,I J f2])) V3):=by rw [hV]; exact HF.out _ _
 have hl3:V3.heap[w.heap.size + 1]? = some (.cells #[I J f1,I J f2] 87 (0,0)):=by rw [hV]; exact ((hl.put 0 (I J f1)).put 1 (I J f2)).heap
 refine hK.out _ _ (fun hh=>absurd hh (by decide)) ?_
 clear hK K HF hl hV
 have z0:V3.cell? ⟨w.heap.size + 1,0,none⟩ = some (I J f1):=blk hl3 rfl
 have z1:V3.cell? ⟨w.heap.size + 1,1,none⟩ = some (I J f2):=blk hl3 rfl
 clear hl3
 refine wpAnyY_done (by kernel_rfl) ?_ _
 go_wp2
 refine bodyPost_ret (v:=flV (f1,f2)) ?_ rfl ?_
 ·simp only [results,hres]
  unfold flV
  simp only
  go_simp
 ·show TPost _ _ _ _ _ _
  exact HF3.out
set_option maxRecDepth 20000
set_option maxHeartbeats 4000000
theorem take_2 {B:Nat} {O:Nat -> Prop} {b:Nat} {s:Sl} {c:Ck} (i:It) (ka:Option Addr) (kc:Nat) (w:World) (hck:CkAt O b s c w) (hok:CkOk c) (hlow:∀ g,O g -> B <= g) (hB:B <= w.heap.size) (hF:FoAt false (fun g=>g < B) w i.args ka 1) (hof:okF i.args) (hn:i.name.length <= maxLen) (hk:i.kind = 2) (htw:twiceB { c with pl:=i.pl } i = false) :
 Calls Tryz.prog 60 #[.pointer (some ⟨b,0,none⟩),itV i ka 1 kc] w (TPost O b w (alphabetB ({ c with pl:=i.pl,had:=putHad c.had 2 }) (arg1 i.args))):=by
 have hres:Tryz.f60.results = #[.cell 4 87]:=by kernel_rfl
 obtain ⟨g,off,h,k,ka1,kn1,kc1,rfl,ha1,hr1,hat⟩:=one_arg hF (by omega) hof
 rw [ha1]
 have hS1:LS w O (fun g=>O g /\ g < w.heap.size) b s s (some c) [(w.heap.size + 1,flL (0,0),87),(w.heap.size,[I J 2,.string (bs i.name),.slice (some ⟨g,off,none⟩) 1 kc,I J i.pl],140)] ((w.alloc (.cells #[I J 2,.string (bs i.name),.slice (some ⟨g,off,none⟩) 1 kc,I J i.pl] 140)).alloc (.cells #[I J 0,I J 0] 87)):=by
  have:=LS.startI hck hok i (some ⟨g,off,none⟩) 1 kc
  unfold itL at this
  rw [hk] at this
  exact this
 have hmem:∀ W,Fr O w W -> ∀ q,q < w.heap.size -> q < B -> W.heap[q]? = w.heap[q]?:=fun W hf q hq hqB=>hf.block q hq (fun ho=>by have:=hlow q ho; omega)
 obtain ⟨r,hr⟩:∃ r,r = alphabetB ({ c with pl:=i.pl,had:=putHad c.had 2 }) (h,k):=⟨_,rfl⟩
 rw [<- hr]
 have HC:Hid (∀ O' s' W,LS w O O' b s s' (some { c with pl:=i.pl,had:=putHad c.had 2 }) [(w.heap.size + 1,flL (0,0),87),(w.heap.size,[I J 2,.string (bs i.name),.slice (some ⟨g,off,none⟩) 1 kc,I J i.pl],140)] W -> Calls Tryz.prog 92 #[.pointer (some ⟨b,0,none⟩),.agg #[I J h.kind,I J h.num,.string (bs h.text),.slice ka1 kn1 kc1,I J h.pl]] W (TPost O' b W r)):=by
  intro O' s' W hL
  have hlow':∀ g,O' g -> B <= g:=fun q hq=>by rcases hL.new q hq with h1 | h1; exact hlow q h1; omega
  obtain ⟨hE,-⟩:=hat W (hmem W hL.fr)
  have hB':=Nat.le_trans hB hL.fr.size
  obtain ⟨k1,k2',k3⟩:=hL.ck _ rfl
  rw [hr]
  exact alphabet_calls h k ka1 kn1 kc1 W k1 k2' hlow' hB' hE hr1
 have HTW:Hid (∀ O' s' L W,LS w O O' b s s' (some { c with pl:=i.pl }) L W -> Calls Tryz.prog 89 #[.pointer (some ⟨b,0,none⟩),.agg #[I J 2,.string (bs i.name),.slice (some ⟨g,off,none⟩) 1 kc,I J i.pl]] W fun e w'=>e = .returned (.bool false) /\ Hid (LS w O O' b s s' (some { c with pl:=i.pl }) L w')):=fun O' s' L W hL=>by
  have:=hL.twice i (some ⟨g,off,none⟩) 1 kc (by omega) (by omega) hn
  rw [htw] at this
  unfold itV at this
  rw [hk] at this
  exact this
 have HSS:Hid (∀ O' s' oc W,LS w O O' b s s' oc [(w.heap.size + 1,flL (0,0),87),(w.heap.size,[I J 2,.string (bs i.name),.slice (some ⟨g,off,none⟩) 1 kc,I J i.pl],140)] W -> W.cell? ⟨w.heap.size,2,none⟩ = some (.slice (some ⟨g,off,none⟩) 1 kc) /\ W.cell? ⟨g,off,none⟩ = some (I J h.kind) /\ W.cell? ⟨g,off + 1,none⟩ = some (I J h.num) /\ W.cell? ⟨g,off + 2,none⟩ = some (.string (bs h.text)) /\ W.cell? ⟨g,off + 3,none⟩ = some (.slice ka1 kn1 kc1) /\ W.cell? ⟨g,off + 4,none⟩ = some (I J h.pl)):=fun O' s' oc W hL=>⟨hL.at (g:=w.heap.size) (cs:=[I J 2,.string (bs i.name),.slice (some ⟨g,off,none⟩) 1 kc,I J i.pl]) (ty:=140) (by simp) rfl,(hat W (hmem W hL.fr)).2⟩
 have HOK:Hid (CkOk { c with pl:=i.pl } /\ CkOk { c with pl:=i.pl,had:=putHad c.had 2 }):=⟨hok.pl i.pl,hok.had i.pl _⟩
 generalize hO1:(fun g=>O g /\ g < w.heap.size) = O1 at hS1
 clear hO1 hck hok hlow hB hF hof hn htw hmem hat hr ha1 hr1
 unfold itV
 rw [hk]
 clear hk
 have HS1:Hid (LS w O O1 b s s (some c) [(w.heap.size + 1,flL (0,0),87),(w.heap.size,[I J 2,.string (bs i.name),.slice (some ⟨g,off,none⟩) 1 kc,I J i.pl],140)] ((w.alloc (.cells #[I J 2,.string (bs i.name),.slice (some ⟨g,off,none⟩) 1 kc,I J i.pl] 140)).alloc (.cells #[I J 0,I J 0] 87))):=hS1
 clear hS1
 go_enter Tryz.func60,Tryz.ntmps60
 go_upto_region 1 with (fail)
 generalize ((w.alloc (.cells #[I J 2,.string (bs i.name),.slice (some ⟨g,off,none⟩) 1 kc,I J i.pl] 140)).alloc (.cells #[I J 0,I J 0] 87)) = w1 at *
 have x3:w1.cell? ⟨w.heap.size,3,none⟩ = some (I J i.pl):=HS1.out.at (g:=w.heap.size) (cs:=[I J 2,.string (bs i.name),.slice (some ⟨g,off,none⟩) 1 kc,I J i.pl]) (ty:=140) (by simp) rfl
 have b24:w1.cell? ⟨b,24,none⟩ = some (I J c.pl):=(HS1.out.ck _ rfl).1.c24
 have bf:w1.frozen? ⟨b,24,none⟩ = false:=(HS1.out.ck _ rfl).1.fz 24
 have HS2:Hid (LS w O O1 b s s (some { c with pl:=i.pl }) [(w.heap.size + 1,flL (0,0),87),(w.heap.size,[I J 2,.string (bs i.name),.slice (some ⟨g,off,none⟩) 1 kc,I J i.pl],140)] (w1.setCell ⟨b,24,none⟩ (I J i.pl))):=HS1.out.putB rfl rfl rfl rfl rfl rfl HOK.out.1
 go_upto_region 2 with (fail)
 clear x3 b24 bf HS1
 generalize w1.setCell ⟨b,24,none⟩ (I J i.pl) = w2 at *
 have x0:w2.cell? ⟨w.heap.size,0,none⟩ = some (I J 2):=HS2.out.at (g:=w.heap.size) (cs:=[I J 2,.string (bs i.name),.slice (some ⟨g,off,none⟩) 1 kc,I J i.pl]) (ty:=140) (by simp) rfl
 have x1:w2.cell? ⟨w.heap.size,1,none⟩ = some (.string (bs i.name)):=HS2.out.at (g:=w.heap.size) (cs:=[I J 2,.string (bs i.name),.slice (some ⟨g,off,none⟩) 1 kc,I J i.pl]) (ty:=140) (by simp) rfl
 have x2:w2.cell? ⟨w.heap.size,2,none⟩ = some (.slice (some ⟨g,off,none⟩) 1 kc):=HS2.out.at (g:=w.heap.size) (cs:=[I J 2,.string (bs i.name),.slice (some ⟨g,off,none⟩) 1 kc,I J i.pl]) (ty:=140) (by simp) rfl
 have x3:w2.cell? ⟨w.heap.size,3,none⟩ = some (I J i.pl):=HS2.out.at (g:=w.heap.size) (cs:=[I J 2,.string (bs i.name),.slice (some ⟨g,off,none⟩) 1 kc,I J i.pl]) (ty:=140) (by simp) rfl
 go_wp2_with (go_at_call 89; refine (HTW.out _ _ _ _ HS2.out).mono ?_; rintro e w3 ⟨rfl,HS3⟩)
 clear x0 x1 x2 x3 HS2 HTW
 have HL4:Hid (LS w O O1 b s s (some { c with pl:=i.pl }) [(w.heap.size + 1,flL (0,0),87),(w.heap.size,[I J 2,.string (bs i.name),.slice (some ⟨g,off,none⟩) 1 kc,I J i.pl],140)] w3.drew):=HS3.out.drew
 have HS0:Hid (w3.drew.cell? ⟨w.heap.size,0,none⟩ = some (I J 2)):=HL4.out.at (g:=w.heap.size) (cs:=[I J 2,.string (bs i.name),.slice (some ⟨g,off,none⟩) 1 kc,I J i.pl]) (ty:=140) (by simp) rfl
 clear HS3
 refine wp_region_Y (fun j=>[6].contains j) (fun W=>W.cell? ⟨w.heap.size,0,none⟩ = some (I J 2)) (by kernel_rfl) ?_
 refine wpAnyY_takeD (i:=0) 15 (v:=.pointer (some ⟨b,0,none⟩)) rfl rfl (by kernel_rfl) (by kernel_rfl) (late_of (by kernel_rfl)) (by kernel_rfl) (by kernel_rfl) (fun _ _ _ h=>h) HS0.out (Or.inl ⟨by rfl,by (intro W hW; go_simp)⟩) ?_
 simp only [Act.put,lA,lB,lC]
 refine wpAnyY_takeD (i:=1) 16 (v:=.pointer (some ⟨w.heap.size,0,none⟩)) rfl rfl (by kernel_rfl) (by kernel_rfl) (late_of (by kernel_rfl)) (by kernel_rfl) (by kernel_rfl) (fun _ _ _ h=>h) HS0.out (Or.inl ⟨by rfl,by (intro W hW; go_simp)⟩) ?_
 simp only [Act.put,lA,lB,lC]
 refine wpAnyY_takeD (i:=2) 17 (v:=I J 2) rfl rfl (by kernel_rfl) (by kernel_rfl) (late_of (by kernel_rfl)) (by kernel_rfl) (by kernel_rfl) (fun _ _ _ h=>h) HS0.out (Or.inl ⟨by rfl,by (intro W hW; go_simp)⟩) ?_
 simp only [Act.put,lA,lB,lC]
 refine wpAnyY_takeD (i:=3) 18 (v:=.pointer (some ⟨b,0,none⟩)) rfl rfl (by kernel_rfl) (by kernel_rfl) (late_of (by kernel_rfl)) (by kernel_rfl) (by kernel_rfl) (fun _ _ _ h=>h) HS0.out (Or.inl ⟨by rfl,by (intro W hW; go_simp)⟩) ?_
 simp only [Act.put,lA,lB,lC]
 refine wpAnyY_takeD (i:=4) 19 (v:=.pointer (some ⟨b,13,none⟩)) rfl rfl (by kernel_rfl) (by kernel_rfl) (late_of (by kernel_rfl)) (by kernel_rfl) (by kernel_rfl) (fun _ _ _ h=>h) HS0.out (Or.inl ⟨by rfl,by (intro W hW; go_simp)⟩) ?_
 simp only [Act.put,lA,lB,lC]
 refine wpAnyY_takeD (i:=5) 20 (v:=.pointer (some ⟨b,15,none⟩)) rfl rfl (by kernel_rfl) (by kernel_rfl) (late_of (by kernel_rfl)) (by kernel_rfl) (by kernel_rfl) (fun _ _ _ h=>h) HS0.out (Or.inl ⟨by rfl,by (intro W hW; go_simp)⟩) ?_
 simp only [Act.put,lA,lB,lC]
 refine wpAnyY_one (i:=6) rfl (by kernel_rfl) (fun K hK=>?_)
 refine storeB_step rfl rfl rfl rfl ((HL4.out.ck _ rfl).1.hadk (k:=2) (by omega)) ((HL4.out.ck _ rfl).1.fz 15) ?_
 intro V hV
 have HL5:Hid (LS w O O1 b s s (some { c with pl:=i.pl,had:=putHad c.had 2 }) [(w.heap.size + 1,flL (0,0),87),(w.heap.size,[I J 2,.string (bs i.name),.slice (some ⟨g,off,none⟩) 1 kc,I J i.pl],140)] V):=by subst hV; exact HL4.out.putB rfl rfl rfl rfl rfl rfl HOK.out.2
 refine hK.out _ _ (fun hh=>absurd hh (by decide)) ?_
 clear hK K HL4 HS0 hV HOK
 refine wpAnyY_done (by kernel_rfl) ?_ _
 have x0:V.cell? ⟨w.heap.size,0,none⟩ = some (I J 2):=HL5.out.at (g:=w.heap.size) (cs:=[I J 2,.string (bs i.name),.slice (some ⟨g,off,none⟩) 1 kc,I J i.pl]) (ty:=140) (by simp) rfl
 obtain ⟨f1,f2,hff⟩:∃ f1 f2,faultOf r = (f1,f2):=⟨_,_,rfl⟩
 have HCC:Hid (Calls Tryz.prog 92 #[.pointer (some ⟨b,0,none⟩),.agg #[I J h.kind,I J h.num,.string (bs h.text),.slice ka1 kn1 kc1,I J h.pl]] V fun e V2=>e = .returned (.agg #[I J f1,I J f2]) /\ V2.cell? ⟨w.heap.size + 1,0,none⟩ = some (I J 0) /\ V2.cell? ⟨w.heap.size + 1,1,none⟩ = some (I J 0) /\ (∀ i,V2.frozen? ⟨w.heap.size + 1,i,none⟩ = false) /\ Hid (∀ u v,TPost O b w r e ((V2.setCell ⟨w.heap.size + 1,0,none⟩ u).setCell ⟨w.heap.size + 1,1,none⟩ v))):=by
  refine (HC.out _ _ _ HL5.out).mono ?_
  intro e V2 hp
  have hRl:=HL5.out.loc (w.heap.size + 1,flL (0,0),87) (by simp)
  have hl:=hRl.1.fr (O':=O1) hp.val.2 (fun g hg=>.inl hg)
  have hv:=hp.val.1
  rw [hff] at hv
  exact ⟨hv,hl.cell rfl,hl.cell rfl,fun i=>hl.fz i,fun u v=>hp.lift HL5.out.fr HL5.out.new hRl.1.off hRl.2 hRl.1.lt u v⟩
 obtain ⟨q0,q1,q2,q3,q4,q5⟩:=HSS.out _ _ _ _ HL5.out
 clear HC HSS HL5 hff
 go_wp2_with (go_at_call 92; refine HCC.out.mono ?_; rintro e V2 ⟨rfl,z0,z1,zf,HF⟩)
 refine bodyPost_ret (v:=flV (f1,f2)) ?_ rfl ?_
 ·simp only [results,hres]
  unfold flV
  simp only
  go_simp
 ·show TPost _ _ _ _ _ _
  exact HF.out _ _
set_option maxRecDepth 20000
set_option maxHeartbeats 4000000
theorem take_7 {O:Nat -> Prop} {b:Nat} {s:Sl} {c:Ck} (i:It) (ka:Option Addr) (kn kc:Nat) (w:World) (hck:CkAt O b s c w) (hok:CkOk c) (hn:i.name.length <= maxLen) (hk:i.kind = 7) (htw:twiceB { c with pl:=i.pl } i = false) :
 Calls Tryz.prog 60 #[.pointer (some ⟨b,0,none⟩),itV i ka kn kc] w (TPost O b w (.ok { c with pl:=i.pl,had:=putHad c.had 7,mode:=modeB i.name })):=by
 have hres:Tryz.f60.results = #[.cell 4 87]:=by kernel_rfl
 have hS1:LS w O (fun g=>O g /\ g < w.heap.size) b s s (some c) [(w.heap.size + 1,flL (0,0),87),(w.heap.size,[I J 7,.string (bs i.name),.slice ka kn kc,I J i.pl],140)] ((w.alloc (.cells #[I J 7,.string (bs i.name),.slice ka kn kc,I J i.pl] 140)).alloc (.cells #[I J 0,I J 0] 87)):=by
  have:=LS.startI hck hok i ka kn kc
  unfold itL at this
  rw [hk] at this
  exact this
 have HTW:Hid (∀ O' s' L W,LS w O O' b s s' (some { c with pl:=i.pl }) L W -> Calls Tryz.prog 89 #[.pointer (some ⟨b,0,none⟩),.agg #[I J 7,.string (bs i.name),.slice ka kn kc,I J i.pl]] W fun e w'=>e = .returned (.bool false) /\ Hid (LS w O O' b s s' (some { c with pl:=i.pl }) L w')):=fun O' s' L W hL=>by
  have:=hL.twice i ka kn kc (by omega) (by omega) hn
  rw [htw] at this
  unfold itV at this
  rw [hk] at this
  exact this
 have HOK:Hid (CkOk { c with pl:=i.pl } /\ CkOk { c with pl:=i.pl,had:=putHad c.had 7 }):=⟨hok.pl i.pl,hok.had i.pl _⟩
 have HMD:Hid (∀ W,Calls Tryz.prog 95 #[.string (bs i.name)] W fun e w'=>e = .returned (I J (modeB i.name)) /\ w' = W):=fun W=>modeOf_calls i.name W
 obtain ⟨md,hmd⟩:∃ md,md = modeB i.name:=⟨_,rfl⟩
 rw [<- hmd] at HMD ⊢
 generalize hO1:(fun g=>O g /\ g < w.heap.size) = O1 at hS1
 clear hO1 hck hok hn htw hmd
 unfold itV
 rw [hk]
 clear hk
 have HS1:Hid (LS w O O1 b s s (some c) [(w.heap.size + 1,flL (0,0),87),(w.heap.size,[I J 7,.string (bs i.name),.slice ka kn kc,I J i.pl],140)] ((w.alloc (.cells #[I J 7,.string (bs i.name),.slice ka kn kc,I J i.pl] 140)).alloc (.cells #[I J 0,I J 0] 87))):=hS1
 clear hS1
 go_enter Tryz.func60,Tryz.ntmps60
 go_upto_region 1 with (fail)
 generalize ((w.alloc (.cells #[I J 7,.string (bs i.name),.slice ka kn kc,I J i.pl] 140)).alloc (.cells #[I J 0,I J 0] 87)) = w1 at *
 have x3:w1.cell? ⟨w.heap.size,3,none⟩ = some (I J i.pl):=HS1.out.at (g:=w.heap.size) (cs:=[I J 7,.string (bs i.name),.slice ka kn kc,I J i.pl]) (ty:=140) (by simp) rfl
 have b24:w1.cell? ⟨b,24,none⟩ = some (I J c.pl):=(HS1.out.ck _ rfl).1.c24
 have bf:w1.frozen? ⟨b,24,none⟩ = false:=(HS1.out.ck _ rfl).1.fz 24
 have HS2:Hid (LS w O O1 b s s (some { c with pl:=i.pl }) [(w.heap.size + 1,flL (0,0),87),(w.heap.size,[I J 7,.string (bs i.name),.slice ka kn kc,I J i.pl],140)] (w1.setCell ⟨b,24,none⟩ (I J i.pl))):=HS1.out.putB rfl rfl rfl rfl rfl rfl HOK.out.1
 go_upto_region 2 with (fail)
 clear x3 b24 bf HS1
 generalize w1.setCell ⟨b,24,none⟩ (I J i.pl) = w2 at *
 have x0:w2.cell? ⟨w.heap.size,0,none⟩ = some (I J 7):=HS2.out.at (g:=w.heap.size) (cs:=[I J 7,.string (bs i.name),.slice ka kn kc,I J i.pl]) (ty:=140) (by simp) rfl
 have x1:w2.cell? ⟨w.heap.size,1,none⟩ = some (.string (bs i.name)):=HS2.out.at (g:=w.heap.size) (cs:=[I J 7,.string (bs i.name),.slice ka kn kc,I J i.pl]) (ty:=140) (by simp) rfl
 have x2:w2.cell? ⟨w.heap.size,2,none⟩ = some (.slice ka kn kc):=HS2.out.at (g:=w.heap.size) (cs:=[I J 7,.string (bs i.name),.slice ka kn kc,I J i.pl]) (ty:=140) (by simp) rfl
 have x3:w2.cell? ⟨w.heap.size,3,none⟩ = some (I J i.pl):=HS2.out.at (g:=w.heap.size) (cs:=[I J 7,.string (bs i.name),.slice ka kn kc,I J i.pl]) (ty:=140) (by simp) rfl
 go_wp2_with (go_at_call 89; refine (HTW.out _ _ _ _ HS2.out).mono ?_; rintro e w3 ⟨rfl,HS3⟩)
 clear x0 x1 x2 x3 HS2 HTW
 have HL4:Hid (LS w O O1 b s s (some { c with pl:=i.pl }) [(w.heap.size + 1,flL (0,0),87),(w.heap.size,[I J 7,.string (bs i.name),.slice ka kn kc,I J i.pl],140)] w3.drew):=HS3.out.drew
 have HS0:Hid (w3.drew.cell? ⟨w.heap.size,0,none⟩ = some (I J 7)):=HL4.out.at (g:=w.heap.size) (cs:=[I J 7,.string (bs i.name),.slice ka kn kc,I J i.pl]) (ty:=140) (by simp) rfl
 clear HS3
 refine wp_region_Y (fun j=>[6].contains j) (fun W=>W.cell? ⟨w.heap.size,0,none⟩ = some (I J 7)) (by kernel_rfl) ?_
 refine wpAnyY_takeD (i:=0) 15 (v:=.pointer (some ⟨b,0,none⟩)) rfl rfl (by kernel_rfl) (by kernel_rfl) (late_of (by kernel_rfl)) (by kernel_rfl) (by kernel_rfl) (fun _ _ _ h=>h) HS0.out (Or.inl ⟨by rfl,by (intro W hW; go_simp)⟩) ?_
 simp only [Act.put,lA,lB,lC]
 refine wpAnyY_takeD (i:=1) 16 (v:=.pointer (some ⟨w.heap.size,0,none⟩)) rfl rfl (by kernel_rfl) (by kernel_rfl) (late_of (by kernel_rfl)) (by kernel_rfl) (by kernel_rfl) (fun _ _ _ h=>h) HS0.out (Or.inl ⟨by rfl,by (intro W hW; go_simp)⟩) ?_
 simp only [Act.put,lA,lB,lC]
 refine wpAnyY_takeD (i:=2) 17 (v:=I J 7) rfl rfl (by kernel_rfl) (by kernel_rfl) (late_of (by kernel_rfl)) (by kernel_rfl) (by kernel_rfl) (fun _ _ _ h=>h) HS0.out (Or.inl ⟨by rfl,by (intro W hW; go_simp)⟩) ?_
 simp only [Act.put,lA,lB,lC]
 refine wpAnyY_takeD (i:=3) 18 (v:=.pointer (some ⟨b,0,none⟩)) rfl rfl (by kernel_rfl) (by kernel_rfl) (late_of (by kernel_rfl)) (by kernel_rfl) (by kernel_rfl) (fun _ _ _ h=>h) HS0.out (Or.inl ⟨by rfl,by (intro W hW; go_simp)⟩) ?_
 simp only [Act.put,lA,lB,lC]
 refine wpAnyY_takeD (i:=4) 19 (v:=.pointer (some ⟨b,13,none⟩)) rfl rfl (by kernel_rfl) (by kernel_rfl) (late_of (by kernel_rfl)) (by kernel_rfl) (by kernel_rfl) (fun _ _ _ h=>h) HS0.out (Or.inl ⟨by rfl,by (intro W hW; go_simp)⟩) ?_
 simp only [Act.put,lA,lB,lC]
 refine wpAnyY_takeD (i:=5) 20 (v:=.pointer (some ⟨b,20,none⟩)) rfl rfl (by kernel_rfl) (by kernel_rfl) (late_of (by kernel_rfl)) (by kernel_rfl) (by kernel_rfl) (fun _ _ _ h=>h) HS0.out (Or.inl ⟨by rfl,by (intro W hW; go_simp)⟩) ?_
 simp only [Act.put,lA,lB,lC]
 refine wpAnyY_one (i:=6) rfl (by kernel_rfl) (fun K hK=>?_)
 refine storeB_step rfl rfl rfl rfl ((HL4.out.ck _ rfl).1.hadk (k:=7) (by omega)) ((HL4.out.ck _ rfl).1.fz 20) ?_
 intro V hV
 have HL5:Hid (LS w O O1 b s s (some { c with pl:=i.pl,had:=putHad c.had 7 }) [(w.heap.size + 1,flL (0,0),87),(w.heap.size,[I J 7,.string (bs i.name),.slice ka kn kc,I J i.pl],140)] V):=by subst hV; exact HL4.out.putB rfl rfl rfl rfl rfl rfl HOK.out.2
 refine hK.out _ _ (fun hh=>absurd hh (by decide)) ?_
 clear hK K HL4 HS0 hV
 refine wpAnyY_done (by kernel_rfl) ?_ _
 have x0:V.cell? ⟨w.heap.size,0,none⟩ = some (I J 7):=HL5.out.at (g:=w.heap.size) (cs:=[I J 7,.string (bs i.name),.slice ka kn kc,I J i.pl]) (ty:=140) (by simp) rfl
 have x1:V.cell? ⟨w.heap.size,1,none⟩ = some (.string (bs i.name)):=HL5.out.at (g:=w.heap.size) (cs:=[I J 7,.string (bs i.name),.slice ka kn kc,I J i.pl]) (ty:=140) (by simp) rfl
 have b4:V.cell? ⟨b,4,none⟩ = some (I J c.mode):=(HL5.out.ck _ rfl).1.c4
 have bf:V.frozen? ⟨b,4,none⟩ = false:=(HL5.out.ck _ rfl).1.fz 4
 have HL6:Hid (LS w O O1 b s s (some { c with pl:=i.pl,had:=putHad c.had 7,mode:=md }) [(w.heap.size + 1,flL (0,0),87),(w.heap.size,[I J 7,.string (bs i.name),.slice ka kn kc,I J i.pl],140)] (V.setCell ⟨b,4,none⟩ (I J md))):=HL5.out.putB rfl rfl rfl rfl rfl rfl ⟨HOK.out.2.vals,HOK.out.2.same,HOK.out.2.few,HOK.out.2.names,HOK.out.2.alpha,HOK.out.2.sub,HOK.out.2.pcs⟩
 clear HL5 HOK
 go_upto_region 26 with (go_at_call 95; refine (HMD.out _).mono ?_; rintro e w4 ⟨rfl,hw4⟩; subst w4)
 clear x0 x1 b4 bf
 generalize V.setCell ⟨b,4,none⟩ (I J md) = V4 at *
 have z0:V4.cell? ⟨w.heap.size + 1,0,none⟩ = some (I J 0):=HL6.out.at (g:=w.heap.size + 1) (cs:=flL (0,0)) (ty:=87) (by simp) rfl
 have z1:V4.cell? ⟨w.heap.size + 1,1,none⟩ = some (I J 0):=HL6.out.at (g:=w.heap.size + 1) (cs:=flL (0,0)) (ty:=87) (by simp) rfl
 have zf:∀ i,V4.frozen? ⟨w.heap.size + 1,i,none⟩ = false:=fun i=>HL6.out.fz (g:=w.heap.size + 1) (cs:=flL (0,0)) (ty:=87) (by simp) i
 go_wp2
 refine bodyPost_ret (v:=flV (0,0)) ?_ rfl ?_
 ·simp only [results,hres]
  unfold flV
  simp only
  go_simp
 ·show TPost _ _ _ _ _ _
  have hoff:=(HL6.out.loc (w.heap.size + 1,flL (0,0),87) (by simp)).1.off
  exact ⟨rfl,(HL6.out.fr.setCell (.inr (by omega)) _ _).setCell (.inr (by omega)) _ _,O1,s,HL6.out.new,ck_set (ck_set (HL6.out.ck _ rfl).1 hoff _ _) hoff _ _⟩
/-- An item of letters, of one score, of a gap, of a way: with numbers and texts alone. -/
def itSim (i:It):Bool:=itRight i && (simF i.args && (decide (i.kind = 2) || (decide (i.kind = 3) || (decide (i.kind = 4) || (decide (i.kind = 6) || decide (i.kind = 7))))))
theorem take_calls {B:Nat} {O:Nat -> Prop} {b:Nat} {s:Sl} {c c':Ck} (i:It) (ka:Option Addr) (kn kc:Nat) (w:World) (hck:CkAt O b s c w) (hok:CkOk c) (hlow:∀ g,O g -> B <= g) (hB:B <= w.heap.size) (hF:FoAt false (fun g=>g < B) w i.args ka kn) (hn:i.name.length <= maxLen) (hsi:itSim i = true) (hT:takeC c i = .ok c') :
 Calls Tryz.prog 60 #[.pointer (some ⟨b,0,none⟩),itV i ka kn kc] w (TPost O b w (takeC c i)):=by
 have hlen:=foAt_len hF
 unfold itSim at hsi
 simp only [Bool.and_eq_true,Bool.or_eq_true,decide_eq_true_eq] at hsi
 obtain ⟨hri,hsf,hk⟩:=hsi
 unfold takeC at hT ⊢
 cases htw:twiceB { c with pl:=i.pl } i with
 | true=>rw [htw,if_pos rfl] at hT; cases hT
 | false=>
   rw [if_neg (by simp)]
   clear hT
   unfold itRight at hri
   have hof:∀ d,rgtF d i.args = true -> okF i.args:=fun d hd=>⟨d,by rw [hd,hsf]; rfl⟩
   rw [if_neg (by omega)] at hri
   by_cases k7:i.kind = 7
   ·have:=take_7 i ka kn kc w hck hok hn k7 htw
    unfold bodyB
    rw [k7]
    simp only [show ¬ (7:Int) = 1 by decide,show ¬ (7:Int) = 2 by decide,show ¬ (7:Int) = 5 by decide,show ¬ (7:Int) = 6 by decide,if_false,if_true]
    exact this
   rw [if_neg k7] at hri
   by_cases kA:i.kind = 2 \/ i.kind = 3 \/ i.kind = 4 \/ i.kind = 10
   ·rw [if_pos kA] at hri
    simp only [Bool.and_eq_true,decide_eq_true_eq] at hri
    have hk0:kn = 1:=by omega
    subst hk0
    unfold bodyB
    rcases kA with k | k | k | k
    ·have:=take_2 i ka kc w hck hok hlow hB hF (hof _ hri.2.2) hn k htw
     rw [k]; exact this
    ·have:=take_3 i ka kc w hck hok hlow hB hF (hof _ hri.2.2) hn k htw
     rw [k]; exact this
    ·have:=take_4 i ka kc w hck hok hlow hB hF (hof _ hri.2.2) hn k htw
     rw [k]; exact this
    ·omega
   rw [if_neg kA] at hri
   have k6:i.kind = 6:=by omega
   rw [if_pos (by omega)] at hri
   simp only [Bool.and_eq_true,decide_eq_true_eq] at hri
   have hk0:kn = 2:=by omega
   subst hk0
   unfold bodyB
   have:=take_6 i ka kc w hck hok hlow hB hF (hof _ hri.2.2) hn k6 htw
   rw [k6]; exact this
theorem LS.startE {b:Nat} {s:Sl} {c:Ck} {w:World} {O:Nat -> Prop} (hck:CkAt O b s c w) (hok:CkOk c) :
 LS w O (fun g=>O g /\ g < w.heap.size) b s s (some c) [(w.heap.size,flL (0,0),87)] (w.alloc (.cells #[I J 0,I J 0] 87)):=(LS.start hck hok).alloc (flL (0,0)) 87
theorem LS.zero {w W:World} {O0 O:Nat -> Prop} {b:Nat} {s0 s:Sl} {c:Ck} {L:List Lo} (h:LS w O0 O b s0 s (some c) L W) (p:Int) (hp:p = c.pl) :
 Calls Tryz.prog 100 #[.pointer (some ⟨b,0,none⟩),.agg #[I J 1,I J 0,I J 0,I J 0],I J p] W fun e w'=>∃ m f oc O' s',e = .returned (.tuple #[.agg #[.bool m.isText,.string (bs m.text),I J m.place,I J m.num],.agg #[I J f.1,I J f.2]]) /\ Hid (RQ (zeroB c) m f oc /\ LS w O0 O' b s0 s' oc L w'):=by
 subst hp
 obtain ⟨k1,k2,k3⟩:=h.ck c rfl
 exact h.asks (lay_calls W k1 k2 ⟨1,0,0,0⟩ ⟨by constructor <;> simp,fun h=>by simp at h,fun h=>by simp at h⟩ c.pl) (fun c' m hm=>(layB_ok k2 hm).1)
theorem LS.score {w W:World} {O0 O:Nat -> Prop} {b:Nat} {s0 s:Sl} {c:Ck} {L:List Lo} (h:LS w O0 O b s0 s (some c) L W) (hne:c.letters ≠ []) :
 Calls Tryz.prog 99 #[.pointer (some ⟨b,0,none⟩)] W fun e w'=>e = .returned (.bool (decide (-1 ∉ fillB c))) /\ Hid (∃ O',LS w O0 O' b s0 s (some { c with subst:=fillB c }) L w'):=by
 obtain ⟨k1,k2,k3⟩:=h.ck c rfl
 refine (score_calls W k1 k2 hne).mono ?_
 rintro e w' ⟨rfl,hh⟩
 have hl:=fillB_len c
 refine ⟨rfl,_,h.go (O':=O) hh.out.1 (fun g hg=>.inl hg) (fun c' hc=>?_)⟩
 cases hc
 exact ⟨hh.out.2,⟨k2.vals,k2.same,k2.few,k2.names,fun hx=>by have:=k2.alpha hx; exact ⟨this.1,by show (fillB c).length = _; rw [hl]; exact this.2⟩,by show (fillB c).length <= 400; rw [hl]; exact k2.sub,k2.pcs⟩,k3⟩
end Go.Proofs.YtbbbnopganhebabGreat
