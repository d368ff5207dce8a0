/-
  One item more: kinds 1, 2. One item more: the way, and all kinds together: take. What no item has said is filled in: end.
-/
import Derived.Test.YtlaodgdlkkmmeaaGreatG41
import Derived.Test.YtlaodgdlkkmmeaaGreatG26
import Derived.Test.YtlaodgdlkkmmeaaGreatG39
namespace Go.Proofs.YtlaodgdlkkmmeaaGreat
open Go.RowKit Go.Deep Go.Maps
open Go.Value renaming int->I,pointer->Φ,string->Ψ,slice->Γ
open Go.IntKind renaming i64->J
open Go.Obj renaming cells->Δ
open Go.Ending renaming returned->Ω
set_option maxRecDepth 20000
set_option maxHeartbeats 4000000
theorem take_1 {B:Nat} {O:Nat -> Prop} {b:Nat} {s:Sl} {c:Ck} (i:It) (ka:Option Addr) (kc:Nat) (w:World) (hck:CkAt O b s c w) (hok:CkOk c) (hlow:∀ g,O g -> B <= g) (hB:B <= w.heap.size) (hF:FoAt false (fun g=>g < B) w i.args ka 1) (hof:okF i.args) (hn:i.name.length <= maxLen) (hk:i.kind = 1) (htw:twiceB { c with pl:=i.pl } i = false) (hnm:c.names.length < 1000) :
 Calls Tryz.prog 28 #[Φ (some ⟨b,0,none⟩),itV i ka 1 kc] w (TPost O b w (letB ({ c with pl:=i.pl,had:=putHad c.had 1 }) i.name (arg1 i.args))):=by
 have hres:Tryz.f28.results = #[.cell 4 32]:=by kernel_rfl
 obtain ⟨g,off,h,k,ka1,kn1,kc1,rfl,ha1,hr1,hat⟩:=one_arg hF (by omega) hof
 rw [ha1]
 have hS1:LS w O (fun g=>O g /\ g < w.heap.size) b s s (some c) [(w.heap.size + 1,flL (0,0),32),(w.heap.size,[I J 1,Ψ (bs i.name),Γ (some ⟨g,off,none⟩) 1 kc,I J i.pl],67)] ((w.alloc (Δ #[I J 1,Ψ (bs i.name),Γ (some ⟨g,off,none⟩) 1 kc,I J i.pl] 67)).alloc (Δ #[I J 0,I J 0] 32)):=by
  have:=LS.startI hck hok i (some ⟨g,off,none⟩) 1 kc
  unfold itL at this
  rw [hk] at this
  exact this
 have hmem:∀ W,Fr O w W -> ∀ q,q < w.heap.size -> q < B -> W.heap[q]? = w.heap[q]?:=fun W hf q hq hqB=>hf.block q hq (fun ho=>by have:=hlow q ho; omega)
 obtain ⟨r,hr⟩:∃ r,r = letB ({ c with pl:=i.pl,had:=putHad c.had 1 }) i.name (h,k):=⟨_,rfl⟩
 rw [<- hr]
 have HC:Hid (∀ O' s' W,LS w O O' b s s' (some { c with pl:=i.pl,had:=putHad c.had 1 }) [(w.heap.size + 1,flL (0,0),32),(w.heap.size,[I J 1,Ψ (bs i.name),Γ (some ⟨g,off,none⟩) 1 kc,I J i.pl],67)] W -> Calls Tryz.prog 50 #[Φ (some ⟨b,0,none⟩),Ψ (bs i.name),.agg #[I J h.kind,I J h.num,Ψ (bs h.text),Γ ka1 kn1 kc1,I J h.pl]] W (TPost O' b W r)):=by
  intro O' s' W hL
  have hlow':∀ g,O' g -> B <= g:=fun q hq=>by rcases hL.new q hq with h1 | h1; exact hlow q h1; omega
  obtain ⟨hE,-⟩:=hat W (hmem W hL.fr)
  have hB':=Nat.le_trans hB hL.fr.size
  obtain ⟨k1,k2',k3⟩:=hL.ck _ rfl
  rw [hr]
  exact let_calls i.name h k ka1 kn1 kc1 W k1 k2' hlow' hB' hE hr1 hnm hn
 have HTW:Hid (∀ O' s' L W,LS w O O' b s s' (some { c with pl:=i.pl }) L W -> Calls Tryz.prog 48 #[Φ (some ⟨b,0,none⟩),.agg #[I J 1,Ψ (bs i.name),Γ (some ⟨g,off,none⟩) 1 kc,I J i.pl]] W fun e w'=>e = Ω (.bool false) /\ Hid (LS w O O' b s s' (some { c with pl:=i.pl }) L w')):=fun O' s' L W hL=>by
  have:=hL.twice i (some ⟨g,off,none⟩) 1 kc (by omega) (by omega) hn
  rw [htw] at this
  unfold itV at this
  rw [hk] at this
  exact this
 have HSS:Hid (∀ O' s' oc W,LS w O O' b s s' oc [(w.heap.size + 1,flL (0,0),32),(w.heap.size,[I J 1,Ψ (bs i.name),Γ (some ⟨g,off,none⟩) 1 kc,I J i.pl],67)] W -> W.cell? ⟨w.heap.size,2,none⟩ = some (Γ (some ⟨g,off,none⟩) 1 kc) /\ W.cell? ⟨w.heap.size,1,none⟩ = some (Ψ (bs i.name)) /\ W.cell? ⟨g,off,none⟩ = some (I J h.kind) /\ W.cell? ⟨g,off + 1,none⟩ = some (I J h.num) /\ W.cell? ⟨g,off + 2,none⟩ = some (Ψ (bs h.text)) /\ W.cell? ⟨g,off + 3,none⟩ = some (Γ ka1 kn1 kc1) /\ W.cell? ⟨g,off + 4,none⟩ = some (I J h.pl)):=fun O' s' oc W hL=>⟨hL.at (g:=w.heap.size) (cs:=[I J 1,Ψ (bs i.name),Γ (some ⟨g,off,none⟩) 1 kc,I J i.pl]) (ty:=67) (by simp) rfl,hL.at (g:=w.heap.size) (cs:=[I J 1,Ψ (bs i.name),Γ (some ⟨g,off,none⟩) 1 kc,I J i.pl]) (ty:=67) (by simp) rfl,(hat W (hmem W hL.fr)).2⟩
 have HOK:Hid (CkOk { c with pl:=i.pl } /\ CkOk { c with pl:=i.pl,had:=putHad c.had 1 }):=⟨hok.pl i.pl,hok.had i.pl _⟩
 generalize hO1:(fun g=>O g /\ g < w.heap.size) = O1 at hS1
 clear hO1 hck hok hlow hB hF hof hn htw hmem hat hr ha1 hr1 hnm
 unfold itV
 rw [hk]
 clear hk
 have HS1:=hid hS1
 clear hS1
 go_enter Tryz.func28,Tryz.ntmps28
 go_upto_region 1 with (fail)
 generalize ((w.alloc (Δ #[I J 1,Ψ (bs i.name),Γ (some ⟨g,off,none⟩) 1 kc,I J i.pl] 67)).alloc (Δ #[I J 0,I J 0] 32)) = w1 at *
 have x3:w1.cell? ⟨w.heap.size,3,none⟩ = some (I J i.pl):=HS1.out.at (g:=w.heap.size) (cs:=[I J 1,Ψ (bs i.name),Γ (some ⟨g,off,none⟩) 1 kc,I J i.pl]) (ty:=67) (by simp) rfl
 have b24:w1.cell? ⟨b,24,none⟩ = some (I J c.pl):=(HS1.out.ck _ rfl).1.c24
 have bf:w1.frozen? ⟨b,24,none⟩ = false:=(HS1.out.ck _ rfl).1.fz 24
 have HS2:Hid (LS w O O1 b s s (some { c with pl:=i.pl }) [(w.heap.size + 1,flL (0,0),32),(w.heap.size,[I J 1,Ψ (bs i.name),Γ (some ⟨g,off,none⟩) 1 kc,I J i.pl],67)] (w1.setCell ⟨b,24,none⟩ (I J i.pl))):=HS1.out.putB rfl rfl rfl rfl rfl rfl HOK.out.1
 go_upto_region 2 with (fail)
 clear x3 b24 bf HS1
 generalize w1.setCell ⟨b,24,none⟩ (I J i.pl) = w2 at *
 have x0:w2.cell? ⟨w.heap.size,0,none⟩ = some (I J 1):=HS2.out.at (g:=w.heap.size) (cs:=[I J 1,Ψ (bs i.name),Γ (some ⟨g,off,none⟩) 1 kc,I J i.pl]) (ty:=67) (by simp) rfl
 have x1:w2.cell? ⟨w.heap.size,1,none⟩ = some (Ψ (bs i.name)):=HS2.out.at (g:=w.heap.size) (cs:=[I J 1,Ψ (bs i.name),Γ (some ⟨g,off,none⟩) 1 kc,I J i.pl]) (ty:=67) (by simp) rfl
 have x2:w2.cell? ⟨w.heap.size,2,none⟩ = some (Γ (some ⟨g,off,none⟩) 1 kc):=HS2.out.at (g:=w.heap.size) (cs:=[I J 1,Ψ (bs i.name),Γ (some ⟨g,off,none⟩) 1 kc,I J i.pl]) (ty:=67) (by simp) rfl
 have x3:w2.cell? ⟨w.heap.size,3,none⟩ = some (I J i.pl):=HS2.out.at (g:=w.heap.size) (cs:=[I J 1,Ψ (bs i.name),Γ (some ⟨g,off,none⟩) 1 kc,I J i.pl]) (ty:=67) (by simp) rfl
 go_wp2_with (go_at_call 48; refine (HTW.out _ _ _ _ HS2.out).mono ?_; rintro e w3 ⟨rfl,HS3⟩)
 clear x0 x1 x2 x3 HS2 HTW
 have HL4:=hid (HS3.out.drew)
 have HS0:Hid (w3.drew.cell? ⟨w.heap.size,0,none⟩ = some (I J 1)):=HL4.out.at (g:=w.heap.size) (cs:=[I J 1,Ψ (bs i.name),Γ (some ⟨g,off,none⟩) 1 kc,I J i.pl]) (ty:=67) (by simp) rfl
 clear HS3
 refine wp_region_Y (fun j=>[6].contains j) (fun W=>W.cell? ⟨w.heap.size,0,none⟩ = some (I J 1)) (by kernel_rfl) ?_
 refine tkL (i:=0) 15 (v:=Φ (some ⟨b,0,none⟩)) rfl rfl HS0.out (fun W hW=>by go_simp) ?_
 simp only [Act.put,lA,lB,lC]
 refine tkL (i:=1) 16 (v:=Φ (some ⟨w.heap.size,0,none⟩)) rfl rfl HS0.out (fun W hW=>by go_simp) ?_
 simp only [Act.put,lA,lB,lC]
 refine tkL (i:=2) 17 (v:=I J 1) rfl rfl HS0.out (fun W hW=>by go_simp) ?_
 simp only [Act.put,lA,lB,lC]
 refine tkL (i:=3) 18 (v:=Φ (some ⟨b,0,none⟩)) rfl rfl HS0.out (fun W hW=>by go_simp) ?_
 simp only [Act.put,lA,lB,lC]
 refine tkL (i:=4) 19 (v:=Φ (some ⟨b,13,none⟩)) rfl rfl HS0.out (fun W hW=>by go_simp) ?_
 simp only [Act.put,lA,lB,lC]
 refine tkL (i:=5) 20 (v:=Φ (some ⟨b,14,none⟩)) rfl rfl HS0.out (fun W hW=>by go_simp) ?_
 simp only [Act.put,lA,lB,lC]
 refine wpAnyY_one (i:=6) rfl (by kernel_rfl) (fun K hK=>?_)
 refine storeB_step rfl rfl rfl rfl ((HL4.out.ck _ rfl).1.hadk (k:=1) (by omega)) ((HL4.out.ck _ rfl).1.fz 14) ?_
 intro V hV
 have HL5:Hid (LS w O O1 b s s (some { c with pl:=i.pl,had:=putHad c.had 1 }) [(w.heap.size + 1,flL (0,0),32),(w.heap.size,[I J 1,Ψ (bs i.name),Γ (some ⟨g,off,none⟩) 1 kc,I J i.pl],67)] V):=by subst hV; exact HL4.out.putB rfl rfl rfl rfl rfl rfl HOK.out.2
 refine hK.out _ _ (fun hh=>absurd hh (by decide)) ?_
 clear hK K HL4 HS0 hV HOK
 refine wpAnyY_done (by kernel_rfl) ?_ _
 have x0:V.cell? ⟨w.heap.size,0,none⟩ = some (I J 1):=HL5.out.at (g:=w.heap.size) (cs:=[I J 1,Ψ (bs i.name),Γ (some ⟨g,off,none⟩) 1 kc,I J i.pl]) (ty:=67) (by simp) rfl
 go_wp2_with fail
 clear x0
 have HL6:=hid (HL5.out.drew)
 have HS0:Hid (V.drew.cell? ⟨w.heap.size,2,none⟩ = some (Γ (some ⟨g,off,none⟩) 1 kc) /\ V.drew.cell? ⟨w.heap.size,1,none⟩ = some (Ψ (bs i.name)) /\ V.drew.cell? ⟨g,off,none⟩ = some (I J h.kind) /\ V.drew.cell? ⟨g,off + 1,none⟩ = some (I J h.num) /\ V.drew.cell? ⟨g,off + 2,none⟩ = some (Ψ (bs h.text)) /\ V.drew.cell? ⟨g,off + 3,none⟩ = some (Γ ka1 kn1 kc1) /\ V.drew.cell? ⟨g,off + 4,none⟩ = some (I J h.pl)):=HSS.out _ _ _ _ HL6.out
 clear HL5
 refine wp_region_Y (fun j=>[7,8].contains j) (fun W=>W.cell? ⟨w.heap.size,2,none⟩ = some (Γ (some ⟨g,off,none⟩) 1 kc) /\ W.cell? ⟨w.heap.size,1,none⟩ = some (Ψ (bs i.name)) /\ W.cell? ⟨g,off,none⟩ = some (I J h.kind) /\ W.cell? ⟨g,off + 1,none⟩ = some (I J h.num) /\ W.cell? ⟨g,off + 2,none⟩ = some (Ψ (bs h.text)) /\ W.cell? ⟨g,off + 3,none⟩ = some (Γ ka1 kn1 kc1) /\ W.cell? ⟨g,off + 4,none⟩ = some (I J h.pl)) (by kernel_rfl) ?_
 refine tkL (i:=0) 25 (v:=Φ (some ⟨b,0,none⟩)) rfl rfl HS0.out (fun W hW=>by obtain ⟨_,_,_,_,_,_,_⟩:=hW; go_simp) ?_
 simp only [Act.put,lA,lB,lC]
 refine tkL (i:=1) 26 (v:=Φ (some ⟨w.heap.size,1,none⟩)) rfl rfl HS0.out (fun W hW=>by obtain ⟨_,_,_,_,_,_,_⟩:=hW; go_simp) ?_
 simp only [Act.put,lA,lB,lC]
 refine tkL (i:=2) 27 (v:=Ψ (bs i.name)) rfl rfl HS0.out (fun W hW=>by obtain ⟨_,_,_,_,_,_,_⟩:=hW; go_simp) ?_
 simp only [Act.put,lA,lB,lC]
 refine tkL (i:=3) 28 (v:=Φ (some ⟨w.heap.size,2,none⟩)) rfl rfl HS0.out (fun W hW=>by obtain ⟨_,_,_,_,_,_,_⟩:=hW; go_simp) ?_
 simp only [Act.put,lA,lB,lC]
 refine tkL (i:=4) 29 (v:=Γ (some ⟨g,off,none⟩) 1 kc) rfl rfl HS0.out (fun W hW=>by obtain ⟨_,_,_,_,_,_,_⟩:=hW; go_simp) ?_
 simp only [Act.put,lA,lB,lC]
 refine tkL (i:=5) 30 (v:=Φ (some ⟨g,off,none⟩)) rfl rfl HS0.out (fun W hW=>by obtain ⟨_,_,_,_,_,_,_⟩:=hW; go_simp) ?_
 simp only [Act.put,lA,lB,lC]
 refine tkL (i:=6) 31 (v:=.agg #[I J h.kind,I J h.num,Ψ (bs h.text),Γ ka1 kn1 kc1,I J h.pl]) rfl rfl HS0.out (fun W hW=>by obtain ⟨_,_,_,_,_,_,_⟩:=hW; go_simp) ?_
 simp only [Act.put,lA,lB,lC]
 refine wpAnyY_one (i:=7) rfl (by kernel_rfl) (fun K hK=>?_)
 refine call50_step rfl rfl rfl rfl rfl rfl ?_
 refine (HC.out _ _ _ HL6.out).mono ?_
 intro e V2 hp
 obtain ⟨f1,f2,hff⟩:∃ f1 f2,faultOf r = (f1,f2):=⟨_,_,rfl⟩
 have hRl:=HL6.out.loc (w.heap.size + 1,flL (0,0),32) (by simp)
 have hl:=hRl.1.fr (O':=O1) hp.val.2 (fun g hg=>.inl hg)
 have hv:=hp.val.1
 rw [hff] at hv
 have HF:Hid (∀ u v,TPost O b w r e ((V2.setCell ⟨w.heap.size + 1,0,none⟩ u).setCell ⟨w.heap.size + 1,1,none⟩ v)):=fun u v=>hp.lift HL6.out.fr HL6.out.new hRl.1.off hRl.2 hRl.1.lt u v
 refine ⟨_,hv,?_⟩
 subst hv
 refine hK.out _ _ (fun hh=>absurd hh (by decide)) ?_
 clear hK K HL6 HS0 HC HSS hff hp hRl
 simp only [Act.put,lA,lB,lC]
 refine wpAnyY_one (i:=8) rfl (by kernel_rfl) (fun K hK=>?_)
 refine store32_step rfl rfl rfl rfl rfl hl.heap ?_
 intro V3 hV
 have HF3:Hid (TPost O b w r (Ω (.agg #[I J f1,I J f2])) V3):=by rw [hV]; exact HF.out _ _
 have hl3:V3.heap[w.heap.size + 1]? = some (Δ #[I J f1,I J f2] 32 (0,0)):=by rw [hV]; exact ((hl.put 0 (I J f1)).put 1 (I J f2)).heap
 refine hK.out _ _ (fun hh=>absurd hh (by decide)) ?_
 clear hK K HF hl hV
 have z0:V3.cell? ⟨w.heap.size + 1,0,none⟩ = some (I J f1):=blk hl3 rfl
 have z1:V3.cell? ⟨w.heap.size + 1,1,none⟩ = some (I J f2):=blk hl3 rfl
 clear hl3
 refine wpAnyY_done (by kernel_rfl) ?_ _
 go_wp2
 refine bodyPost_ret (v:=flV (f1,f2)) ?_ rfl ?_
 ·simp only [results,hres]
  unfold flV
  simp only
  go_simp
 ·show TPost _ _ _ _ _ _
  exact HF3.out
theorem take_2 {B:Nat} {O:Nat -> Prop} {b:Nat} {s:Sl} {c:Ck} (i:It) (ka:Option Addr) (kc:Nat) (w:World) (hck:CkAt O b s c w) (hok:CkOk c) (hlow:∀ g,O g -> B <= g) (hB:B <= w.heap.size) (hF:FoAt false (fun g=>g < B) w i.args ka 1) (hof:okF i.args) (hn:i.name.length <= maxLen) (hk:i.kind = 2) (htw:twiceB { c with pl:=i.pl } i = false) :
 Calls Tryz.prog 28 #[Φ (some ⟨b,0,none⟩),itV i ka 1 kc] w (TPost O b w (alphabetB ({ c with pl:=i.pl,had:=putHad c.had 2 }) (arg1 i.args))):=by
 have hres:Tryz.f28.results = #[.cell 4 32]:=by kernel_rfl
 obtain ⟨g,off,h,k,ka1,kn1,kc1,rfl,ha1,hr1,hat⟩:=one_arg hF (by omega) hof
 rw [ha1]
 have hS1:LS w O (fun g=>O g /\ g < w.heap.size) b s s (some c) [(w.heap.size + 1,flL (0,0),32),(w.heap.size,[I J 2,Ψ (bs i.name),Γ (some ⟨g,off,none⟩) 1 kc,I J i.pl],67)] ((w.alloc (Δ #[I J 2,Ψ (bs i.name),Γ (some ⟨g,off,none⟩) 1 kc,I J i.pl] 67)).alloc (Δ #[I J 0,I J 0] 32)):=by
  have:=LS.startI hck hok i (some ⟨g,off,none⟩) 1 kc
  unfold itL at this
  rw [hk] at this
  exact this
 have hmem:∀ W,Fr O w W -> ∀ q,q < w.heap.size -> q < B -> W.heap[q]? = w.heap[q]?:=fun W hf q hq hqB=>hf.block q hq (fun ho=>by have:=hlow q ho; omega)
 obtain ⟨r,hr⟩:∃ r,r = alphabetB ({ c with pl:=i.pl,had:=putHad c.had 2 }) (h,k):=⟨_,rfl⟩
 rw [<- hr]
 have HC:Hid (∀ O' s' W,LS w O O' b s s' (some { c with pl:=i.pl,had:=putHad c.had 2 }) [(w.heap.size + 1,flL (0,0),32),(w.heap.size,[I J 2,Ψ (bs i.name),Γ (some ⟨g,off,none⟩) 1 kc,I J i.pl],67)] W -> Calls Tryz.prog 51 #[Φ (some ⟨b,0,none⟩),.agg #[I J h.kind,I J h.num,Ψ (bs h.text),Γ ka1 kn1 kc1,I J h.pl]] W (TPost O' b W r)):=by
  intro O' s' W hL
  have hlow':∀ g,O' g -> B <= g:=fun q hq=>by rcases hL.new q hq with h1 | h1; exact hlow q h1; omega
  obtain ⟨hE,-⟩:=hat W (hmem W hL.fr)
  have hB':=Nat.le_trans hB hL.fr.size
  obtain ⟨k1,k2',k3⟩:=hL.ck _ rfl
  rw [hr]
  exact alphabet_calls h k ka1 kn1 kc1 W k1 k2' hlow' hB' hE hr1
 have HTW:Hid (∀ O' s' L W,LS w O O' b s s' (some { c with pl:=i.pl }) L W -> Calls Tryz.prog 48 #[Φ (some ⟨b,0,none⟩),.agg #[I J 2,Ψ (bs i.name),Γ (some ⟨g,off,none⟩) 1 kc,I J i.pl]] W fun e w'=>e = Ω (.bool false) /\ Hid (LS w O O' b s s' (some { c with pl:=i.pl }) L w')):=fun O' s' L W hL=>by
  have:=hL.twice i (some ⟨g,off,none⟩) 1 kc (by omega) (by omega) hn
  rw [htw] at this
  unfold itV at this
  rw [hk] at this
  exact this
 have HSS:Hid (∀ O' s' oc W,LS w O O' b s s' oc [(w.heap.size + 1,flL (0,0),32),(w.heap.size,[I J 2,Ψ (bs i.name),Γ (some ⟨g,off,none⟩) 1 kc,I J i.pl],67)] W -> W.cell? ⟨w.heap.size,2,none⟩ = some (Γ (some ⟨g,off,none⟩) 1 kc) /\ W.cell? ⟨g,off,none⟩ = some (I J h.kind) /\ W.cell? ⟨g,off + 1,none⟩ = some (I J h.num) /\ W.cell? ⟨g,off + 2,none⟩ = some (Ψ (bs h.text)) /\ W.cell? ⟨g,off + 3,none⟩ = some (Γ ka1 kn1 kc1) /\ W.cell? ⟨g,off + 4,none⟩ = some (I J h.pl)):=fun O' s' oc W hL=>⟨hL.at (g:=w.heap.size) (cs:=[I J 2,Ψ (bs i.name),Γ (some ⟨g,off,none⟩) 1 kc,I J i.pl]) (ty:=67) (by simp) rfl,(hat W (hmem W hL.fr)).2⟩
 have HOK:Hid (CkOk { c with pl:=i.pl } /\ CkOk { c with pl:=i.pl,had:=putHad c.had 2 }):=⟨hok.pl i.pl,hok.had i.pl _⟩
 generalize hO1:(fun g=>O g /\ g < w.heap.size) = O1 at hS1
 clear hO1 hck hok hlow hB hF hof hn htw hmem hat hr ha1 hr1
 unfold itV
 rw [hk]
 clear hk
 have HS1:=hid hS1
 clear hS1
 go_enter Tryz.func28,Tryz.ntmps28
 go_upto_region 1 with (fail)
 generalize ((w.alloc (Δ #[I J 2,Ψ (bs i.name),Γ (some ⟨g,off,none⟩) 1 kc,I J i.pl] 67)).alloc (Δ #[I J 0,I J 0] 32)) = w1 at *
 have x3:w1.cell? ⟨w.heap.size,3,none⟩ = some (I J i.pl):=HS1.out.at (g:=w.heap.size) (cs:=[I J 2,Ψ (bs i.name),Γ (some ⟨g,off,none⟩) 1 kc,I J i.pl]) (ty:=67) (by simp) rfl
 have b24:w1.cell? ⟨b,24,none⟩ = some (I J c.pl):=(HS1.out.ck _ rfl).1.c24
 have bf:w1.frozen? ⟨b,24,none⟩ = false:=(HS1.out.ck _ rfl).1.fz 24
 have HS2:Hid (LS w O O1 b s s (some { c with pl:=i.pl }) [(w.heap.size + 1,flL (0,0),32),(w.heap.size,[I J 2,Ψ (bs i.name),Γ (some ⟨g,off,none⟩) 1 kc,I J i.pl],67)] (w1.setCell ⟨b,24,none⟩ (I J i.pl))):=HS1.out.putB rfl rfl rfl rfl rfl rfl HOK.out.1
 go_upto_region 2 with (fail)
 clear x3 b24 bf HS1
 generalize w1.setCell ⟨b,24,none⟩ (I J i.pl) = w2 at *
 have x0:w2.cell? ⟨w.heap.size,0,none⟩ = some (I J 2):=HS2.out.at (g:=w.heap.size) (cs:=[I J 2,Ψ (bs i.name),Γ (some ⟨g,off,none⟩) 1 kc,I J i.pl]) (ty:=67) (by simp) rfl
 have x1:w2.cell? ⟨w.heap.size,1,none⟩ = some (Ψ (bs i.name)):=HS2.out.at (g:=w.heap.size) (cs:=[I J 2,Ψ (bs i.name),Γ (some ⟨g,off,none⟩) 1 kc,I J i.pl]) (ty:=67) (by simp) rfl
 have x2:w2.cell? ⟨w.heap.size,2,none⟩ = some (Γ (some ⟨g,off,none⟩) 1 kc):=HS2.out.at (g:=w.heap.size) (cs:=[I J 2,Ψ (bs i.name),Γ (some ⟨g,off,none⟩) 1 kc,I J i.pl]) (ty:=67) (by simp) rfl
 have x3:w2.cell? ⟨w.heap.size,3,none⟩ = some (I J i.pl):=HS2.out.at (g:=w.heap.size) (cs:=[I J 2,Ψ (bs i.name),Γ (some ⟨g,off,none⟩) 1 kc,I J i.pl]) (ty:=67) (by simp) rfl
 go_wp2_with (go_at_call 48; refine (HTW.out _ _ _ _ HS2.out).mono ?_; rintro e w3 ⟨rfl,HS3⟩)
 clear x0 x1 x2 x3 HS2 HTW
 have HL4:=hid (HS3.out.drew)
 have HS0:Hid (w3.drew.cell? ⟨w.heap.size,0,none⟩ = some (I J 2)):=HL4.out.at (g:=w.heap.size) (cs:=[I J 2,Ψ (bs i.name),Γ (some ⟨g,off,none⟩) 1 kc,I J i.pl]) (ty:=67) (by simp) rfl
 clear HS3
 refine wp_region_Y (fun j=>[6].contains j) (fun W=>W.cell? ⟨w.heap.size,0,none⟩ = some (I J 2)) (by kernel_rfl) ?_
 refine tkL (i:=0) 15 (v:=Φ (some ⟨b,0,none⟩)) rfl rfl HS0.out (fun W hW=>by go_simp) ?_
 simp only [Act.put,lA,lB,lC]
 refine tkL (i:=1) 16 (v:=Φ (some ⟨w.heap.size,0,none⟩)) rfl rfl HS0.out (fun W hW=>by go_simp) ?_
 simp only [Act.put,lA,lB,lC]
 refine tkL (i:=2) 17 (v:=I J 2) rfl rfl HS0.out (fun W hW=>by go_simp) ?_
 simp only [Act.put,lA,lB,lC]
 refine tkL (i:=3) 18 (v:=Φ (some ⟨b,0,none⟩)) rfl rfl HS0.out (fun W hW=>by go_simp) ?_
 simp only [Act.put,lA,lB,lC]
 refine tkL (i:=4) 19 (v:=Φ (some ⟨b,13,none⟩)) rfl rfl HS0.out (fun W hW=>by go_simp) ?_
 simp only [Act.put,lA,lB,lC]
 refine tkL (i:=5) 20 (v:=Φ (some ⟨b,15,none⟩)) rfl rfl HS0.out (fun W hW=>by go_simp) ?_
 simp only [Act.put,lA,lB,lC]
 refine wpAnyY_one (i:=6) rfl (by kernel_rfl) (fun K hK=>?_)
 refine storeB_step rfl rfl rfl rfl ((HL4.out.ck _ rfl).1.hadk (k:=2) (by omega)) ((HL4.out.ck _ rfl).1.fz 15) ?_
 intro V hV
 have HL5:Hid (LS w O O1 b s s (some { c with pl:=i.pl,had:=putHad c.had 2 }) [(w.heap.size + 1,flL (0,0),32),(w.heap.size,[I J 2,Ψ (bs i.name),Γ (some ⟨g,off,none⟩) 1 kc,I J i.pl],67)] V):=by subst hV; exact HL4.out.putB rfl rfl rfl rfl rfl rfl HOK.out.2
 refine hK.out _ _ (fun hh=>absurd hh (by decide)) ?_
 clear hK K HL4 HS0 hV HOK
 refine wpAnyY_done (by kernel_rfl) ?_ _
 have x0:V.cell? ⟨w.heap.size,0,none⟩ = some (I J 2):=HL5.out.at (g:=w.heap.size) (cs:=[I J 2,Ψ (bs i.name),Γ (some ⟨g,off,none⟩) 1 kc,I J i.pl]) (ty:=67) (by simp) rfl
 obtain ⟨f1,f2,hff⟩:∃ f1 f2,faultOf r = (f1,f2):=⟨_,_,rfl⟩
 have HCC:Hid (Calls Tryz.prog 51 #[Φ (some ⟨b,0,none⟩),.agg #[I J h.kind,I J h.num,Ψ (bs h.text),Γ ka1 kn1 kc1,I J h.pl]] V fun e V2=>e = Ω (.agg #[I J f1,I J f2]) /\ V2.cell? ⟨w.heap.size + 1,0,none⟩ = some (I J 0) /\ V2.cell? ⟨w.heap.size + 1,1,none⟩ = some (I J 0) /\ (∀ i,V2.frozen? ⟨w.heap.size + 1,i,none⟩ = false) /\ Hid (∀ u v,TPost O b w r e ((V2.setCell ⟨w.heap.size + 1,0,none⟩ u).setCell ⟨w.heap.size + 1,1,none⟩ v))):=by
  refine (HC.out _ _ _ HL5.out).mono ?_
  intro e V2 hp
  have hRl:=HL5.out.loc (w.heap.size + 1,flL (0,0),32) (by simp)
  have hl:=hRl.1.fr (O':=O1) hp.val.2 (fun g hg=>.inl hg)
  have hv:=hp.val.1
  rw [hff] at hv
  exact ⟨hv,hl.cell rfl,hl.cell rfl,fun i=>hl.fz i,fun u v=>hp.lift HL5.out.fr HL5.out.new hRl.1.off hRl.2 hRl.1.lt u v⟩
 obtain ⟨q0,q1,q2,q3,q4,q5⟩:=HSS.out _ _ _ _ HL5.out
 clear HC HSS HL5 hff
 go_wp2_with (go_at_call 51; refine HCC.out.mono ?_; rintro e V2 ⟨rfl,z0,z1,zf,HF⟩)
 refine bodyPost_ret (v:=flV (f1,f2)) ?_ rfl ?_
 ·simp only [results,hres]
  unfold flV
  simp only
  go_simp
 ·show TPost _ _ _ _ _ _
  exact HF.out _ _
set_option maxRecDepth 20000
set_option maxHeartbeats 4000000
theorem take_7 {O:Nat -> Prop} {b:Nat} {s:Sl} {c:Ck} (i:It) (ka:Option Addr) (kn kc:Nat) (w:World) (hck:CkAt O b s c w) (hok:CkOk c) (hn:i.name.length <= maxLen) (hk:i.kind = 7) (htw:twiceB { c with pl:=i.pl } i = false) :
 Calls Tryz.prog 28 #[Φ (some ⟨b,0,none⟩),itV i ka kn kc] w (TPost O b w (.ok { c with pl:=i.pl,had:=putHad c.had 7,mode:=modeB i.name })):=by
 have hres:Tryz.f28.results = #[.cell 4 32]:=by kernel_rfl
 have hS1:LS w O (fun g=>O g /\ g < w.heap.size) b s s (some c) [(w.heap.size + 1,flL (0,0),32),(w.heap.size,[I J 7,Ψ (bs i.name),Γ ka kn kc,I J i.pl],67)] ((w.alloc (Δ #[I J 7,Ψ (bs i.name),Γ ka kn kc,I J i.pl] 67)).alloc (Δ #[I J 0,I J 0] 32)):=by
  have:=LS.startI hck hok i ka kn kc
  unfold itL at this
  rw [hk] at this
  exact this
 have HTW:Hid (∀ O' s' L W,LS w O O' b s s' (some { c with pl:=i.pl }) L W -> Calls Tryz.prog 48 #[Φ (some ⟨b,0,none⟩),.agg #[I J 7,Ψ (bs i.name),Γ ka kn kc,I J i.pl]] W fun e w'=>e = Ω (.bool false) /\ Hid (LS w O O' b s s' (some { c with pl:=i.pl }) L w')):=fun O' s' L W hL=>by
  have:=hL.twice i ka kn kc (by omega) (by omega) hn
  rw [htw] at this
  unfold itV at this
  rw [hk] at this
  exact this
 have HOK:Hid (CkOk { c with pl:=i.pl } /\ CkOk { c with pl:=i.pl,had:=putHad c.had 7 }):=⟨hok.pl i.pl,hok.had i.pl _⟩
 have HMD:Hid (∀ W,Calls Tryz.prog 54 #[Ψ (bs i.name)] W fun e w'=>e = Ω (I J (modeB i.name)) /\ w' = W):=fun W=>modeOf_calls i.name W
 obtain ⟨md,hmd⟩:∃ md,md = modeB i.name:=⟨_,rfl⟩
 rw [<- hmd] at HMD ⊢
 generalize hO1:(fun g=>O g /\ g < w.heap.size) = O1 at hS1
 clear hO1 hck hok hn htw hmd
 unfold itV
 rw [hk]
 clear hk
 have HS1:=hid hS1
 clear hS1
 go_enter Tryz.func28,Tryz.ntmps28
 go_upto_region 1 with (fail)
 generalize ((w.alloc (Δ #[I J 7,Ψ (bs i.name),Γ ka kn kc,I J i.pl] 67)).alloc (Δ #[I J 0,I J 0] 32)) = w1 at *
 have x3:w1.cell? ⟨w.heap.size,3,none⟩ = some (I J i.pl):=HS1.out.at (g:=w.heap.size) (cs:=[I J 7,Ψ (bs i.name),Γ ka kn kc,I J i.pl]) (ty:=67) (by simp) rfl
 have b24:w1.cell? ⟨b,24,none⟩ = some (I J c.pl):=(HS1.out.ck _ rfl).1.c24
 have bf:w1.frozen? ⟨b,24,none⟩ = false:=(HS1.out.ck _ rfl).1.fz 24
 have HS2:Hid (LS w O O1 b s s (some { c with pl:=i.pl }) [(w.heap.size + 1,flL (0,0),32),(w.heap.size,[I J 7,Ψ (bs i.name),Γ ka kn kc,I J i.pl],67)] (w1.setCell ⟨b,24,none⟩ (I J i.pl))):=HS1.out.putB rfl rfl rfl rfl rfl rfl HOK.out.1
 go_upto_region 2 with (fail)
 clear x3 b24 bf HS1
 generalize w1.setCell ⟨b,24,none⟩ (I J i.pl) = w2 at *
 have x0:w2.cell? ⟨w.heap.size,0,none⟩ = some (I J 7):=HS2.out.at (g:=w.heap.size) (cs:=[I J 7,Ψ (bs i.name),Γ ka kn kc,I J i.pl]) (ty:=67) (by simp) rfl
 have x1:w2.cell? ⟨w.heap.size,1,none⟩ = some (Ψ (bs i.name)):=HS2.out.at (g:=w.heap.size) (cs:=[I J 7,Ψ (bs i.name),Γ ka kn kc,I J i.pl]) (ty:=67) (by simp) rfl
 have x2:w2.cell? ⟨w.heap.size,2,none⟩ = some (Γ ka kn kc):=HS2.out.at (g:=w.heap.size) (cs:=[I J 7,Ψ (bs i.name),Γ ka kn kc,I J i.pl]) (ty:=67) (by simp) rfl
 have x3:w2.cell? ⟨w.heap.size,3,none⟩ = some (I J i.pl):=HS2.out.at (g:=w.heap.size) (cs:=[I J 7,Ψ (bs i.name),Γ ka kn kc,I J i.pl]) (ty:=67) (by simp) rfl
 go_wp2_with (go_at_call 48; refine (HTW.out _ _ _ _ HS2.out).mono ?_; rintro e w3 ⟨rfl,HS3⟩)
 clear x0 x1 x2 x3 HS2 HTW
 have HL4:=hid (HS3.out.drew)
 have HS0:Hid (w3.drew.cell? ⟨w.heap.size,0,none⟩ = some (I J 7)):=HL4.out.at (g:=w.heap.size) (cs:=[I J 7,Ψ (bs i.name),Γ ka kn kc,I J i.pl]) (ty:=67) (by simp) rfl
 clear HS3
 refine wp_region_Y (fun j=>[6].contains j) (fun W=>W.cell? ⟨w.heap.size,0,none⟩ = some (I J 7)) (by kernel_rfl) ?_
 refine tkL (i:=0) 15 (v:=Φ (some ⟨b,0,none⟩)) rfl rfl HS0.out (fun W hW=>by go_simp) ?_
 simp only [Act.put,lA,lB,lC]
 refine tkL (i:=1) 16 (v:=Φ (some ⟨w.heap.size,0,none⟩)) rfl rfl HS0.out (fun W hW=>by go_simp) ?_
 simp only [Act.put,lA,lB,lC]
 refine tkL (i:=2) 17 (v:=I J 7) rfl rfl HS0.out (fun W hW=>by go_simp) ?_
 simp only [Act.put,lA,lB,lC]
 refine tkL (i:=3) 18 (v:=Φ (some ⟨b,0,none⟩)) rfl rfl HS0.out (fun W hW=>by go_simp) ?_
 simp only [Act.put,lA,lB,lC]
 refine tkL (i:=4) 19 (v:=Φ (some ⟨b,13,none⟩)) rfl rfl HS0.out (fun W hW=>by go_simp) ?_
 simp only [Act.put,lA,lB,lC]
 refine tkL (i:=5) 20 (v:=Φ (some ⟨b,20,none⟩)) rfl rfl HS0.out (fun W hW=>by go_simp) ?_
 simp only [Act.put,lA,lB,lC]
 refine wpAnyY_one (i:=6) rfl (by kernel_rfl) (fun K hK=>?_)
 refine storeB_step rfl rfl rfl rfl ((HL4.out.ck _ rfl).1.hadk (k:=7) (by omega)) ((HL4.out.ck _ rfl).1.fz 20) ?_
 intro V hV
 have HL5:Hid (LS w O O1 b s s (some { c with pl:=i.pl,had:=putHad c.had 7 }) [(w.heap.size + 1,flL (0,0),32),(w.heap.size,[I J 7,Ψ (bs i.name),Γ ka kn kc,I J i.pl],67)] V):=by subst hV; exact HL4.out.putB rfl rfl rfl rfl rfl rfl HOK.out.2
 refine hK.out _ _ (fun hh=>absurd hh (by decide)) ?_
 clear hK K HL4 HS0 hV
 refine wpAnyY_done (by kernel_rfl) ?_ _
 have x0:V.cell? ⟨w.heap.size,0,none⟩ = some (I J 7):=HL5.out.at (g:=w.heap.size) (cs:=[I J 7,Ψ (bs i.name),Γ ka kn kc,I J i.pl]) (ty:=67) (by simp) rfl
 have x1:V.cell? ⟨w.heap.size,1,none⟩ = some (Ψ (bs i.name)):=HL5.out.at (g:=w.heap.size) (cs:=[I J 7,Ψ (bs i.name),Γ ka kn kc,I J i.pl]) (ty:=67) (by simp) rfl
 have b4:V.cell? ⟨b,4,none⟩ = some (I J c.mode):=(HL5.out.ck _ rfl).1.c4
 have bf:V.frozen? ⟨b,4,none⟩ = false:=(HL5.out.ck _ rfl).1.fz 4
 have HL6:Hid (LS w O O1 b s s (some { c with pl:=i.pl,had:=putHad c.had 7,mode:=md }) [(w.heap.size + 1,flL (0,0),32),(w.heap.size,[I J 7,Ψ (bs i.name),Γ ka kn kc,I J i.pl],67)] (V.setCell ⟨b,4,none⟩ (I J md))):=HL5.out.putB rfl rfl rfl rfl rfl rfl ⟨HOK.out.2.vals,HOK.out.2.same,HOK.out.2.few,HOK.out.2.names,HOK.out.2.alpha,HOK.out.2.sub,HOK.out.2.pcs⟩
 clear HL5 HOK
 go_upto_region 26 with (go_at_call 54; refine (HMD.out _).mono ?_; rintro e w4 ⟨rfl,hw4⟩; subst w4)
 clear x0 x1 b4 bf
 generalize V.setCell ⟨b,4,none⟩ (I J md) = V4 at *
 have z0:V4.cell? ⟨w.heap.size + 1,0,none⟩ = some (I J 0):=HL6.out.at (g:=w.heap.size + 1) (cs:=flL (0,0)) (ty:=32) (by simp) rfl
 have z1:V4.cell? ⟨w.heap.size + 1,1,none⟩ = some (I J 0):=HL6.out.at (g:=w.heap.size + 1) (cs:=flL (0,0)) (ty:=32) (by simp) rfl
 have zf:∀ i,V4.frozen? ⟨w.heap.size + 1,i,none⟩ = false:=fun i=>HL6.out.fz (g:=w.heap.size + 1) (cs:=flL (0,0)) (ty:=32) (by simp) i
 go_wp2
 refine bodyPost_ret (v:=flV (0,0)) ?_ rfl ?_
 ·simp only [results,hres]
  unfold flV
  simp only
  go_simp
 ·show TPost _ _ _ _ _ _
  have hoff:=(HL6.out.loc (w.heap.size + 1,flL (0,0),32) (by simp)).1.off
  exact ⟨rfl,(HL6.out.fr.setCell (.inr (by omega)) _ _).setCell (.inr (by omega)) _ _,O1,s,HL6.out.new,ck_set (ck_set (HL6.out.ck _ rfl).1 hoff _ _) hoff _ _⟩
theorem take_calls {B:Nat} {O:Nat -> Prop} {b:Nat} {s:Sl} {c:Ck} (i:It) (ka:Option Addr) (kn kc:Nat) (w:World) (hck:CkAt O b s c w) (hok:CkOk c) (hlow:∀ g,O g -> B <= g) (hB:B <= w.heap.size) (hF:FoAt false (fun g=>g < B) w i.args ka kn) (hn:i.name.length <= maxLen) (hri:itRight i = true) (hal:c.had 2 = true -> c.letters ≠ []) (hnm:c.names.length < 1000) :
 Calls Tryz.prog 28 #[Φ (some ⟨b,0,none⟩),itV i ka kn kc] w (TPost O b w (takeC c i)):=by
 have hlen:=foAt_len hF
 have hkr:1 <= i.kind /\ i.kind <= 10:=by
  unfold itRight at hri
  split at hri
  ·omega
  ·split at hri
   ·omega
   ·split at hri
    ·omega
    ·split at hri
     ·omega
     ·cases hri
 unfold takeC
 cases htw:twiceB { c with pl:=i.pl } i with
 | true=>
   rw [if_pos rfl]
   exact take_twice i ka kn kc w hck hok hkr.1 hkr.2 hn htw
 | false=>
   rw [if_neg (by simp)]
   unfold itRight at hri
   by_cases k1:i.kind = 1
   ·rw [if_pos k1] at hri
    simp only [Bool.and_eq_true,decide_eq_true_eq] at hri
    have hk0:kn = 1:=by omega
    subst hk0
    rw [k1]
    have:=take_1 i ka kc w hck hok hlow hB hF ⟨_,hri.2.2⟩ hn k1 htw hnm
    unfold bodyB
    rw [if_pos k1]; exact this
   rw [if_neg k1] at hri
   by_cases k7:i.kind = 7
   ·have:=take_7 i ka kn kc w hck hok hn k7 htw
    unfold bodyB
    rw [k7]
    simp only [show ¬ (7:Int) = 1 by decide,show ¬ (7:Int) = 2 by decide,show ¬ (7:Int) = 5 by decide,show ¬ (7:Int) = 6 by decide,if_false,if_true]
    exact this
   rw [if_neg k7] at hri
   by_cases kA:i.kind = 2 \/ i.kind = 3 \/ i.kind = 4 \/ i.kind = 10
   ·rw [if_pos kA] at hri
    simp only [Bool.and_eq_true,decide_eq_true_eq] at hri
    have hk0:kn = 1:=by omega
    subst hk0
    unfold bodyB
    rcases kA with k | k | k | k
    ·have:=take_2 i ka kc w hck hok hlow hB hF ⟨_,hri.2.2⟩ hn k htw
     rw [k]; exact this
    ·have:=take_3 i ka kc w hck hok hlow hB hF ⟨_,hri.2.2⟩ hn k htw
     rw [k]; exact this
    ·have:=take_4 i ka kc w hck hok hlow hB hF ⟨_,hri.2.2⟩ hn k htw
     rw [k]; exact this
    ·have:=take_10 i ka kc w hck hok hlow hB hF ⟨_,hri.2.2⟩ hn k htw
     rw [k]; exact this
   rw [if_neg kA] at hri
   by_cases kB:i.kind = 5 \/ i.kind = 6 \/ i.kind = 8 \/ i.kind = 9
   ·rw [if_pos kB] at hri
    simp only [Bool.and_eq_true,decide_eq_true_eq] at hri
    have hk0:kn = 2:=by omega
    subst hk0
    unfold bodyB
    rcases kB with k | k | k | k
    ·have:=take_5 i ka kc w hck hok hlow hB hF ⟨_,hri.2.2⟩ hn k htw hal
     rw [k]; exact this
    ·have:=take_6 i ka kc w hck hok hlow hB hF ⟨_,hri.2.2⟩ hn k htw
     rw [k]; exact this
    ·have:=take_8 i ka kc w hck hok hlow hB hF ⟨_,hri.2.2⟩ hn k htw
     rw [k]; exact this
    ·have:=take_9 i ka kc w hck hok hlow hB hF ⟨_,hri.2.2⟩ hn k htw
     rw [k]; exact this
   ·rw [if_neg kB] at hri; cases hri
open Go.Value renaming int->I,pointer->Φ
set_option maxRecDepth 20000
set_option maxHeartbeats 2000000
theorem LS.startE {b:Nat} {s:Sl} {c:Ck} {w:World} {O:Nat -> Prop} (hck:CkAt O b s c w) (hok:CkOk c) :
 LS w O (fun g=>O g /\ g < w.heap.size) b s s (some c) [(w.heap.size,flL (0,0),32)] (w.alloc (Δ #[I J 0,I J 0] 32)):=(LS.start hck hok).alloc (flL (0,0)) 32
theorem LS.zero {w W:World} {O0 O:Nat -> Prop} {b:Nat} {s0 s:Sl} {c:Ck} {L:List Lo} (h:LS w O0 O b s0 s (some c) L W) (p:Int) (hp:p = c.pl) :
 Calls Tryz.prog 59 #[Φ (some ⟨b,0,none⟩),.agg #[I J 1,I J 0,I J 0,I J 0],I J p] W fun e w'=>∃ m f oc O' s',e = Ω (.tuple #[.agg #[.bool m.isText,.string (bs m.text),I J m.place,I J m.num],.agg #[I J f.1,I J f.2]]) /\ Hid (RQ (zeroB c) m f oc /\ LS w O0 O' b s0 s' oc L w'):=by
 subst hp
 obtain ⟨k1,k2,k3⟩:=h.ck c rfl
 exact h.asks (lay_calls W k1 k2 ⟨1,0,0,0⟩ ⟨by constructor <;> simp,fun h=>by simp at h,fun h=>by simp at h⟩ c.pl) (fun c' m hm=>(layB_ok k2 hm).1)
theorem LS.score {w W:World} {O0 O:Nat -> Prop} {b:Nat} {s0 s:Sl} {c:Ck} {L:List Lo} (h:LS w O0 O b s0 s (some c) L W) (hne:c.letters ≠ []) :
 Calls Tryz.prog 58 #[Φ (some ⟨b,0,none⟩)] W fun e w'=>e = Ω (.bool (decide (-1 ∉ fillB c))) /\ Hid (∃ O',LS w O0 O' b s0 s (some { c with subst:=fillB c }) L w'):=by
 obtain ⟨k1,k2,k3⟩:=h.ck c rfl
 refine (score_calls W k1 k2 hne).mono ?_
 rintro e w' ⟨rfl,hh⟩
 have hl:=fillB_len c
 refine ⟨rfl,_,h.go (O':=O) hh.out.1 (fun g hg=>.inl hg) (fun c' hc=>?_)⟩
 cases hc
 exact ⟨hh.out.2,⟨k2.vals,k2.same,k2.few,k2.names,fun hx=>by have:=k2.alpha hx; exact ⟨this.1,by show (fillB c).length = _; rw [hl]; exact this.2⟩,by show (fillB c).length <= 400; rw [hl]; exact k2.sub,k2.pcs⟩,k3⟩
theorem LS.wrong {w W:World} {O0 O:Nat -> Prop} {b:Nat} {s0 s:Sl} {c:Ck} (h:LS w O0 O b s0 s (some c) [(w.heap.size,flL (0,0),32)] W) (code:Int) :
 Calls Tryz.prog 49 #[Φ (some ⟨b,0,none⟩),I J code] W fun e w'=>e = Ω (.agg #[I J code,I J c.pl]) /\ w'.cell? ⟨w.heap.size,0,none⟩ = some (I J 0) /\ w'.cell? ⟨w.heap.size,1,none⟩ = some (I J 0) /\ (∀ i,w'.frozen? ⟨w.heap.size,i,none⟩ = false) /\ Hid (Fr O0 w w'):=by
 refine (wrongC_calls code W (h.ck _ rfl).1).mono ?_
 rintro e w' ⟨rfl,hb⟩
 have h2:=h.next hb
 exact ⟨rfl,h2.at (g:=w.heap.size) (cs:=flL (0,0)) (ty:=32) (by simp) rfl,h2.at (g:=w.heap.size) (cs:=flL (0,0)) (ty:=32) (by simp) rfl,fun i=>h2.fz (g:=w.heap.size) (cs:=flL (0,0)) (ty:=32) (by simp) i,h2.fr⟩
theorem end_a {O:Nat -> Prop} {b:Nat} {s:Sl} {c:Ck} (w:World) (hck:CkAt O b s c w) (hok:CkOk c) (h2:c.had 2 = false) :
 Calls Tryz.prog 29 #[Φ (some ⟨b,0,none⟩)] w (TPost O b w (.error (94,c.pl))):=by
 have hres:Tryz.f29.results = #[.cell 2 32]:=by kernel_rfl
 have hS1:=LS.startE hck hok
 generalize hO1:(fun g=>O g /\ g < w.heap.size) = O1 at hS1
 have HS1:=hid hS1
 skip
 clear hS1 hO1 hck hok
 go_enter Tryz.func29,Tryz.ntmps29
 go_upto_region 1 with (fail)
 generalize (w.alloc (Δ #[I J 0,I J 0] 32)) = w1 at *
 have d2:w1.cell? ⟨b,15,none⟩ = some (.bool false):=by have:=(HS1.out.ck _ rfl).1.had2; rw [h2] at this; exact this
 clear h2
 go_wp2_with (first
  | (go_at_call 49; refine (HS1.out.wrong 94).mono ?_; rintro e w4 ⟨rfl,z0,z1,zf,HF⟩))
 refine bodyPost_ret (v:=flV (94,c.pl)) ?_ rfl ?_
 ·simp only [results,hres]
  unfold flV
  simp only
  go_simp
 ·show TPost _ _ _ _ _ _
  exact ⟨by simp,rfl,(HF.out.setCell (.inr (by omega)) _ _).setCell (.inr (by omega)) _ _⟩
theorem end_b {O:Nat -> Prop} {b:Nat} {s:Sl} {c:Ck} (w:World) (hck:CkAt O b s c w) (hok:CkOk c) (h2:c.had 2 = true) (h7:c.had 7 = false) :
 Calls Tryz.prog 29 #[Φ (some ⟨b,0,none⟩)] w (TPost O b w (.error (94,c.pl))):=by
 have hres:Tryz.f29.results = #[.cell 2 32]:=by kernel_rfl
 have hS1:=LS.startE hck hok
 generalize hO1:(fun g=>O g /\ g < w.heap.size) = O1 at hS1
 have HS1:=hid hS1
 skip
 clear hS1 hO1 hck hok
 go_enter Tryz.func29,Tryz.ntmps29
 go_upto_region 1 with (fail)
 generalize (w.alloc (Δ #[I J 0,I J 0] 32)) = w1 at *
 have d2:w1.cell? ⟨b,15,none⟩ = some (.bool true):=by have:=(HS1.out.ck _ rfl).1.had2; rw [h2] at this; exact this
 have d7:w1.cell? ⟨b,20,none⟩ = some (.bool false):=by have:=(HS1.out.ck _ rfl).1.had7; rw [h7] at this; exact this
 clear h2 h7
 go_wp2_with (first
  | (go_at_call 49; refine (HS1.out.wrong 94).mono ?_; rintro e w4 ⟨rfl,z0,z1,zf,HF⟩))
 refine bodyPost_ret (v:=flV (94,c.pl)) ?_ rfl ?_
 ·simp only [results,hres]
  unfold flV
  simp only
  go_simp
 ·show TPost _ _ _ _ _ _
  exact ⟨by simp,rfl,(HF.out.setCell (.inr (by omega)) _ _).setCell (.inr (by omega)) _ _⟩
theorem end_c {O:Nat -> Prop} {b:Nat} {s:Sl} {c:Ck} (w:World) (hck:CkAt O b s c w) (hok:CkOk c) (h2:c.had 2 = true) (h7:c.had 7 = true) (hne:c.letters ≠ []) (hf:-1 ∈ fillB c) :
 Calls Tryz.prog 29 #[Φ (some ⟨b,0,none⟩)] w (TPost O b w (.error (94,c.pl))):=by
 have hres:Tryz.f29.results = #[.cell 2 32]:=by kernel_rfl
 have hS1:=LS.startE hck hok
 generalize hO1:(fun g=>O g /\ g < w.heap.size) = O1 at hS1
 have HS1:=hid hS1
 have HSc:Hid (∀ W,LS w O O1 b s s (some c) [(w.heap.size,flL (0,0),32)] W -> Calls Tryz.prog 58 #[Φ (some ⟨b,0,none⟩)] W fun e w'=>e = Ω (.bool false) /\ Hid (∃ O',LS w O O' b s s (some { c with subst:=fillB c }) [(w.heap.size,flL (0,0),32)] w')):=fun W hW=>by
  have:=hW.score hne
  rw [show decide (-1 ∉ fillB c) = false by simpa using hf] at this
  exact this
 clear hf hne
 clear hS1 hO1 hck hok
 go_enter Tryz.func29,Tryz.ntmps29
 go_upto_region 1 with (fail)
 generalize (w.alloc (Δ #[I J 0,I J 0] 32)) = w1 at *
 have d2:w1.cell? ⟨b,15,none⟩ = some (.bool true):=by have:=(HS1.out.ck _ rfl).1.had2; rw [h2] at this; exact this
 have d7:w1.cell? ⟨b,20,none⟩ = some (.bool true):=by have:=(HS1.out.ck _ rfl).1.had7; rw [h7] at this; exact this
 clear h2 h7
 go_wp2_with (first
  | (go_at_call 58; refine (HSc.out _ HS1.out).mono ?_; rintro e w3 ⟨rfl,hs3⟩; obtain ⟨O3,hS3⟩:=hs3.out; have HS3:Hid (LS w O O3 b s s (some { c with subst:=fillB c }) [(w.heap.size,flL (0,0),32)] w3):=hS3; clear hs3 hS3)
  | (go_at_call 49; refine (HS3.out.wrong 94).mono ?_; rintro e w4 ⟨rfl,z0,z1,zf,HF⟩))
 refine bodyPost_ret (v:=flV (94,c.pl)) ?_ rfl ?_
 ·simp only [results,hres]
  unfold flV
  simp only
  go_simp
 ·show TPost _ _ _ _ _ _
  exact ⟨by simp,rfl,(HF.out.setCell (.inr (by omega)) _ _).setCell (.inr (by omega)) _ _⟩
end Go.Proofs.YtlaodgdlkkmmeaaGreat
