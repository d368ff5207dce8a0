/-
  One item more: kinds 5, 6, 8, 9. One item more: kinds 3, 4, 10. One item more: kinds 1, 2.
-/
import Derived.Test.YtidmjjalpbbfkaaGreatG42
namespace Go.Proofs.YtidmjjalpbbfkaaGreat
open Go.RowKit Go.Deep Go.Maps
set_option maxRecDepth 20000
set_option maxHeartbeats 4000000
theorem take_6 {B:Nat} {O:Nat -> Prop} {b:Nat} {s:Sl} {c:Ck} (i:It) (ka:Option Addr) (kc:Nat) (w:World) (hck:CkAt O b s c w) (hok:CkOk c) (hlow:∀ g,O g -> B <= g) (hB:B <= w.heap.size) (hF:FoAt false (fun g=>g < B) w i.args ka 2) (hof:okF i.args) (hn:i.name.length <= maxLen) (hk:i.kind = 6) (htw:twiceB { c with pl:=i.pl } i = false) :
 Calls Tryz.prog 42 #[.pointer (some ⟨b,0,none⟩),itV i ka 2 kc] w (TPost O b w (gapB ({ c with pl:=i.pl,had:=putHad c.had 6 }) (arg1 i.args) (arg2 i.args))):=by
 have hres:Tryz.f42.results = #[.cell 4 42]:=by kernel_rfl
 obtain ⟨g,off,h,k,ka1,kn1,kc1,h2,k2,la,ln,lc,rfl,ha1,hr1,ha2,hr2,hat⟩:=two_args hF (by omega) hof
 rw [ha1,ha2]
 have hS1:LS w O (fun g=>O g /\ g < w.heap.size) b s s (some c) [(w.heap.size + 1,flL (0,0),42),(w.heap.size,[.int .i64 6,.string (bs i.name),.slice (some ⟨g,off,none⟩) 2 kc,.int .i64 i.pl],92)] ((w.alloc (.cells #[.int .i64 6,.string (bs i.name),.slice (some ⟨g,off,none⟩) 2 kc,.int .i64 i.pl] 92)).alloc (.cells #[.int .i64 0,.int .i64 0] 42)):=by
  have:=LS.startI hck hok i (some ⟨g,off,none⟩) 2 kc
  unfold itL at this
  rw [hk] at this
  exact this
 have hmem:∀ W,Fr O w W -> ∀ q,q < w.heap.size -> q < B -> W.heap[q]? = w.heap[q]?:=fun W hf q hq hqB=>hf.block q hq (fun ho=>by have:=hlow q ho; omega)
 obtain ⟨r,hr⟩:∃ r,r = gapB ({ c with pl:=i.pl,had:=putHad c.had 6 }) (h,k) (h2,k2):=⟨_,rfl⟩
 rw [<- hr]
 have HC:Hid (∀ O' s' W,LS w O O' b s s' (some { c with pl:=i.pl,had:=putHad c.had 6 }) [(w.heap.size + 1,flL (0,0),42),(w.heap.size,[.int .i64 6,.string (bs i.name),.slice (some ⟨g,off,none⟩) 2 kc,.int .i64 i.pl],92)] W -> Calls Tryz.prog 71 #[.pointer (some ⟨b,0,none⟩),.agg #[.int .i64 h.kind,.int .i64 h.num,.string (bs h.text),.slice ka1 kn1 kc1,.int .i64 h.pl],.agg #[.int .i64 h2.kind,.int .i64 h2.num,.string (bs h2.text),.slice la ln lc,.int .i64 h2.pl]] W (TPost O' b W r)):=by
  intro O' s' W hL
  have hlow':∀ g,O' g -> B <= g:=fun q hq=>by rcases hL.new q hq with h1 | h1; exact hlow q h1; omega
  obtain ⟨hE,-⟩:=hat W (hmem W hL.fr)
  have hB':=Nat.le_trans hB hL.fr.size
  obtain ⟨k1,k2',k3⟩:=hL.ck _ rfl
  rw [hr]
  exact gap_calls h k ka1 kn1 kc1 h2 k2 la ln lc W k1 k2' hlow' hB' hE.1 hr1 hE.2 hr2
 have HTW:Hid (∀ O' s' L W,LS w O O' b s s' (some { c with pl:=i.pl }) L W -> Calls Tryz.prog 66 #[.pointer (some ⟨b,0,none⟩),.agg #[.int .i64 6,.string (bs i.name),.slice (some ⟨g,off,none⟩) 2 kc,.int .i64 i.pl]] W fun e w'=>e = .returned (.bool false) /\ Hid (LS w O O' b s s' (some { c with pl:=i.pl }) L w')):=fun O' s' L W hL=>by
  have:=hL.twice i (some ⟨g,off,none⟩) 2 kc (by omega) (by omega) hn
  rw [htw] at this
  unfold itV at this
  rw [hk] at this
  exact this
 have HSS:Hid (∀ O' s' oc W,LS w O O' b s s' oc [(w.heap.size + 1,flL (0,0),42),(w.heap.size,[.int .i64 6,.string (bs i.name),.slice (some ⟨g,off,none⟩) 2 kc,.int .i64 i.pl],92)] W -> W.cell? ⟨w.heap.size,2,none⟩ = some (.slice (some ⟨g,off,none⟩) 2 kc) /\ W.cell? ⟨g,off,none⟩ = some (.int .i64 h.kind) /\ W.cell? ⟨g,off + 1,none⟩ = some (.int .i64 h.num) /\ W.cell? ⟨g,off + 2,none⟩ = some (.string (bs h.text)) /\ W.cell? ⟨g,off + 3,none⟩ = some (.slice ka1 kn1 kc1) /\ W.cell? ⟨g,off + 4,none⟩ = some (.int .i64 h.pl) /\ W.cell? ⟨g,off + 5,none⟩ = some (.int .i64 h2.kind) /\ W.cell? ⟨g,off + 5 + 1,none⟩ = some (.int .i64 h2.num) /\ W.cell? ⟨g,off + 5 + 2,none⟩ = some (.string (bs h2.text)) /\ W.cell? ⟨g,off + 5 + 3,none⟩ = some (.slice la ln lc) /\ W.cell? ⟨g,off + 5 + 4,none⟩ = some (.int .i64 h2.pl)):=fun O' s' oc W hL=>⟨hL.at (g:=w.heap.size) (cs:=[.int .i64 6,.string (bs i.name),.slice (some ⟨g,off,none⟩) 2 kc,.int .i64 i.pl]) (ty:=92) (by simp) rfl,(hat W (hmem W hL.fr)).2.1.1,(hat W (hmem W hL.fr)).2.1.2.1,(hat W (hmem W hL.fr)).2.1.2.2.1,(hat W (hmem W hL.fr)).2.1.2.2.2.1,(hat W (hmem W hL.fr)).2.1.2.2.2.2,(hat W (hmem W hL.fr)).2.2⟩
 have HOK:Hid (CkOk { c with pl:=i.pl } /\ CkOk { c with pl:=i.pl,had:=putHad c.had 6 }):=⟨hok.pl i.pl,hok.had i.pl _⟩
 generalize hO1:(fun g=>O g /\ g < w.heap.size) = O1 at hS1
 clear hO1 hck hok hlow hB hF hof hn htw hmem hat hr ha1 ha2 hr1 hr2
 unfold itV
 rw [hk]
 clear hk
 have HS1:Hid (LS w O O1 b s s (some c) [(w.heap.size + 1,flL (0,0),42),(w.heap.size,[.int .i64 6,.string (bs i.name),.slice (some ⟨g,off,none⟩) 2 kc,.int .i64 i.pl],92)] ((w.alloc (.cells #[.int .i64 6,.string (bs i.name),.slice (some ⟨g,off,none⟩) 2 kc,.int .i64 i.pl] 92)).alloc (.cells #[.int .i64 0,.int .i64 0] 42))):=hS1
 clear hS1
 go_enter Tryz.func42,Tryz.ntmps42
 go_upto_region 1 with (fail)
 generalize ((w.alloc (.cells #[.int .i64 6,.string (bs i.name),.slice (some ⟨g,off,none⟩) 2 kc,.int .i64 i.pl] 92)).alloc (.cells #[.int .i64 0,.int .i64 0] 42)) = w1 at *
 have x3:w1.cell? ⟨w.heap.size,3,none⟩ = some (.int .i64 i.pl):=HS1.out.at (g:=w.heap.size) (cs:=[.int .i64 6,.string (bs i.name),.slice (some ⟨g,off,none⟩) 2 kc,.int .i64 i.pl]) (ty:=92) (by simp) rfl
 have b24:w1.cell? ⟨b,24,none⟩ = some (.int .i64 c.pl):=(HS1.out.ck _ rfl).1.c24
 have bf:w1.frozen? ⟨b,24,none⟩ = false:=(HS1.out.ck _ rfl).1.fz 24
 have HS2:Hid (LS w O O1 b s s (some { c with pl:=i.pl }) [(w.heap.size + 1,flL (0,0),42),(w.heap.size,[.int .i64 6,.string (bs i.name),.slice (some ⟨g,off,none⟩) 2 kc,.int .i64 i.pl],92)] (w1.setCell ⟨b,24,none⟩ (.int .i64 i.pl))):=HS1.out.putB rfl rfl rfl rfl rfl rfl HOK.out.1
 go_upto_region 2 with (fail)
 clear x3 b24 bf HS1
 generalize w1.setCell ⟨b,24,none⟩ (.int .i64 i.pl) = w2 at *
 have x0:w2.cell? ⟨w.heap.size,0,none⟩ = some (.int .i64 6):=HS2.out.at (g:=w.heap.size) (cs:=[.int .i64 6,.string (bs i.name),.slice (some ⟨g,off,none⟩) 2 kc,.int .i64 i.pl]) (ty:=92) (by simp) rfl
 have x1:w2.cell? ⟨w.heap.size,1,none⟩ = some (.string (bs i.name)):=HS2.out.at (g:=w.heap.size) (cs:=[.int .i64 6,.string (bs i.name),.slice (some ⟨g,off,none⟩) 2 kc,.int .i64 i.pl]) (ty:=92) (by simp) rfl
 have x2:w2.cell? ⟨w.heap.size,2,none⟩ = some (.slice (some ⟨g,off,none⟩) 2 kc):=HS2.out.at (g:=w.heap.size) (cs:=[.int .i64 6,.string (bs i.name),.slice (some ⟨g,off,none⟩) 2 kc,.int .i64 i.pl]) (ty:=92) (by simp) rfl
 have x3:w2.cell? ⟨w.heap.size,3,none⟩ = some (.int .i64 i.pl):=HS2.out.at (g:=w.heap.size) (cs:=[.int .i64 6,.string (bs i.name),.slice (some ⟨g,off,none⟩) 2 kc,.int .i64 i.pl]) (ty:=92) (by simp) rfl
 go_wp2_with (go_at_call 66; refine (HTW.out _ _ _ _ HS2.out).mono ?_; rintro e w3 ⟨rfl,HS3⟩)
 clear x0 x1 x2 x3 HS2 HTW
 have HL4:Hid (LS w O O1 b s s (some { c with pl:=i.pl }) [(w.heap.size + 1,flL (0,0),42),(w.heap.size,[.int .i64 6,.string (bs i.name),.slice (some ⟨g,off,none⟩) 2 kc,.int .i64 i.pl],92)] w3.drew):=HS3.out.drew
 have HS0:Hid (w3.drew.cell? ⟨w.heap.size,0,none⟩ = some (.int .i64 6)):=HL4.out.at (g:=w.heap.size) (cs:=[.int .i64 6,.string (bs i.name),.slice (some ⟨g,off,none⟩) 2 kc,.int .i64 i.pl]) (ty:=92) (by simp) rfl
 clear HS3
 refine wp_region_Y (fun j=>[6].contains j) (fun W=>W.cell? ⟨w.heap.size,0,none⟩ = some (.int .i64 6)) (by kernel_rfl) ?_
 refine wpAnyY_takeD (i:=0) 15 (v:=.pointer (some ⟨b,0,none⟩)) rfl rfl (by kernel_rfl) (by kernel_rfl) (late_of (by kernel_rfl)) (by kernel_rfl) (by kernel_rfl) (fun _ _ _ h=>h) HS0.out (Or.inl ⟨by rfl,by (intro W hW; go_simp)⟩) ?_
 simp only [Act.put,lA,lB,lC]
 refine wpAnyY_takeD (i:=1) 16 (v:=.pointer (some ⟨w.heap.size,0,none⟩)) rfl rfl (by kernel_rfl) (by kernel_rfl) (late_of (by kernel_rfl)) (by kernel_rfl) (by kernel_rfl) (fun _ _ _ h=>h) HS0.out (Or.inl ⟨by rfl,by (intro W hW; go_simp)⟩) ?_
 simp only [Act.put,lA,lB,lC]
 refine wpAnyY_takeD (i:=2) 17 (v:=.int .i64 6) rfl rfl (by kernel_rfl) (by kernel_rfl) (late_of (by kernel_rfl)) (by kernel_rfl) (by kernel_rfl) (fun _ _ _ h=>h) HS0.out (Or.inl ⟨by rfl,by (intro W hW; go_simp)⟩) ?_
 simp only [Act.put,lA,lB,lC]
 refine wpAnyY_takeD (i:=3) 18 (v:=.pointer (some ⟨b,0,none⟩)) rfl rfl (by kernel_rfl) (by kernel_rfl) (late_of (by kernel_rfl)) (by kernel_rfl) (by kernel_rfl) (fun _ _ _ h=>h) HS0.out (Or.inl ⟨by rfl,by (intro W hW; go_simp)⟩) ?_
 simp only [Act.put,lA,lB,lC]
 refine wpAnyY_takeD (i:=4) 19 (v:=.pointer (some ⟨b,13,none⟩)) rfl rfl (by kernel_rfl) (by kernel_rfl) (late_of (by kernel_rfl)) (by kernel_rfl) (by kernel_rfl) (fun _ _ _ h=>h) HS0.out (Or.inl ⟨by rfl,by (intro W hW; go_simp)⟩) ?_
 simp only [Act.put,lA,lB,lC]
 refine wpAnyY_takeD (i:=5) 20 (v:=.pointer (some ⟨b,19,none⟩)) rfl rfl (by kernel_rfl) (by kernel_rfl) (late_of (by kernel_rfl)) (by kernel_rfl) (by kernel_rfl) (fun _ _ _ h=>h) HS0.out (Or.inl ⟨by rfl,by (intro W hW; go_simp)⟩) ?_
 simp only [Act.put,lA,lB,lC]
 refine wpAnyY_one (i:=6) rfl (by kernel_rfl) (fun K hK=>?_)
 refine storeB_step rfl rfl rfl rfl ((HL4.out.ck _ rfl).1.hadk (k:=6) (by omega)) ((HL4.out.ck _ rfl).1.fz 19) ?_
 intro V hV
 have HL5:Hid (LS w O O1 b s s (some { c with pl:=i.pl,had:=putHad c.had 6 }) [(w.heap.size + 1,flL (0,0),42),(w.heap.size,[.int .i64 6,.string (bs i.name),.slice (some ⟨g,off,none⟩) 2 kc,.int .i64 i.pl],92)] V):=by subst hV; exact HL4.out.putB rfl rfl rfl rfl rfl rfl HOK.out.2
 refine hK.out _ _ (fun hh=>absurd hh (by decide)) ?_
 clear hK K HL4 HS0 hV HOK
 refine wpAnyY_done (by kernel_rfl) ?_ _
 have x0:V.cell? ⟨w.heap.size,0,none⟩ = some (.int .i64 6):=HL5.out.at (g:=w.heap.size) (cs:=[.int .i64 6,.string (bs i.name),.slice (some ⟨g,off,none⟩) 2 kc,.int .i64 i.pl]) (ty:=92) (by simp) rfl
 go_wp2_with fail
 clear x0
 have HL6:Hid (LS w O O1 b s s (some { c with pl:=i.pl,had:=putHad c.had 6 }) [(w.heap.size + 1,flL (0,0),42),(w.heap.size,[.int .i64 6,.string (bs i.name),.slice (some ⟨g,off,none⟩) 2 kc,.int .i64 i.pl],92)] V.drew):=HL5.out.drew
 have HS0:Hid (V.drew.cell? ⟨w.heap.size,2,none⟩ = some (.slice (some ⟨g,off,none⟩) 2 kc) /\ V.drew.cell? ⟨g,off,none⟩ = some (.int .i64 h.kind) /\ V.drew.cell? ⟨g,off + 1,none⟩ = some (.int .i64 h.num) /\ V.drew.cell? ⟨g,off + 2,none⟩ = some (.string (bs h.text)) /\ V.drew.cell? ⟨g,off + 3,none⟩ = some (.slice ka1 kn1 kc1) /\ V.drew.cell? ⟨g,off + 4,none⟩ = some (.int .i64 h.pl) /\ V.drew.cell? ⟨g,off + 5,none⟩ = some (.int .i64 h2.kind) /\ V.drew.cell? ⟨g,off + 5 + 1,none⟩ = some (.int .i64 h2.num) /\ V.drew.cell? ⟨g,off + 5 + 2,none⟩ = some (.string (bs h2.text)) /\ V.drew.cell? ⟨g,off + 5 + 3,none⟩ = some (.slice la ln lc) /\ V.drew.cell? ⟨g,off + 5 + 4,none⟩ = some (.int .i64 h2.pl)):=HSS.out _ _ _ _ HL6.out
 clear HL5
 refine wp_region_Y (fun j=>[9,10].contains j) (fun W=>W.cell? ⟨w.heap.size,2,none⟩ = some (.slice (some ⟨g,off,none⟩) 2 kc) /\ W.cell? ⟨g,off,none⟩ = some (.int .i64 h.kind) /\ W.cell? ⟨g,off + 1,none⟩ = some (.int .i64 h.num) /\ W.cell? ⟨g,off + 2,none⟩ = some (.string (bs h.text)) /\ W.cell? ⟨g,off + 3,none⟩ = some (.slice ka1 kn1 kc1) /\ W.cell? ⟨g,off + 4,none⟩ = some (.int .i64 h.pl) /\ W.cell? ⟨g,off + 5,none⟩ = some (.int .i64 h2.kind) /\ W.cell? ⟨g,off + 5 + 1,none⟩ = some (.int .i64 h2.num) /\ W.cell? ⟨g,off + 5 + 2,none⟩ = some (.string (bs h2.text)) /\ W.cell? ⟨g,off + 5 + 3,none⟩ = some (.slice la ln lc) /\ W.cell? ⟨g,off + 5 + 4,none⟩ = some (.int .i64 h2.pl)) (by kernel_rfl) ?_
 refine wpAnyY_takeD (i:=0) 55 (v:=.pointer (some ⟨b,0,none⟩)) rfl rfl (by kernel_rfl) (by kernel_rfl) (late_of (by kernel_rfl)) (by kernel_rfl) (by kernel_rfl) (fun _ _ _ h=>h) HS0.out (Or.inl ⟨by rfl,by (intro W hW; obtain ⟨_,_,_,_,_,_,_,_,_,_,_⟩:=hW; go_simp)⟩) ?_
 simp only [Act.put,lA,lB,lC]
 refine wpAnyY_takeD (i:=1) 56 (v:=.pointer (some ⟨w.heap.size,2,none⟩)) rfl rfl (by kernel_rfl) (by kernel_rfl) (late_of (by kernel_rfl)) (by kernel_rfl) (by kernel_rfl) (fun _ _ _ h=>h) HS0.out (Or.inl ⟨by rfl,by (intro W hW; obtain ⟨_,_,_,_,_,_,_,_,_,_,_⟩:=hW; go_simp)⟩) ?_
 simp only [Act.put,lA,lB,lC]
 refine wpAnyY_takeD (i:=2) 57 (v:=.slice (some ⟨g,off,none⟩) 2 kc) rfl rfl (by kernel_rfl) (by kernel_rfl) (late_of (by kernel_rfl)) (by kernel_rfl) (by kernel_rfl) (fun _ _ _ h=>h) HS0.out (Or.inl ⟨by rfl,by (intro W hW; obtain ⟨_,_,_,_,_,_,_,_,_,_,_⟩:=hW; go_simp)⟩) ?_
 simp only [Act.put,lA,lB,lC]
 refine wpAnyY_takeD (i:=3) 58 (v:=.pointer (some ⟨g,off,none⟩)) rfl rfl (by kernel_rfl) (by kernel_rfl) (late_of (by kernel_rfl)) (by kernel_rfl) (by kernel_rfl) (fun _ _ _ h=>h) HS0.out (Or.inl ⟨by rfl,by (intro W hW; obtain ⟨_,_,_,_,_,_,_,_,_,_,_⟩:=hW; go_simp)⟩) ?_
 simp only [Act.put,lA,lB,lC]
 refine wpAnyY_takeD (i:=4) 59 (v:=.agg #[.int .i64 h.kind,.int .i64 h.num,.string (bs h.text),.slice ka1 kn1 kc1,.int .i64 h.pl]) rfl rfl (by kernel_rfl) (by kernel_rfl) (late_of (by kernel_rfl)) (by kernel_rfl) (by kernel_rfl) (fun _ _ _ h=>h) HS0.out (Or.inl ⟨by rfl,by (intro W hW; obtain ⟨_,_,_,_,_,_,_,_,_,_,_⟩:=hW; go_simp)⟩) ?_
 simp only [Act.put,lA,lB,lC]
 refine wpAnyY_takeD (i:=5) 60 (v:=.pointer (some ⟨w.heap.size,2,none⟩)) rfl rfl (by kernel_rfl) (by kernel_rfl) (late_of (by kernel_rfl)) (by kernel_rfl) (by kernel_rfl) (fun _ _ _ h=>h) HS0.out (Or.inl ⟨by rfl,by (intro W hW; obtain ⟨_,_,_,_,_,_,_,_,_,_,_⟩:=hW; go_simp)⟩) ?_
 simp only [Act.put,lA,lB,lC]
 refine wpAnyY_takeD (i:=6) 61 (v:=.slice (some ⟨g,off,none⟩) 2 kc) rfl rfl (by kernel_rfl) (by kernel_rfl) (late_of (by kernel_rfl)) (by kernel_rfl) (by kernel_rfl) (fun _ _ _ h=>h) HS0.out (Or.inl ⟨by rfl,by (intro W hW; obtain ⟨_,_,_,_,_,_,_,_,_,_,_⟩:=hW; go_simp)⟩) ?_
 simp only [Act.put,lA,lB,lC]
 refine wpAnyY_takeD (i:=7) 62 (v:=.pointer (some ⟨g,off + 5,none⟩)) rfl rfl (by kernel_rfl) (by kernel_rfl) (late_of (by kernel_rfl)) (by kernel_rfl) (by kernel_rfl) (fun _ _ _ h=>h) HS0.out (Or.inl ⟨by rfl,by (intro W hW; obtain ⟨_,_,_,_,_,_,_,_,_,_,_⟩:=hW; go_simp)⟩) ?_
 simp only [Act.put,lA,lB,lC]
 refine wpAnyY_takeD (i:=8) 63 (v:=.agg #[.int .i64 h2.kind,.int .i64 h2.num,.string (bs h2.text),.slice la ln lc,.int .i64 h2.pl]) rfl rfl (by kernel_rfl) (by kernel_rfl) (late_of (by kernel_rfl)) (by kernel_rfl) (by kernel_rfl) (fun _ _ _ h=>h) HS0.out (Or.inl ⟨by rfl,by (intro W hW; obtain ⟨_,_,_,_,_,_,_,_,_,_,_⟩:=hW; go_simp)⟩) ?_
 simp only [Act.put,lA,lB,lC]
 refine wpAnyY_one (i:=9) rfl (by kernel_rfl) (fun K hK=>?_)
 refine call53_step rfl rfl rfl rfl rfl rfl ?_
 refine (HC.out _ _ _ HL6.out).mono ?_
 intro e V2 hp
 obtain ⟨f1,f2,hff⟩:∃ f1 f2,faultOf r = (f1,f2):=⟨_,_,rfl⟩
 have hRl:=HL6.out.loc (w.heap.size + 1,flL (0,0),42) (by simp)
 have hl:=hRl.1.fr (O':=O1) hp.val.2 (fun g hg=>.inl hg)
 have hv:=hp.val.1
 rw [hff] at hv
 have HF:Hid (∀ u v,TPost O b w r e ((V2.setCell ⟨w.heap.size + 1,0,none⟩ u).setCell ⟨w.heap.size + 1,1,none⟩ v)):=fun u v=>hp.lift HL6.out.fr HL6.out.new hRl.1.off hRl.2 hRl.1.lt u v
 refine ⟨_,hv,?_⟩
 subst hv
 refine hK.out _ _ (fun hh=>absurd hh (by decide)) ?_
 clear hK K HL6 HS0 HC HSS hff hp hRl
 simp only [Act.put,lA,lB,lC]
 refine wpAnyY_one (i:=10) rfl (by kernel_rfl) (fun K hK=>?_)
 refine store32_step rfl rfl rfl rfl rfl hl.heap ?_
 intro V3 hV
 have HF3:Hid (TPost O b w r (.returned (.agg #[.int .i64 f1,.int .i64 f2])) V3):=by rw [hV]; exact HF.out _ _
 have hl3:V3.heap[w.heap.size + 1]? = some (.cells #[.int .i64 f1,.int .i64 f2] 42 (0,0)):=by rw [hV]; exact ((hl.put 0 (.int .i64 f1)).put 1 (.int .i64 f2)).heap
 refine hK.out _ _ (fun hh=>absurd hh (by decide)) ?_
 clear hK K HF hl hV
 have z0:V3.cell? ⟨w.heap.size + 1,0,none⟩ = some (.int .i64 f1):=blk hl3 rfl
 have z1:V3.cell? ⟨w.heap.size + 1,1,none⟩ = some (.int .i64 f2):=blk hl3 rfl
 clear hl3
 refine wpAnyY_done (by kernel_rfl) ?_ _
 go_wp2
 refine bodyPost_ret (v:=flV (f1,f2)) ?_ rfl ?_
 ·simp only [results,hres]
  unfold flV
  simp only
  go_simp
 ·show TPost _ _ _ _ _ _
  exact HF3.out
end Go.Proofs.YtidmjjalpbbfkaaGreat
namespace Go.Proofs.YtidmjjalpbbfkaaGreat
open Go.RowKit Go.Deep Go.Maps
set_option maxRecDepth 20000
set_option maxHeartbeats 4000000
theorem take_3 {B:Nat} {O:Nat -> Prop} {b:Nat} {s:Sl} {c:Ck} (i:It) (ka:Option Addr) (kc:Nat) (w:World) (hck:CkAt O b s c w) (hok:CkOk c) (hlow:∀ g,O g -> B <= g) (hB:B <= w.heap.size) (hF:FoAt false (fun g=>g < B) w i.args ka 1) (hof:okF i.args) (hn:i.name.length <= maxLen) (hk:i.kind = 3) (htw:twiceB { c with pl:=i.pl } i = false) :
 Calls Tryz.prog 42 #[.pointer (some ⟨b,0,none⟩),itV i ka 1 kc] w (TPost O b w (singleB (fun c p=>{ c with mat:=p }) ({ c with pl:=i.pl,had:=putHad c.had 3 }) (arg1 i.args))):=by
 have hres:Tryz.f42.results = #[.cell 4 42]:=by kernel_rfl
 obtain ⟨g,off,h,k,ka1,kn1,kc1,rfl,ha1,hr1,hat⟩:=one_arg hF (by omega) hof
 rw [ha1]
 have hS1:LS w O (fun g=>O g /\ g < w.heap.size) b s s (some c) [(w.heap.size + 1,flL (0,0),42),(w.heap.size,[.int .i64 3,.string (bs i.name),.slice (some ⟨g,off,none⟩) 1 kc,.int .i64 i.pl],92)] ((w.alloc (.cells #[.int .i64 3,.string (bs i.name),.slice (some ⟨g,off,none⟩) 1 kc,.int .i64 i.pl] 92)).alloc (.cells #[.int .i64 0,.int .i64 0] 42)):=by
  have:=LS.startI hck hok i (some ⟨g,off,none⟩) 1 kc
  unfold itL at this
  rw [hk] at this
  exact this
 have hmem:∀ W,Fr O w W -> ∀ q,q < w.heap.size -> q < B -> W.heap[q]? = w.heap[q]?:=fun W hf q hq hqB=>hf.block q hq (fun ho=>by have:=hlow q ho; omega)
 obtain ⟨r,hr⟩:∃ r,r = singleB (fun c p=>{ c with mat:=p }) ({ c with pl:=i.pl,had:=putHad c.had 3 }) (h,k):=⟨_,rfl⟩
 rw [<- hr]
 have HC:Hid (∀ O' s' W,LS w O O' b s s' (some { c with pl:=i.pl,had:=putHad c.had 3 }) [(w.heap.size + 1,flL (0,0),42),(w.heap.size,[.int .i64 3,.string (bs i.name),.slice (some ⟨g,off,none⟩) 1 kc,.int .i64 i.pl],92)] W -> Calls Tryz.prog 75 #[.pointer (some ⟨b,0,none⟩),.agg #[.int .i64 h.kind,.int .i64 h.num,.string (bs h.text),.slice ka1 kn1 kc1,.int .i64 h.pl],.pointer (some ⟨b,25,none⟩)] W (TPost O' b W r)):=by
  intro O' s' W hL
  have hlow':∀ g,O' g -> B <= g:=fun q hq=>by rcases hL.new q hq with h1 | h1; exact hlow q h1; omega
  obtain ⟨hE,-⟩:=hat W (hmem W hL.fr)
  have hB':=Nat.le_trans hB hL.fr.size
  obtain ⟨k1,k2',k3⟩:=hL.ck _ rfl
  rw [hr]
  exact single_calls h k ka1 kn1 kc1 b 25 (fun c p=>{ c with mat:=p }) W k1 k2' hlow' hB' hE hr1 (fun O3 s3 c3 W3 p j1 _ _=>⟨j1.inB,⟨_,j1.c25⟩,j1.fz 25,j1.put rfl rfl rfl rfl rfl rfl⟩)
 have HTW:Hid (∀ O' s' L W,LS w O O' b s s' (some { c with pl:=i.pl }) L W -> Calls Tryz.prog 66 #[.pointer (some ⟨b,0,none⟩),.agg #[.int .i64 3,.string (bs i.name),.slice (some ⟨g,off,none⟩) 1 kc,.int .i64 i.pl]] W fun e w'=>e = .returned (.bool false) /\ Hid (LS w O O' b s s' (some { c with pl:=i.pl }) L w')):=fun O' s' L W hL=>by
  have:=hL.twice i (some ⟨g,off,none⟩) 1 kc (by omega) (by omega) hn
  rw [htw] at this
  unfold itV at this
  rw [hk] at this
  exact this
 have HSS:Hid (∀ O' s' oc W,LS w O O' b s s' oc [(w.heap.size + 1,flL (0,0),42),(w.heap.size,[.int .i64 3,.string (bs i.name),.slice (some ⟨g,off,none⟩) 1 kc,.int .i64 i.pl],92)] W -> W.cell? ⟨w.heap.size,2,none⟩ = some (.slice (some ⟨g,off,none⟩) 1 kc) /\ W.cell? ⟨g,off,none⟩ = some (.int .i64 h.kind) /\ W.cell? ⟨g,off + 1,none⟩ = some (.int .i64 h.num) /\ W.cell? ⟨g,off + 2,none⟩ = some (.string (bs h.text)) /\ W.cell? ⟨g,off + 3,none⟩ = some (.slice ka1 kn1 kc1) /\ W.cell? ⟨g,off + 4,none⟩ = some (.int .i64 h.pl)):=fun O' s' oc W hL=>⟨hL.at (g:=w.heap.size) (cs:=[.int .i64 3,.string (bs i.name),.slice (some ⟨g,off,none⟩) 1 kc,.int .i64 i.pl]) (ty:=92) (by simp) rfl,(hat W (hmem W hL.fr)).2⟩
 have HOK:Hid (CkOk { c with pl:=i.pl } /\ CkOk { c with pl:=i.pl,had:=putHad c.had 3 }):=⟨hok.pl i.pl,hok.had i.pl _⟩
 generalize hO1:(fun g=>O g /\ g < w.heap.size) = O1 at hS1
 clear hO1 hck hok hlow hB hF hof hn htw hmem hat hr ha1 hr1
 unfold itV
 rw [hk]
 clear hk
 have HS1:Hid (LS w O O1 b s s (some c) [(w.heap.size + 1,flL (0,0),42),(w.heap.size,[.int .i64 3,.string (bs i.name),.slice (some ⟨g,off,none⟩) 1 kc,.int .i64 i.pl],92)] ((w.alloc (.cells #[.int .i64 3,.string (bs i.name),.slice (some ⟨g,off,none⟩) 1 kc,.int .i64 i.pl] 92)).alloc (.cells #[.int .i64 0,.int .i64 0] 42))):=hS1
 clear hS1
 go_enter Tryz.func42,Tryz.ntmps42
 go_upto_region 1 with (fail)
 generalize ((w.alloc (.cells #[.int .i64 3,.string (bs i.name),.slice (some ⟨g,off,none⟩) 1 kc,.int .i64 i.pl] 92)).alloc (.cells #[.int .i64 0,.int .i64 0] 42)) = w1 at *
 have x3:w1.cell? ⟨w.heap.size,3,none⟩ = some (.int .i64 i.pl):=HS1.out.at (g:=w.heap.size) (cs:=[.int .i64 3,.string (bs i.name),.slice (some ⟨g,off,none⟩) 1 kc,.int .i64 i.pl]) (ty:=92) (by simp) rfl
 have b24:w1.cell? ⟨b,24,none⟩ = some (.int .i64 c.pl):=(HS1.out.ck _ rfl).1.c24
 have bf:w1.frozen? ⟨b,24,none⟩ = false:=(HS1.out.ck _ rfl).1.fz 24
 have HS2:Hid (LS w O O1 b s s (some { c with pl:=i.pl }) [(w.heap.size + 1,flL (0,0),42),(w.heap.size,[.int .i64 3,.string (bs i.name),.slice (some ⟨g,off,none⟩) 1 kc,.int .i64 i.pl],92)] (w1.setCell ⟨b,24,none⟩ (.int .i64 i.pl))):=HS1.out.putB rfl rfl rfl rfl rfl rfl HOK.out.1
 go_upto_region 2 with (fail)
 clear x3 b24 bf HS1
 generalize w1.setCell ⟨b,24,none⟩ (.int .i64 i.pl) = w2 at *
 have x0:w2.cell? ⟨w.heap.size,0,none⟩ = some (.int .i64 3):=HS2.out.at (g:=w.heap.size) (cs:=[.int .i64 3,.string (bs i.name),.slice (some ⟨g,off,none⟩) 1 kc,.int .i64 i.pl]) (ty:=92) (by simp) rfl
 have x1:w2.cell? ⟨w.heap.size,1,none⟩ = some (.string (bs i.name)):=HS2.out.at (g:=w.heap.size) (cs:=[.int .i64 3,.string (bs i.name),.slice (some ⟨g,off,none⟩) 1 kc,.int .i64 i.pl]) (ty:=92) (by simp) rfl
 have x2:w2.cell? ⟨w.heap.size,2,none⟩ = some (.slice (some ⟨g,off,none⟩) 1 kc):=HS2.out.at (g:=w.heap.size) (cs:=[.int .i64 3,.string (bs i.name),.slice (some ⟨g,off,none⟩) 1 kc,.int .i64 i.pl]) (ty:=92) (by simp) rfl
 have x3:w2.cell? ⟨w.heap.size,3,none⟩ = some (.int .i64 i.pl):=HS2.out.at (g:=w.heap.size) (cs:=[.int .i64 3,.string (bs i.name),.slice (some ⟨g,off,none⟩) 1 kc,.int .i64 i.pl]) (ty:=92) (by simp) rfl
 go_wp2_with (go_at_call 66; refine (HTW.out _ _ _ _ HS2.out).mono ?_; rintro e w3 ⟨rfl,HS3⟩)
 clear x0 x1 x2 x3 HS2 HTW
 have HL4:Hid (LS w O O1 b s s (some { c with pl:=i.pl }) [(w.heap.size + 1,flL (0,0),42),(w.heap.size,[.int .i64 3,.string (bs i.name),.slice (some ⟨g,off,none⟩) 1 kc,.int .i64 i.pl],92)] w3.drew):=HS3.out.drew
 have HS0:Hid (w3.drew.cell? ⟨w.heap.size,0,none⟩ = some (.int .i64 3)):=HL4.out.at (g:=w.heap.size) (cs:=[.int .i64 3,.string (bs i.name),.slice (some ⟨g,off,none⟩) 1 kc,.int .i64 i.pl]) (ty:=92) (by simp) rfl
 clear HS3
 refine wp_region_Y (fun j=>[6].contains j) (fun W=>W.cell? ⟨w.heap.size,0,none⟩ = some (.int .i64 3)) (by kernel_rfl) ?_
 refine wpAnyY_takeD (i:=0) 15 (v:=.pointer (some ⟨b,0,none⟩)) rfl rfl (by kernel_rfl) (by kernel_rfl) (late_of (by kernel_rfl)) (by kernel_rfl) (by kernel_rfl) (fun _ _ _ h=>h) HS0.out (Or.inl ⟨by rfl,by (intro W hW; go_simp)⟩) ?_
 simp only [Act.put,lA,lB,lC]
 refine wpAnyY_takeD (i:=1) 16 (v:=.pointer (some ⟨w.heap.size,0,none⟩)) rfl rfl (by kernel_rfl) (by kernel_rfl) (late_of (by kernel_rfl)) (by kernel_rfl) (by kernel_rfl) (fun _ _ _ h=>h) HS0.out (Or.inl ⟨by rfl,by (intro W hW; go_simp)⟩) ?_
 simp only [Act.put,lA,lB,lC]
 refine wpAnyY_takeD (i:=2) 17 (v:=.int .i64 3) rfl rfl (by kernel_rfl) (by kernel_rfl) (late_of (by kernel_rfl)) (by kernel_rfl) (by kernel_rfl) (fun _ _ _ h=>h) HS0.out (Or.inl ⟨by rfl,by (intro W hW; go_simp)⟩) ?_
 simp only [Act.put,lA,lB,lC]
 refine wpAnyY_takeD (i:=3) 18 (v:=.pointer (some ⟨b,0,none⟩)) rfl rfl (by kernel_rfl) (by kernel_rfl) (late_of (by kernel_rfl)) (by kernel_rfl) (by kernel_rfl) (fun _ _ _ h=>h) HS0.out (Or.inl ⟨by rfl,by (intro W hW; go_simp)⟩) ?_
 simp only [Act.put,lA,lB,lC]
 refine wpAnyY_takeD (i:=4) 19 (v:=.pointer (some ⟨b,13,none⟩)) rfl rfl (by kernel_rfl) (by kernel_rfl) (late_of (by kernel_rfl)) (by kernel_rfl) (by kernel_rfl) (fun _ _ _ h=>h) HS0.out (Or.inl ⟨by rfl,by (intro W hW; go_simp)⟩) ?_
 simp only [Act.put,lA,lB,lC]
 refine wpAnyY_takeD (i:=5) 20 (v:=.pointer (some ⟨b,16,none⟩)) rfl rfl (by kernel_rfl) (by kernel_rfl) (late_of (by kernel_rfl)) (by kernel_rfl) (by kernel_rfl) (fun _ _ _ h=>h) HS0.out (Or.inl ⟨by rfl,by (intro W hW; go_simp)⟩) ?_
 simp only [Act.put,lA,lB,lC]
 refine wpAnyY_one (i:=6) rfl (by kernel_rfl) (fun K hK=>?_)
 refine storeB_step rfl rfl rfl rfl ((HL4.out.ck _ rfl).1.hadk (k:=3) (by omega)) ((HL4.out.ck _ rfl).1.fz 16) ?_
 intro V hV
 have HL5:Hid (LS w O O1 b s s (some { c with pl:=i.pl,had:=putHad c.had 3 }) [(w.heap.size + 1,flL (0,0),42),(w.heap.size,[.int .i64 3,.string (bs i.name),.slice (some ⟨g,off,none⟩) 1 kc,.int .i64 i.pl],92)] V):=by subst hV; exact HL4.out.putB rfl rfl rfl rfl rfl rfl HOK.out.2
 refine hK.out _ _ (fun hh=>absurd hh (by decide)) ?_
 clear hK K HL4 HS0 hV HOK
 refine wpAnyY_done (by kernel_rfl) ?_ _
 have x0:V.cell? ⟨w.heap.size,0,none⟩ = some (.int .i64 3):=HL5.out.at (g:=w.heap.size) (cs:=[.int .i64 3,.string (bs i.name),.slice (some ⟨g,off,none⟩) 1 kc,.int .i64 i.pl]) (ty:=92) (by simp) rfl
 go_wp2_with fail
 clear x0
 have HL6:Hid (LS w O O1 b s s (some { c with pl:=i.pl,had:=putHad c.had 3 }) [(w.heap.size + 1,flL (0,0),42),(w.heap.size,[.int .i64 3,.string (bs i.name),.slice (some ⟨g,off,none⟩) 1 kc,.int .i64 i.pl],92)] V.drew):=HL5.out.drew
 have HS0:Hid (V.drew.cell? ⟨w.heap.size,2,none⟩ = some (.slice (some ⟨g,off,none⟩) 1 kc) /\ V.drew.cell? ⟨g,off,none⟩ = some (.int .i64 h.kind) /\ V.drew.cell? ⟨g,off + 1,none⟩ = some (.int .i64 h.num) /\ V.drew.cell? ⟨g,off + 2,none⟩ = some (.string (bs h.text)) /\ V.drew.cell? ⟨g,off + 3,none⟩ = some (.slice ka1 kn1 kc1) /\ V.drew.cell? ⟨g,off + 4,none⟩ = some (.int .i64 h.pl)):=HSS.out _ _ _ _ HL6.out
 clear HL5
 refine wp_region_Y (fun j=>[8,9].contains j) (fun W=>W.cell? ⟨w.heap.size,2,none⟩ = some (.slice (some ⟨g,off,none⟩) 1 kc) /\ W.cell? ⟨g,off,none⟩ = some (.int .i64 h.kind) /\ W.cell? ⟨g,off + 1,none⟩ = some (.int .i64 h.num) /\ W.cell? ⟨g,off + 2,none⟩ = some (.string (bs h.text)) /\ W.cell? ⟨g,off + 3,none⟩ = some (.slice ka1 kn1 kc1) /\ W.cell? ⟨g,off + 4,none⟩ = some (.int .i64 h.pl)) (by kernel_rfl) ?_
 refine wpAnyY_takeD (i:=0) 100 (v:=.pointer (some ⟨b,0,none⟩)) rfl rfl (by kernel_rfl) (by kernel_rfl) (late_of (by kernel_rfl)) (by kernel_rfl) (by kernel_rfl) (fun _ _ _ h=>h) HS0.out (Or.inl ⟨by rfl,by (intro W hW; obtain ⟨_,_,_,_,_,_⟩:=hW; go_simp)⟩) ?_
 simp only [Act.put,lA,lB,lC]
 refine wpAnyY_takeD (i:=1) 101 (v:=.pointer (some ⟨w.heap.size,2,none⟩)) rfl rfl (by kernel_rfl) (by kernel_rfl) (late_of (by kernel_rfl)) (by kernel_rfl) (by kernel_rfl) (fun _ _ _ h=>h) HS0.out (Or.inl ⟨by rfl,by (intro W hW; obtain ⟨_,_,_,_,_,_⟩:=hW; go_simp)⟩) ?_
 simp only [Act.put,lA,lB,lC]
 refine wpAnyY_takeD (i:=2) 102 (v:=.slice (some ⟨g,off,none⟩) 1 kc) rfl rfl (by kernel_rfl) (by kernel_rfl) (late_of (by kernel_rfl)) (by kernel_rfl) (by kernel_rfl) (fun _ _ _ h=>h) HS0.out (Or.inl ⟨by rfl,by (intro W hW; obtain ⟨_,_,_,_,_,_⟩:=hW; go_simp)⟩) ?_
 simp only [Act.put,lA,lB,lC]
 refine wpAnyY_takeD (i:=3) 103 (v:=.pointer (some ⟨g,off,none⟩)) rfl rfl (by kernel_rfl) (by kernel_rfl) (late_of (by kernel_rfl)) (by kernel_rfl) (by kernel_rfl) (fun _ _ _ h=>h) HS0.out (Or.inl ⟨by rfl,by (intro W hW; obtain ⟨_,_,_,_,_,_⟩:=hW; go_simp)⟩) ?_
 simp only [Act.put,lA,lB,lC]
 refine wpAnyY_takeD (i:=4) 104 (v:=.agg #[.int .i64 h.kind,.int .i64 h.num,.string (bs h.text),.slice ka1 kn1 kc1,.int .i64 h.pl]) rfl rfl (by kernel_rfl) (by kernel_rfl) (late_of (by kernel_rfl)) (by kernel_rfl) (by kernel_rfl) (fun _ _ _ h=>h) HS0.out (Or.inl ⟨by rfl,by (intro W hW; obtain ⟨_,_,_,_,_,_⟩:=hW; go_simp)⟩) ?_
 simp only [Act.put,lA,lB,lC]
 refine wpAnyY_takeD (i:=5) 105 (v:=.pointer (some ⟨b,0,none⟩)) rfl rfl (by kernel_rfl) (by kernel_rfl) (late_of (by kernel_rfl)) (by kernel_rfl) (by kernel_rfl) (fun _ _ _ h=>h) HS0.out (Or.inl ⟨by rfl,by (intro W hW; obtain ⟨_,_,_,_,_,_⟩:=hW; go_simp)⟩) ?_
 simp only [Act.put,lA,lB,lC]
 refine wpAnyY_takeD (i:=6) 106 (v:=.pointer (some ⟨b,0,none⟩)) rfl rfl (by kernel_rfl) (by kernel_rfl) (late_of (by kernel_rfl)) (by kernel_rfl) (by kernel_rfl) (fun _ _ _ h=>h) HS0.out (Or.inl ⟨by rfl,by (intro W hW; obtain ⟨_,_,_,_,_,_⟩:=hW; go_simp)⟩) ?_
 simp only [Act.put,lA,lB,lC]
 refine wpAnyY_takeD (i:=7) 107 (v:=.pointer (some ⟨b,25,none⟩)) rfl rfl (by kernel_rfl) (by kernel_rfl) (late_of (by kernel_rfl)) (by kernel_rfl) (by kernel_rfl) (fun _ _ _ h=>h) HS0.out (Or.inl ⟨by rfl,by (intro W hW; obtain ⟨_,_,_,_,_,_⟩:=hW; go_simp)⟩) ?_
 simp only [Act.put,lA,lB,lC]
 refine wpAnyY_one (i:=8) rfl (by kernel_rfl) (fun K hK=>?_)
 refine call57_step rfl rfl rfl rfl rfl rfl ?_
 refine (HC.out _ _ _ HL6.out).mono ?_
 intro e V2 hp
 obtain ⟨f1,f2,hff⟩:∃ f1 f2,faultOf r = (f1,f2):=⟨_,_,rfl⟩
 have hRl:=HL6.out.loc (w.heap.size + 1,flL (0,0),42) (by simp)
 have hl:=hRl.1.fr (O':=O1) hp.val.2 (fun g hg=>.inl hg)
 have hv:=hp.val.1
 rw [hff] at hv
 have HF:Hid (∀ u v,TPost O b w r e ((V2.setCell ⟨w.heap.size + 1,0,none⟩ u).setCell ⟨w.heap.size + 1,1,none⟩ v)):=fun u v=>hp.lift HL6.out.fr HL6.out.new hRl.1.off hRl.2 hRl.1.lt u v
 refine ⟨_,hv,?_⟩
 subst hv
 refine hK.out _ _ (fun hh=>absurd hh (by decide)) ?_
 clear hK K HL6 HS0 HC HSS hff hp hRl
 simp only [Act.put,lA,lB,lC]
 refine wpAnyY_one (i:=9) rfl (by kernel_rfl) (fun K hK=>?_)
 refine store32_step rfl rfl rfl rfl rfl hl.heap ?_
 intro V3 hV
 have HF3:Hid (TPost O b w r (.returned (.agg #[.int .i64 f1,.int .i64 f2])) V3):=by rw [hV]; exact HF.out _ _
 have hl3:V3.heap[w.heap.size + 1]? = some (.cells #[.int .i64 f1,.int .i64 f2] 42 (0,0)):=by rw [hV]; exact ((hl.put 0 (.int .i64 f1)).put 1 (.int .i64 f2)).heap
 refine hK.out _ _ (fun hh=>absurd hh (by decide)) ?_
 clear hK K HF hl hV
 have z0:V3.cell? ⟨w.heap.size + 1,0,none⟩ = some (.int .i64 f1):=blk hl3 rfl
 have z1:V3.cell? ⟨w.heap.size + 1,1,none⟩ = some (.int .i64 f2):=blk hl3 rfl
 clear hl3
 refine wpAnyY_done (by kernel_rfl) ?_ _
 go_wp2
 refine bodyPost_ret (v:=flV (f1,f2)) ?_ rfl ?_
 ·simp only [results,hres]
  unfold flV
  simp only
  go_simp
 ·show TPost _ _ _ _ _ _
  exact HF3.out
theorem take_4 {B:Nat} {O:Nat -> Prop} {b:Nat} {s:Sl} {c:Ck} (i:It) (ka:Option Addr) (kc:Nat) (w:World) (hck:CkAt O b s c w) (hok:CkOk c) (hlow:∀ g,O g -> B <= g) (hB:B <= w.heap.size) (hF:FoAt false (fun g=>g < B) w i.args ka 1) (hof:okF i.args) (hn:i.name.length <= maxLen) (hk:i.kind = 4) (htw:twiceB { c with pl:=i.pl } i = false) :
 Calls Tryz.prog 42 #[.pointer (some ⟨b,0,none⟩),itV i ka 1 kc] w (TPost O b w (singleB (fun c p=>{ c with mis:=p }) ({ c with pl:=i.pl,had:=putHad c.had 4 }) (arg1 i.args))):=by
 have hres:Tryz.f42.results = #[.cell 4 42]:=by kernel_rfl
 obtain ⟨g,off,h,k,ka1,kn1,kc1,rfl,ha1,hr1,hat⟩:=one_arg hF (by omega) hof
 rw [ha1]
 have hS1:LS w O (fun g=>O g /\ g < w.heap.size) b s s (some c) [(w.heap.size + 1,flL (0,0),42),(w.heap.size,[.int .i64 4,.string (bs i.name),.slice (some ⟨g,off,none⟩) 1 kc,.int .i64 i.pl],92)] ((w.alloc (.cells #[.int .i64 4,.string (bs i.name),.slice (some ⟨g,off,none⟩) 1 kc,.int .i64 i.pl] 92)).alloc (.cells #[.int .i64 0,.int .i64 0] 42)):=by
  have:=LS.startI hck hok i (some ⟨g,off,none⟩) 1 kc
  unfold itL at this
  rw [hk] at this
  exact this
 have hmem:∀ W,Fr O w W -> ∀ q,q < w.heap.size -> q < B -> W.heap[q]? = w.heap[q]?:=fun W hf q hq hqB=>hf.block q hq (fun ho=>by have:=hlow q ho; omega)
 obtain ⟨r,hr⟩:∃ r,r = singleB (fun c p=>{ c with mis:=p }) ({ c with pl:=i.pl,had:=putHad c.had 4 }) (h,k):=⟨_,rfl⟩
 rw [<- hr]
 have HC:Hid (∀ O' s' W,LS w O O' b s s' (some { c with pl:=i.pl,had:=putHad c.had 4 }) [(w.heap.size + 1,flL (0,0),42),(w.heap.size,[.int .i64 4,.string (bs i.name),.slice (some ⟨g,off,none⟩) 1 kc,.int .i64 i.pl],92)] W -> Calls Tryz.prog 75 #[.pointer (some ⟨b,0,none⟩),.agg #[.int .i64 h.kind,.int .i64 h.num,.string (bs h.text),.slice ka1 kn1 kc1,.int .i64 h.pl],.pointer (some ⟨b,26,none⟩)] W (TPost O' b W r)):=by
  intro O' s' W hL
  have hlow':∀ g,O' g -> B <= g:=fun q hq=>by rcases hL.new q hq with h1 | h1; exact hlow q h1; omega
  obtain ⟨hE,-⟩:=hat W (hmem W hL.fr)
  have hB':=Nat.le_trans hB hL.fr.size
  obtain ⟨k1,k2',k3⟩:=hL.ck _ rfl
  rw [hr]
  exact single_calls h k ka1 kn1 kc1 b 26 (fun c p=>{ c with mis:=p }) W k1 k2' hlow' hB' hE hr1 (fun O3 s3 c3 W3 p j1 _ _=>⟨j1.inB,⟨_,j1.c26⟩,j1.fz 26,j1.put rfl rfl rfl rfl rfl rfl⟩)
 have HTW:Hid (∀ O' s' L W,LS w O O' b s s' (some { c with pl:=i.pl }) L W -> Calls Tryz.prog 66 #[.pointer (some ⟨b,0,none⟩),.agg #[.int .i64 4,.string (bs i.name),.slice (some ⟨g,off,none⟩) 1 kc,.int .i64 i.pl]] W fun e w'=>e = .returned (.bool false) /\ Hid (LS w O O' b s s' (some { c with pl:=i.pl }) L w')):=fun O' s' L W hL=>by
  have:=hL.twice i (some ⟨g,off,none⟩) 1 kc (by omega) (by omega) hn
  rw [htw] at this
  unfold itV at this
  rw [hk] at this
  exact this
 have HSS:Hid (∀ O' s' oc W,LS w O O' b s s' oc [(w.heap.size + 1,flL (0,0),42),(w.heap.size,[.int .i64 4,.string (bs i.name),.slice (some ⟨g,off,none⟩) 1 kc,.int .i64 i.pl],92)] W -> W.cell? ⟨w.heap.size,2,none⟩ = some (.slice (some ⟨g,off,none⟩) 1 kc) /\ W.cell? ⟨g,off,none⟩ = some (.int .i64 h.kind) /\ W.cell? ⟨g,off + 1,none⟩ = some (.int .i64 h.num) /\ W.cell? ⟨g,off + 2,none⟩ = some (.string (bs h.text)) /\ W.cell? ⟨g,off + 3,none⟩ = some (.slice ka1 kn1 kc1) /\ W.cell? ⟨g,off + 4,none⟩ = some (.int .i64 h.pl)):=fun O' s' oc W hL=>⟨hL.at (g:=w.heap.size) (cs:=[.int .i64 4,.string (bs i.name),.slice (some ⟨g,off,none⟩) 1 kc,.int .i64 i.pl]) (ty:=92) (by simp) rfl,(hat W (hmem W hL.fr)).2⟩
 have HOK:Hid (CkOk { c with pl:=i.pl } /\ CkOk { c with pl:=i.pl,had:=putHad c.had 4 }):=⟨hok.pl i.pl,hok.had i.pl _⟩
 generalize hO1:(fun g=>O g /\ g < w.heap.size) = O1 at hS1
 clear hO1 hck hok hlow hB hF hof hn htw hmem hat hr ha1 hr1
 unfold itV
 rw [hk]
 clear hk
 have HS1:Hid (LS w O O1 b s s (some c) [(w.heap.size + 1,flL (0,0),42),(w.heap.size,[.int .i64 4,.string (bs i.name),.slice (some ⟨g,off,none⟩) 1 kc,.int .i64 i.pl],92)] ((w.alloc (.cells #[.int .i64 4,.string (bs i.name),.slice (some ⟨g,off,none⟩) 1 kc,.int .i64 i.pl] 92)).alloc (.cells #[.int .i64 0,.int .i64 0] 42))):=hS1
 clear hS1
 go_enter Tryz.func42,Tryz.ntmps42
 go_upto_region 1 with (fail)
 generalize ((w.alloc (.cells #[.int .i64 4,.string (bs i.name),.slice (some ⟨g,off,none⟩) 1 kc,.int .i64 i.pl] 92)).alloc (.cells #[.int .i64 0,.int .i64 0] 42)) = w1 at *
 have x3:w1.cell? ⟨w.heap.size,3,none⟩ = some (.int .i64 i.pl):=HS1.out.at (g:=w.heap.size) (cs:=[.int .i64 4,.string (bs i.name),.slice (some ⟨g,off,none⟩) 1 kc,.int .i64 i.pl]) (ty:=92) (by simp) rfl
 have b24:w1.cell? ⟨b,24,none⟩ = some (.int .i64 c.pl):=(HS1.out.ck _ rfl).1.c24
 have bf:w1.frozen? ⟨b,24,none⟩ = false:=(HS1.out.ck _ rfl).1.fz 24
 have HS2:Hid (LS w O O1 b s s (some { c with pl:=i.pl }) [(w.heap.size + 1,flL (0,0),42),(w.heap.size,[.int .i64 4,.string (bs i.name),.slice (some ⟨g,off,none⟩) 1 kc,.int .i64 i.pl],92)] (w1.setCell ⟨b,24,none⟩ (.int .i64 i.pl))):=HS1.out.putB rfl rfl rfl rfl rfl rfl HOK.out.1
 go_upto_region 2 with (fail)
 clear x3 b24 bf HS1
 generalize w1.setCell ⟨b,24,none⟩ (.int .i64 i.pl) = w2 at *
 have x0:w2.cell? ⟨w.heap.size,0,none⟩ = some (.int .i64 4):=HS2.out.at (g:=w.heap.size) (cs:=[.int .i64 4,.string (bs i.name),.slice (some ⟨g,off,none⟩) 1 kc,.int .i64 i.pl]) (ty:=92) (by simp) rfl
 have x1:w2.cell? ⟨w.heap.size,1,none⟩ = some (.string (bs i.name)):=HS2.out.at (g:=w.heap.size) (cs:=[.int .i64 4,.string (bs i.name),.slice (some ⟨g,off,none⟩) 1 kc,.int .i64 i.pl]) (ty:=92) (by simp) rfl
 have x2:w2.cell? ⟨w.heap.size,2,none⟩ = some (.slice (some ⟨g,off,none⟩) 1 kc):=HS2.out.at (g:=w.heap.size) (cs:=[.int .i64 4,.string (bs i.name),.slice (some ⟨g,off,none⟩) 1 kc,.int .i64 i.pl]) (ty:=92) (by simp) rfl
 have x3:w2.cell? ⟨w.heap.size,3,none⟩ = some (.int .i64 i.pl):=HS2.out.at (g:=w.heap.size) (cs:=[.int .i64 4,.string (bs i.name),.slice (some ⟨g,off,none⟩) 1 kc,.int .i64 i.pl]) (ty:=92) (by simp) rfl
 go_wp2_with (go_at_call 66; refine (HTW.out _ _ _ _ HS2.out).mono ?_; rintro e w3 ⟨rfl,HS3⟩)
 clear x0 x1 x2 x3 HS2 HTW
 have HL4:Hid (LS w O O1 b s s (some { c with pl:=i.pl }) [(w.heap.size + 1,flL (0,0),42),(w.heap.size,[.int .i64 4,.string (bs i.name),.slice (some ⟨g,off,none⟩) 1 kc,.int .i64 i.pl],92)] w3.drew):=HS3.out.drew
 have HS0:Hid (w3.drew.cell? ⟨w.heap.size,0,none⟩ = some (.int .i64 4)):=HL4.out.at (g:=w.heap.size) (cs:=[.int .i64 4,.string (bs i.name),.slice (some ⟨g,off,none⟩) 1 kc,.int .i64 i.pl]) (ty:=92) (by simp) rfl
 clear HS3
 refine wp_region_Y (fun j=>[6].contains j) (fun W=>W.cell? ⟨w.heap.size,0,none⟩ = some (.int .i64 4)) (by kernel_rfl) ?_
 refine wpAnyY_takeD (i:=0) 15 (v:=.pointer (some ⟨b,0,none⟩)) rfl rfl (by kernel_rfl) (by kernel_rfl) (late_of (by kernel_rfl)) (by kernel_rfl) (by kernel_rfl) (fun _ _ _ h=>h) HS0.out (Or.inl ⟨by rfl,by (intro W hW; go_simp)⟩) ?_
 simp only [Act.put,lA,lB,lC]
 refine wpAnyY_takeD (i:=1) 16 (v:=.pointer (some ⟨w.heap.size,0,none⟩)) rfl rfl (by kernel_rfl) (by kernel_rfl) (late_of (by kernel_rfl)) (by kernel_rfl) (by kernel_rfl) (fun _ _ _ h=>h) HS0.out (Or.inl ⟨by rfl,by (intro W hW; go_simp)⟩) ?_
 simp only [Act.put,lA,lB,lC]
 refine wpAnyY_takeD (i:=2) 17 (v:=.int .i64 4) rfl rfl (by kernel_rfl) (by kernel_rfl) (late_of (by kernel_rfl)) (by kernel_rfl) (by kernel_rfl) (fun _ _ _ h=>h) HS0.out (Or.inl ⟨by rfl,by (intro W hW; go_simp)⟩) ?_
 simp only [Act.put,lA,lB,lC]
 refine wpAnyY_takeD (i:=3) 18 (v:=.pointer (some ⟨b,0,none⟩)) rfl rfl (by kernel_rfl) (by kernel_rfl) (late_of (by kernel_rfl)) (by kernel_rfl) (by kernel_rfl) (fun _ _ _ h=>h) HS0.out (Or.inl ⟨by rfl,by (intro W hW; go_simp)⟩) ?_
 simp only [Act.put,lA,lB,lC]
 refine wpAnyY_takeD (i:=4) 19 (v:=.pointer (some ⟨b,13,none⟩)) rfl rfl (by kernel_rfl) (by kernel_rfl) (late_of (by kernel_rfl)) (by kernel_rfl) (by kernel_rfl) (fun _ _ _ h=>h) HS0.out (Or.inl ⟨by rfl,by (intro W hW; go_simp)⟩) ?_
 simp only [Act.put,lA,lB,lC]
 refine wpAnyY_takeD (i:=5) 20 (v:=.pointer (some ⟨b,17,none⟩)) rfl rfl (by kernel_rfl) (by kernel_rfl) (late_of (by kernel_rfl)) (by kernel_rfl) (by kernel_rfl) (fun _ _ _ h=>h) HS0.out (Or.inl ⟨by rfl,by (intro W hW; go_simp)⟩) ?_
 simp only [Act.put,lA,lB,lC]
 refine wpAnyY_one (i:=6) rfl (by kernel_rfl) (fun K hK=>?_)
 refine storeB_step rfl rfl rfl rfl ((HL4.out.ck _ rfl).1.hadk (k:=4) (by omega)) ((HL4.out.ck _ rfl).1.fz 17) ?_
 intro V hV
 have HL5:Hid (LS w O O1 b s s (some { c with pl:=i.pl,had:=putHad c.had 4 }) [(w.heap.size + 1,flL (0,0),42),(w.heap.size,[.int .i64 4,.string (bs i.name),.slice (some ⟨g,off,none⟩) 1 kc,.int .i64 i.pl],92)] V):=by subst hV; exact HL4.out.putB rfl rfl rfl rfl rfl rfl HOK.out.2
 refine hK.out _ _ (fun hh=>absurd hh (by decide)) ?_
 clear hK K HL4 HS0 hV HOK
 refine wpAnyY_done (by kernel_rfl) ?_ _
 have x0:V.cell? ⟨w.heap.size,0,none⟩ = some (.int .i64 4):=HL5.out.at (g:=w.heap.size) (cs:=[.int .i64 4,.string (bs i.name),.slice (some ⟨g,off,none⟩) 1 kc,.int .i64 i.pl]) (ty:=92) (by simp) rfl
 go_wp2_with fail
 clear x0
 have HL6:Hid (LS w O O1 b s s (some { c with pl:=i.pl,had:=putHad c.had 4 }) [(w.heap.size + 1,flL (0,0),42),(w.heap.size,[.int .i64 4,.string (bs i.name),.slice (some ⟨g,off,none⟩) 1 kc,.int .i64 i.pl],92)] V.drew):=HL5.out.drew
 have HS0:Hid (V.drew.cell? ⟨w.heap.size,2,none⟩ = some (.slice (some ⟨g,off,none⟩) 1 kc) /\ V.drew.cell? ⟨g,off,none⟩ = some (.int .i64 h.kind) /\ V.drew.cell? ⟨g,off + 1,none⟩ = some (.int .i64 h.num) /\ V.drew.cell? ⟨g,off + 2,none⟩ = some (.string (bs h.text)) /\ V.drew.cell? ⟨g,off + 3,none⟩ = some (.slice ka1 kn1 kc1) /\ V.drew.cell? ⟨g,off + 4,none⟩ = some (.int .i64 h.pl)):=HSS.out _ _ _ _ HL6.out
 clear HL5
 refine wp_region_Y (fun j=>[8,9].contains j) (fun W=>W.cell? ⟨w.heap.size,2,none⟩ = some (.slice (some ⟨g,off,none⟩) 1 kc) /\ W.cell? ⟨g,off,none⟩ = some (.int .i64 h.kind) /\ W.cell? ⟨g,off + 1,none⟩ = some (.int .i64 h.num) /\ W.cell? ⟨g,off + 2,none⟩ = some (.string (bs h.text)) /\ W.cell? ⟨g,off + 3,none⟩ = some (.slice ka1 kn1 kc1) /\ W.cell? ⟨g,off + 4,none⟩ = some (.int .i64 h.pl)) (by kernel_rfl) ?_
 refine wpAnyY_takeD (i:=0) 111 (v:=.pointer (some ⟨b,0,none⟩)) rfl rfl (by kernel_rfl) (by kernel_rfl) (late_of (by kernel_rfl)) (by kernel_rfl) (by kernel_rfl) (fun _ _ _ h=>h) HS0.out (Or.inl ⟨by rfl,by (intro W hW; obtain ⟨_,_,_,_,_,_⟩:=hW; go_simp)⟩) ?_
 simp only [Act.put,lA,lB,lC]
 refine wpAnyY_takeD (i:=1) 112 (v:=.pointer (some ⟨w.heap.size,2,none⟩)) rfl rfl (by kernel_rfl) (by kernel_rfl) (late_of (by kernel_rfl)) (by kernel_rfl) (by kernel_rfl) (fun _ _ _ h=>h) HS0.out (Or.inl ⟨by rfl,by (intro W hW; obtain ⟨_,_,_,_,_,_⟩:=hW; go_simp)⟩) ?_
 simp only [Act.put,lA,lB,lC]
 refine wpAnyY_takeD (i:=2) 113 (v:=.slice (some ⟨g,off,none⟩) 1 kc) rfl rfl (by kernel_rfl) (by kernel_rfl) (late_of (by kernel_rfl)) (by kernel_rfl) (by kernel_rfl) (fun _ _ _ h=>h) HS0.out (Or.inl ⟨by rfl,by (intro W hW; obtain ⟨_,_,_,_,_,_⟩:=hW; go_simp)⟩) ?_
 simp only [Act.put,lA,lB,lC]
 refine wpAnyY_takeD (i:=3) 114 (v:=.pointer (some ⟨g,off,none⟩)) rfl rfl (by kernel_rfl) (by kernel_rfl) (late_of (by kernel_rfl)) (by kernel_rfl) (by kernel_rfl) (fun _ _ _ h=>h) HS0.out (Or.inl ⟨by rfl,by (intro W hW; obtain ⟨_,_,_,_,_,_⟩:=hW; go_simp)⟩) ?_
 simp only [Act.put,lA,lB,lC]
 refine wpAnyY_takeD (i:=4) 115 (v:=.agg #[.int .i64 h.kind,.int .i64 h.num,.string (bs h.text),.slice ka1 kn1 kc1,.int .i64 h.pl]) rfl rfl (by kernel_rfl) (by kernel_rfl) (late_of (by kernel_rfl)) (by kernel_rfl) (by kernel_rfl) (fun _ _ _ h=>h) HS0.out (Or.inl ⟨by rfl,by (intro W hW; obtain ⟨_,_,_,_,_,_⟩:=hW; go_simp)⟩) ?_
 simp only [Act.put,lA,lB,lC]
 refine wpAnyY_takeD (i:=5) 116 (v:=.pointer (some ⟨b,0,none⟩)) rfl rfl (by kernel_rfl) (by kernel_rfl) (late_of (by kernel_rfl)) (by kernel_rfl) (by kernel_rfl) (fun _ _ _ h=>h) HS0.out (Or.inl ⟨by rfl,by (intro W hW; obtain ⟨_,_,_,_,_,_⟩:=hW; go_simp)⟩) ?_
 simp only [Act.put,lA,lB,lC]
 refine wpAnyY_takeD (i:=6) 117 (v:=.pointer (some ⟨b,0,none⟩)) rfl rfl (by kernel_rfl) (by kernel_rfl) (late_of (by kernel_rfl)) (by kernel_rfl) (by kernel_rfl) (fun _ _ _ h=>h) HS0.out (Or.inl ⟨by rfl,by (intro W hW; obtain ⟨_,_,_,_,_,_⟩:=hW; go_simp)⟩) ?_
 simp only [Act.put,lA,lB,lC]
 refine wpAnyY_takeD (i:=7) 118 (v:=.pointer (some ⟨b,26,none⟩)) rfl rfl (by kernel_rfl) (by kernel_rfl) (late_of (by kernel_rfl)) (by kernel_rfl) (by kernel_rfl) (fun _ _ _ h=>h) HS0.out (Or.inl ⟨by rfl,by (intro W hW; obtain ⟨_,_,_,_,_,_⟩:=hW; go_simp)⟩) ?_
 simp only [Act.put,lA,lB,lC]
 refine wpAnyY_one (i:=8) rfl (by kernel_rfl) (fun K hK=>?_)
 refine call57_step rfl rfl rfl rfl rfl rfl ?_
 refine (HC.out _ _ _ HL6.out).mono ?_
 intro e V2 hp
 obtain ⟨f1,f2,hff⟩:∃ f1 f2,faultOf r = (f1,f2):=⟨_,_,rfl⟩
 have hRl:=HL6.out.loc (w.heap.size + 1,flL (0,0),42) (by simp)
 have hl:=hRl.1.fr (O':=O1) hp.val.2 (fun g hg=>.inl hg)
 have hv:=hp.val.1
 rw [hff] at hv
 have HF:Hid (∀ u v,TPost O b w r e ((V2.setCell ⟨w.heap.size + 1,0,none⟩ u).setCell ⟨w.heap.size + 1,1,none⟩ v)):=fun u v=>hp.lift HL6.out.fr HL6.out.new hRl.1.off hRl.2 hRl.1.lt u v
 refine ⟨_,hv,?_⟩
 subst hv
 refine hK.out _ _ (fun hh=>absurd hh (by decide)) ?_
 clear hK K HL6 HS0 HC HSS hff hp hRl
 simp only [Act.put,lA,lB,lC]
 refine wpAnyY_one (i:=9) rfl (by kernel_rfl) (fun K hK=>?_)
 refine store32_step rfl rfl rfl rfl rfl hl.heap ?_
 intro V3 hV
 have HF3:Hid (TPost O b w r (.returned (.agg #[.int .i64 f1,.int .i64 f2])) V3):=by rw [hV]; exact HF.out _ _
 have hl3:V3.heap[w.heap.size + 1]? = some (.cells #[.int .i64 f1,.int .i64 f2] 42 (0,0)):=by rw [hV]; exact ((hl.put 0 (.int .i64 f1)).put 1 (.int .i64 f2)).heap
 refine hK.out _ _ (fun hh=>absurd hh (by decide)) ?_
 clear hK K HF hl hV
 have z0:V3.cell? ⟨w.heap.size + 1,0,none⟩ = some (.int .i64 f1):=blk hl3 rfl
 have z1:V3.cell? ⟨w.heap.size + 1,1,none⟩ = some (.int .i64 f2):=blk hl3 rfl
 clear hl3
 refine wpAnyY_done (by kernel_rfl) ?_ _
 go_wp2
 refine bodyPost_ret (v:=flV (f1,f2)) ?_ rfl ?_
 ·simp only [results,hres]
  unfold flV
  simp only
  go_simp
 ·show TPost _ _ _ _ _ _
  exact HF3.out
end Go.Proofs.YtidmjjalpbbfkaaGreat
namespace Go.Proofs.YtidmjjalpbbfkaaGreat
open Go.RowKit Go.Deep Go.Maps
set_option maxRecDepth 20000
set_option maxHeartbeats 4000000
theorem take_2 {B:Nat} {O:Nat -> Prop} {b:Nat} {s:Sl} {c:Ck} (i:It) (ka:Option Addr) (kc:Nat) (w:World) (hck:CkAt O b s c w) (hok:CkOk c) (hlow:∀ g,O g -> B <= g) (hB:B <= w.heap.size) (hF:FoAt false (fun g=>g < B) w i.args ka 1) (hof:okF i.args) (hn:i.name.length <= maxLen) (hk:i.kind = 2) (htw:twiceB { c with pl:=i.pl } i = false) :
 Calls Tryz.prog 42 #[.pointer (some ⟨b,0,none⟩),itV i ka 1 kc] w (TPost O b w (alphabetB ({ c with pl:=i.pl,had:=putHad c.had 2 }) (arg1 i.args))):=by
 have hres:Tryz.f42.results = #[.cell 4 42]:=by kernel_rfl
 obtain ⟨g,off,h,k,ka1,kn1,kc1,rfl,ha1,hr1,hat⟩:=one_arg hF (by omega) hof
 rw [ha1]
 have hS1:LS w O (fun g=>O g /\ g < w.heap.size) b s s (some c) [(w.heap.size + 1,flL (0,0),42),(w.heap.size,[.int .i64 2,.string (bs i.name),.slice (some ⟨g,off,none⟩) 1 kc,.int .i64 i.pl],92)] ((w.alloc (.cells #[.int .i64 2,.string (bs i.name),.slice (some ⟨g,off,none⟩) 1 kc,.int .i64 i.pl] 92)).alloc (.cells #[.int .i64 0,.int .i64 0] 42)):=by
  have:=LS.startI hck hok i (some ⟨g,off,none⟩) 1 kc
  unfold itL at this
  rw [hk] at this
  exact this
 have hmem:∀ W,Fr O w W -> ∀ q,q < w.heap.size -> q < B -> W.heap[q]? = w.heap[q]?:=fun W hf q hq hqB=>hf.block q hq (fun ho=>by have:=hlow q ho; omega)
 obtain ⟨r,hr⟩:∃ r,r = alphabetB ({ c with pl:=i.pl,had:=putHad c.had 2 }) (h,k):=⟨_,rfl⟩
 rw [<- hr]
 have HC:Hid (∀ O' s' W,LS w O O' b s s' (some { c with pl:=i.pl,had:=putHad c.had 2 }) [(w.heap.size + 1,flL (0,0),42),(w.heap.size,[.int .i64 2,.string (bs i.name),.slice (some ⟨g,off,none⟩) 1 kc,.int .i64 i.pl],92)] W -> Calls Tryz.prog 69 #[.pointer (some ⟨b,0,none⟩),.agg #[.int .i64 h.kind,.int .i64 h.num,.string (bs h.text),.slice ka1 kn1 kc1,.int .i64 h.pl]] W (TPost O' b W r)):=by
  intro O' s' W hL
  have hlow':∀ g,O' g -> B <= g:=fun q hq=>by rcases hL.new q hq with h1 | h1; exact hlow q h1; omega
  obtain ⟨hE,-⟩:=hat W (hmem W hL.fr)
  have hB':=Nat.le_trans hB hL.fr.size
  obtain ⟨k1,k2',k3⟩:=hL.ck _ rfl
  rw [hr]
  exact alphabet_calls h k ka1 kn1 kc1 W k1 k2' hlow' hB' hE hr1
 have HTW:Hid (∀ O' s' L W,LS w O O' b s s' (some { c with pl:=i.pl }) L W -> Calls Tryz.prog 66 #[.pointer (some ⟨b,0,none⟩),.agg #[.int .i64 2,.string (bs i.name),.slice (some ⟨g,off,none⟩) 1 kc,.int .i64 i.pl]] W fun e w'=>e = .returned (.bool false) /\ Hid (LS w O O' b s s' (some { c with pl:=i.pl }) L w')):=fun O' s' L W hL=>by
  have:=hL.twice i (some ⟨g,off,none⟩) 1 kc (by omega) (by omega) hn
  rw [htw] at this
  unfold itV at this
  rw [hk] at this
  exact this
 have HSS:Hid (∀ O' s' oc W,LS w O O' b s s' oc [(w.heap.size + 1,flL (0,0),42),(w.heap.size,[.int .i64 2,.string (bs i.name),.slice (some ⟨g,off,none⟩) 1 kc,.int .i64 i.pl],92)] W -> W.cell? ⟨w.heap.size,2,none⟩ = some (.slice (some ⟨g,off,none⟩) 1 kc) /\ W.cell? ⟨g,off,none⟩ = some (.int .i64 h.kind) /\ W.cell? ⟨g,off + 1,none⟩ = some (.int .i64 h.num) /\ W.cell? ⟨g,off + 2,none⟩ = some (.string (bs h.text)) /\ W.cell? ⟨g,off + 3,none⟩ = some (.slice ka1 kn1 kc1) /\ W.cell? ⟨g,off + 4,none⟩ = some (.int .i64 h.pl)):=fun O' s' oc W hL=>⟨hL.at (g:=w.heap.size) (cs:=[.int .i64 2,.string (bs i.name),.slice (some ⟨g,off,none⟩) 1 kc,.int .i64 i.pl]) (ty:=92) (by simp) rfl,(hat W (hmem W hL.fr)).2⟩
 have HOK:Hid (CkOk { c with pl:=i.pl } /\ CkOk { c with pl:=i.pl,had:=putHad c.had 2 }):=⟨hok.pl i.pl,hok.had i.pl _⟩
 generalize hO1:(fun g=>O g /\ g < w.heap.size) = O1 at hS1
 clear hO1 hck hok hlow hB hF hof hn htw hmem hat hr ha1 hr1
 unfold itV
 rw [hk]
 clear hk
 have HS1:Hid (LS w O O1 b s s (some c) [(w.heap.size + 1,flL (0,0),42),(w.heap.size,[.int .i64 2,.string (bs i.name),.slice (some ⟨g,off,none⟩) 1 kc,.int .i64 i.pl],92)] ((w.alloc (.cells #[.int .i64 2,.string (bs i.name),.slice (some ⟨g,off,none⟩) 1 kc,.int .i64 i.pl] 92)).alloc (.cells #[.int .i64 0,.int .i64 0] 42))):=hS1
 clear hS1
 go_enter Tryz.func42,Tryz.ntmps42
 go_upto_region 1 with (fail)
 generalize ((w.alloc (.cells #[.int .i64 2,.string (bs i.name),.slice (some ⟨g,off,none⟩) 1 kc,.int .i64 i.pl] 92)).alloc (.cells #[.int .i64 0,.int .i64 0] 42)) = w1 at *
 have x3:w1.cell? ⟨w.heap.size,3,none⟩ = some (.int .i64 i.pl):=HS1.out.at (g:=w.heap.size) (cs:=[.int .i64 2,.string (bs i.name),.slice (some ⟨g,off,none⟩) 1 kc,.int .i64 i.pl]) (ty:=92) (by simp) rfl
 have b24:w1.cell? ⟨b,24,none⟩ = some (.int .i64 c.pl):=(HS1.out.ck _ rfl).1.c24
 have bf:w1.frozen? ⟨b,24,none⟩ = false:=(HS1.out.ck _ rfl).1.fz 24
 have HS2:Hid (LS w O O1 b s s (some { c with pl:=i.pl }) [(w.heap.size + 1,flL (0,0),42),(w.heap.size,[.int .i64 2,.string (bs i.name),.slice (some ⟨g,off,none⟩) 1 kc,.int .i64 i.pl],92)] (w1.setCell ⟨b,24,none⟩ (.int .i64 i.pl))):=HS1.out.putB rfl rfl rfl rfl rfl rfl HOK.out.1
 go_upto_region 2 with (fail)
 clear x3 b24 bf HS1
 generalize w1.setCell ⟨b,24,none⟩ (.int .i64 i.pl) = w2 at *
 have x0:w2.cell? ⟨w.heap.size,0,none⟩ = some (.int .i64 2):=HS2.out.at (g:=w.heap.size) (cs:=[.int .i64 2,.string (bs i.name),.slice (some ⟨g,off,none⟩) 1 kc,.int .i64 i.pl]) (ty:=92) (by simp) rfl
 have x1:w2.cell? ⟨w.heap.size,1,none⟩ = some (.string (bs i.name)):=HS2.out.at (g:=w.heap.size) (cs:=[.int .i64 2,.string (bs i.name),.slice (some ⟨g,off,none⟩) 1 kc,.int .i64 i.pl]) (ty:=92) (by simp) rfl
 have x2:w2.cell? ⟨w.heap.size,2,none⟩ = some (.slice (some ⟨g,off,none⟩) 1 kc):=HS2.out.at (g:=w.heap.size) (cs:=[.int .i64 2,.string (bs i.name),.slice (some ⟨g,off,none⟩) 1 kc,.int .i64 i.pl]) (ty:=92) (by simp) rfl
 have x3:w2.cell? ⟨w.heap.size,3,none⟩ = some (.int .i64 i.pl):=HS2.out.at (g:=w.heap.size) (cs:=[.int .i64 2,.string (bs i.name),.slice (some ⟨g,off,none⟩) 1 kc,.int .i64 i.pl]) (ty:=92) (by simp) rfl
 go_wp2_with (go_at_call 66; refine (HTW.out _ _ _ _ HS2.out).mono ?_; rintro e w3 ⟨rfl,HS3⟩)
 clear x0 x1 x2 x3 HS2 HTW
 have HL4:Hid (LS w O O1 b s s (some { c with pl:=i.pl }) [(w.heap.size + 1,flL (0,0),42),(w.heap.size,[.int .i64 2,.string (bs i.name),.slice (some ⟨g,off,none⟩) 1 kc,.int .i64 i.pl],92)] w3.drew):=HS3.out.drew
 have HS0:Hid (w3.drew.cell? ⟨w.heap.size,0,none⟩ = some (.int .i64 2)):=HL4.out.at (g:=w.heap.size) (cs:=[.int .i64 2,.string (bs i.name),.slice (some ⟨g,off,none⟩) 1 kc,.int .i64 i.pl]) (ty:=92) (by simp) rfl
 clear HS3
 refine wp_region_Y (fun j=>[6].contains j) (fun W=>W.cell? ⟨w.heap.size,0,none⟩ = some (.int .i64 2)) (by kernel_rfl) ?_
 refine wpAnyY_takeD (i:=0) 15 (v:=.pointer (some ⟨b,0,none⟩)) rfl rfl (by kernel_rfl) (by kernel_rfl) (late_of (by kernel_rfl)) (by kernel_rfl) (by kernel_rfl) (fun _ _ _ h=>h) HS0.out (Or.inl ⟨by rfl,by (intro W hW; go_simp)⟩) ?_
 simp only [Act.put,lA,lB,lC]
 refine wpAnyY_takeD (i:=1) 16 (v:=.pointer (some ⟨w.heap.size,0,none⟩)) rfl rfl (by kernel_rfl) (by kernel_rfl) (late_of (by kernel_rfl)) (by kernel_rfl) (by kernel_rfl) (fun _ _ _ h=>h) HS0.out (Or.inl ⟨by rfl,by (intro W hW; go_simp)⟩) ?_
 simp only [Act.put,lA,lB,lC]
 refine wpAnyY_takeD (i:=2) 17 (v:=.int .i64 2) rfl rfl (by kernel_rfl) (by kernel_rfl) (late_of (by kernel_rfl)) (by kernel_rfl) (by kernel_rfl) (fun _ _ _ h=>h) HS0.out (Or.inl ⟨by rfl,by (intro W hW; go_simp)⟩) ?_
 simp only [Act.put,lA,lB,lC]
 refine wpAnyY_takeD (i:=3) 18 (v:=.pointer (some ⟨b,0,none⟩)) rfl rfl (by kernel_rfl) (by kernel_rfl) (late_of (by kernel_rfl)) (by kernel_rfl) (by kernel_rfl) (fun _ _ _ h=>h) HS0.out (Or.inl ⟨by rfl,by (intro W hW; go_simp)⟩) ?_
 simp only [Act.put,lA,lB,lC]
 refine wpAnyY_takeD (i:=4) 19 (v:=.pointer (some ⟨b,13,none⟩)) rfl rfl (by kernel_rfl) (by kernel_rfl) (late_of (by kernel_rfl)) (by kernel_rfl) (by kernel_rfl) (fun _ _ _ h=>h) HS0.out (Or.inl ⟨by rfl,by (intro W hW; go_simp)⟩) ?_
 simp only [Act.put,lA,lB,lC]
 refine wpAnyY_takeD (i:=5) 20 (v:=.pointer (some ⟨b,15,none⟩)) rfl rfl (by kernel_rfl) (by kernel_rfl) (late_of (by kernel_rfl)) (by kernel_rfl) (by kernel_rfl) (fun _ _ _ h=>h) HS0.out (Or.inl ⟨by rfl,by (intro W hW; go_simp)⟩) ?_
 simp only [Act.put,lA,lB,lC]
 refine wpAnyY_one (i:=6) rfl (by kernel_rfl) (fun K hK=>?_)
 refine storeB_step rfl rfl rfl rfl ((HL4.out.ck _ rfl).1.hadk (k:=2) (by omega)) ((HL4.out.ck _ rfl).1.fz 15) ?_
 intro V hV
 have HL5:Hid (LS w O O1 b s s (some { c with pl:=i.pl,had:=putHad c.had 2 }) [(w.heap.size + 1,flL (0,0),42),(w.heap.size,[.int .i64 2,.string (bs i.name),.slice (some ⟨g,off,none⟩) 1 kc,.int .i64 i.pl],92)] V):=by subst hV; exact HL4.out.putB rfl rfl rfl rfl rfl rfl HOK.out.2
 refine hK.out _ _ (fun hh=>absurd hh (by decide)) ?_
 clear hK K HL4 HS0 hV HOK
 refine wpAnyY_done (by kernel_rfl) ?_ _
 have x0:V.cell? ⟨w.heap.size,0,none⟩ = some (.int .i64 2):=HL5.out.at (g:=w.heap.size) (cs:=[.int .i64 2,.string (bs i.name),.slice (some ⟨g,off,none⟩) 1 kc,.int .i64 i.pl]) (ty:=92) (by simp) rfl
 obtain ⟨f1,f2,hff⟩:∃ f1 f2,faultOf r = (f1,f2):=⟨_,_,rfl⟩
 have HCC:Hid (Calls Tryz.prog 69 #[.pointer (some ⟨b,0,none⟩),.agg #[.int .i64 h.kind,.int .i64 h.num,.string (bs h.text),.slice ka1 kn1 kc1,.int .i64 h.pl]] V fun e V2=>e = .returned (.agg #[.int .i64 f1,.int .i64 f2]) /\ V2.cell? ⟨w.heap.size + 1,0,none⟩ = some (.int .i64 0) /\ V2.cell? ⟨w.heap.size + 1,1,none⟩ = some (.int .i64 0) /\ (∀ i,V2.frozen? ⟨w.heap.size + 1,i,none⟩ = false) /\ Hid (∀ u v,TPost O b w r e ((V2.setCell ⟨w.heap.size + 1,0,none⟩ u).setCell ⟨w.heap.size + 1,1,none⟩ v))):=by
  refine (HC.out _ _ _ HL5.out).mono ?_
  intro e V2 hp
  have hRl:=HL5.out.loc (w.heap.size + 1,flL (0,0),42) (by simp)
  have hl:=hRl.1.fr (O':=O1) hp.val.2 (fun g hg=>.inl hg)
  have hv:=hp.val.1
  rw [hff] at hv
  exact ⟨hv,hl.cell rfl,hl.cell rfl,fun i=>hl.fz i,fun u v=>hp.lift HL5.out.fr HL5.out.new hRl.1.off hRl.2 hRl.1.lt u v⟩
 obtain ⟨q0,q1,q2,q3,q4,q5⟩:=HSS.out _ _ _ _ HL5.out
 clear HC HSS HL5 hff
 go_wp2_with (go_at_call 69; refine HCC.out.mono ?_; rintro e V2 ⟨rfl,z0,z1,zf,HF⟩)
 refine bodyPost_ret (v:=flV (f1,f2)) ?_ rfl ?_
 ·simp only [results,hres]
  unfold flV
  simp only
  go_simp
 ·show TPost _ _ _ _ _ _
  exact HF.out _ _
end Go.Proofs.YtidmjjalpbbfkaaGreat
