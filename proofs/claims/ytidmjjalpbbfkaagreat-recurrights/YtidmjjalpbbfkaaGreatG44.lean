/-
  One item more: the way, and all kinds together: take. What no item has said is filled in: end. What lay leaves where there are too many: the checker stands as it was.
-/
import Derived.Test.YtidmjjalpbbfkaaGreatG43
import Derived.Test.YtidmjjalpbbfkaaGreatG30
import Derived.Test.YtidmjjalpbbfkaaGreatG42
namespace Go.Proofs.YtidmjjalpbbfkaaGreat
open Go.RowKit Go.Deep Go.Maps
set_option maxRecDepth 20000
set_option maxHeartbeats 4000000
theorem take_7 {O:Nat -> Prop} {b:Nat} {s:Sl} {c:Ck} (i:It) (ka:Option Addr) (kn kc:Nat) (w:World) (hck:CkAt O b s c w) (hok:CkOk c) (hn:i.name.length <= maxLen) (hk:i.kind = 7) (htw:twiceB { c with pl:=i.pl } i = false) :
 Calls Tryz.prog 42 #[.pointer (some ⟨b,0,none⟩),itV i ka kn kc] w (TPost O b w (.ok { c with pl:=i.pl,had:=putHad c.had 7,mode:=modeB i.name })):=by
 have hres:Tryz.f42.results = #[.cell 4 42]:=by kernel_rfl
 have hS1:LS w O (fun g=>O g /\ g < w.heap.size) b s s (some c) [(w.heap.size + 1,flL (0,0),42),(w.heap.size,[.int .i64 7,.string (bs i.name),.slice ka kn kc,.int .i64 i.pl],92)] ((w.alloc (.cells #[.int .i64 7,.string (bs i.name),.slice ka kn kc,.int .i64 i.pl] 92)).alloc (.cells #[.int .i64 0,.int .i64 0] 42)):=by
  have:=LS.startI hck hok i ka kn kc
  unfold itL at this
  rw [hk] at this
  exact this
 have HTW:Hid (∀ O' s' L W,LS w O O' b s s' (some { c with pl:=i.pl }) L W -> Calls Tryz.prog 66 #[.pointer (some ⟨b,0,none⟩),.agg #[.int .i64 7,.string (bs i.name),.slice ka kn kc,.int .i64 i.pl]] W fun e w'=>e = .returned (.bool false) /\ Hid (LS w O O' b s s' (some { c with pl:=i.pl }) L w')):=fun O' s' L W hL=>by
  have:=hL.twice i ka kn kc (by omega) (by omega) hn
  rw [htw] at this
  unfold itV at this
  rw [hk] at this
  exact this
 have HOK:Hid (CkOk { c with pl:=i.pl } /\ CkOk { c with pl:=i.pl,had:=putHad c.had 7 }):=⟨hok.pl i.pl,hok.had i.pl _⟩
 have HMD:Hid (∀ W,Calls Tryz.prog 72 #[.string (bs i.name)] W fun e w'=>e = .returned (.int .i64 (modeB i.name)) /\ w' = W):=fun W=>modeOf_calls i.name W
 obtain ⟨md,hmd⟩:∃ md,md = modeB i.name:=⟨_,rfl⟩
 rw [<- hmd] at HMD ⊢
 generalize hO1:(fun g=>O g /\ g < w.heap.size) = O1 at hS1
 clear hO1 hck hok hn htw hmd
 unfold itV
 rw [hk]
 clear hk
 have HS1:Hid (LS w O O1 b s s (some c) [(w.heap.size + 1,flL (0,0),42),(w.heap.size,[.int .i64 7,.string (bs i.name),.slice ka kn kc,.int .i64 i.pl],92)] ((w.alloc (.cells #[.int .i64 7,.string (bs i.name),.slice ka kn kc,.int .i64 i.pl] 92)).alloc (.cells #[.int .i64 0,.int .i64 0] 42))):=hS1
 clear hS1
 go_enter Tryz.func42,Tryz.ntmps42
 go_upto_region 1 with (fail)
 generalize ((w.alloc (.cells #[.int .i64 7,.string (bs i.name),.slice ka kn kc,.int .i64 i.pl] 92)).alloc (.cells #[.int .i64 0,.int .i64 0] 42)) = w1 at *
 have x3:w1.cell? ⟨w.heap.size,3,none⟩ = some (.int .i64 i.pl):=HS1.out.at (g:=w.heap.size) (cs:=[.int .i64 7,.string (bs i.name),.slice ka kn kc,.int .i64 i.pl]) (ty:=92) (by simp) rfl
 have b24:w1.cell? ⟨b,24,none⟩ = some (.int .i64 c.pl):=(HS1.out.ck _ rfl).1.c24
 have bf:w1.frozen? ⟨b,24,none⟩ = false:=(HS1.out.ck _ rfl).1.fz 24
 have HS2:Hid (LS w O O1 b s s (some { c with pl:=i.pl }) [(w.heap.size + 1,flL (0,0),42),(w.heap.size,[.int .i64 7,.string (bs i.name),.slice ka kn kc,.int .i64 i.pl],92)] (w1.setCell ⟨b,24,none⟩ (.int .i64 i.pl))):=HS1.out.putB rfl rfl rfl rfl rfl rfl HOK.out.1
 go_upto_region 2 with (fail)
 clear x3 b24 bf HS1
 generalize w1.setCell ⟨b,24,none⟩ (.int .i64 i.pl) = w2 at *
 have x0:w2.cell? ⟨w.heap.size,0,none⟩ = some (.int .i64 7):=HS2.out.at (g:=w.heap.size) (cs:=[.int .i64 7,.string (bs i.name),.slice ka kn kc,.int .i64 i.pl]) (ty:=92) (by simp) rfl
 have x1:w2.cell? ⟨w.heap.size,1,none⟩ = some (.string (bs i.name)):=HS2.out.at (g:=w.heap.size) (cs:=[.int .i64 7,.string (bs i.name),.slice ka kn kc,.int .i64 i.pl]) (ty:=92) (by simp) rfl
 have x2:w2.cell? ⟨w.heap.size,2,none⟩ = some (.slice ka kn kc):=HS2.out.at (g:=w.heap.size) (cs:=[.int .i64 7,.string (bs i.name),.slice ka kn kc,.int .i64 i.pl]) (ty:=92) (by simp) rfl
 have x3:w2.cell? ⟨w.heap.size,3,none⟩ = some (.int .i64 i.pl):=HS2.out.at (g:=w.heap.size) (cs:=[.int .i64 7,.string (bs i.name),.slice ka kn kc,.int .i64 i.pl]) (ty:=92) (by simp) rfl
 go_wp2_with (go_at_call 66; refine (HTW.out _ _ _ _ HS2.out).mono ?_; rintro e w3 ⟨rfl,HS3⟩)
 clear x0 x1 x2 x3 HS2 HTW
 have HL4:Hid (LS w O O1 b s s (some { c with pl:=i.pl }) [(w.heap.size + 1,flL (0,0),42),(w.heap.size,[.int .i64 7,.string (bs i.name),.slice ka kn kc,.int .i64 i.pl],92)] w3.drew):=HS3.out.drew
 have HS0:Hid (w3.drew.cell? ⟨w.heap.size,0,none⟩ = some (.int .i64 7)):=HL4.out.at (g:=w.heap.size) (cs:=[.int .i64 7,.string (bs i.name),.slice ka kn kc,.int .i64 i.pl]) (ty:=92) (by simp) rfl
 clear HS3
 refine wp_region_Y (fun j=>[6].contains j) (fun W=>W.cell? ⟨w.heap.size,0,none⟩ = some (.int .i64 7)) (by kernel_rfl) ?_
 refine wpAnyY_takeD (i:=0) 15 (v:=.pointer (some ⟨b,0,none⟩)) rfl rfl (by kernel_rfl) (by kernel_rfl) (late_of (by kernel_rfl)) (by kernel_rfl) (by kernel_rfl) (fun _ _ _ h=>h) HS0.out (Or.inl ⟨by rfl,by (intro W hW; go_simp)⟩) ?_
 simp only [Act.put,lA,lB,lC]
 refine wpAnyY_takeD (i:=1) 16 (v:=.pointer (some ⟨w.heap.size,0,none⟩)) rfl rfl (by kernel_rfl) (by kernel_rfl) (late_of (by kernel_rfl)) (by kernel_rfl) (by kernel_rfl) (fun _ _ _ h=>h) HS0.out (Or.inl ⟨by rfl,by (intro W hW; go_simp)⟩) ?_
 simp only [Act.put,lA,lB,lC]
 refine wpAnyY_takeD (i:=2) 17 (v:=.int .i64 7) rfl rfl (by kernel_rfl) (by kernel_rfl) (late_of (by kernel_rfl)) (by kernel_rfl) (by kernel_rfl) (fun _ _ _ h=>h) HS0.out (Or.inl ⟨by rfl,by (intro W hW; go_simp)⟩) ?_
 simp only [Act.put,lA,lB,lC]
 refine wpAnyY_takeD (i:=3) 18 (v:=.pointer (some ⟨b,0,none⟩)) rfl rfl (by kernel_rfl) (by kernel_rfl) (late_of (by kernel_rfl)) (by kernel_rfl) (by kernel_rfl) (fun _ _ _ h=>h) HS0.out (Or.inl ⟨by rfl,by (intro W hW; go_simp)⟩) ?_
 simp only [Act.put,lA,lB,lC]
 refine wpAnyY_takeD (i:=4) 19 (v:=.pointer (some ⟨b,13,none⟩)) rfl rfl (by kernel_rfl) (by kernel_rfl) (late_of (by kernel_rfl)) (by kernel_rfl) (by kernel_rfl) (fun _ _ _ h=>h) HS0.out (Or.inl ⟨by rfl,by (intro W hW; go_simp)⟩) ?_
 simp only [Act.put,lA,lB,lC]
 refine wpAnyY_takeD (i:=5) 20 (v:=.pointer (some ⟨b,20,none⟩)) rfl rfl (by kernel_rfl) (by kernel_rfl) (late_of (by kernel_rfl)) (by kernel_rfl) (by kernel_rfl) (fun _ _ _ h=>h) HS0.out (Or.inl ⟨by rfl,by (intro W hW; go_simp)⟩) ?_
 simp only [Act.put,lA,lB,lC]
 refine wpAnyY_one (i:=6) rfl (by kernel_rfl) (fun K hK=>?_)
 refine storeB_step rfl rfl rfl rfl ((HL4.out.ck _ rfl).1.hadk (k:=7) (by omega)) ((HL4.out.ck _ rfl).1.fz 20) ?_
 intro V hV
 have HL5:Hid (LS w O O1 b s s (some { c with pl:=i.pl,had:=putHad c.had 7 }) [(w.heap.size + 1,flL (0,0),42),(w.heap.size,[.int .i64 7,.string (bs i.name),.slice ka kn kc,.int .i64 i.pl],92)] V):=by subst hV; exact HL4.out.putB rfl rfl rfl rfl rfl rfl HOK.out.2
 refine hK.out _ _ (fun hh=>absurd hh (by decide)) ?_
 clear hK K HL4 HS0 hV
 refine wpAnyY_done (by kernel_rfl) ?_ _
 have x0:V.cell? ⟨w.heap.size,0,none⟩ = some (.int .i64 7):=HL5.out.at (g:=w.heap.size) (cs:=[.int .i64 7,.string (bs i.name),.slice ka kn kc,.int .i64 i.pl]) (ty:=92) (by simp) rfl
 have x1:V.cell? ⟨w.heap.size,1,none⟩ = some (.string (bs i.name)):=HL5.out.at (g:=w.heap.size) (cs:=[.int .i64 7,.string (bs i.name),.slice ka kn kc,.int .i64 i.pl]) (ty:=92) (by simp) rfl
 have b4:V.cell? ⟨b,4,none⟩ = some (.int .i64 c.mode):=(HL5.out.ck _ rfl).1.c4
 have bf:V.frozen? ⟨b,4,none⟩ = false:=(HL5.out.ck _ rfl).1.fz 4
 have HL6:Hid (LS w O O1 b s s (some { c with pl:=i.pl,had:=putHad c.had 7,mode:=md }) [(w.heap.size + 1,flL (0,0),42),(w.heap.size,[.int .i64 7,.string (bs i.name),.slice ka kn kc,.int .i64 i.pl],92)] (V.setCell ⟨b,4,none⟩ (.int .i64 md))):=HL5.out.putB rfl rfl rfl rfl rfl rfl ⟨HOK.out.2.vals,HOK.out.2.same,HOK.out.2.few,HOK.out.2.names,HOK.out.2.alpha,HOK.out.2.sub,HOK.out.2.pcs⟩
 clear HL5 HOK
 go_upto_region 26 with (go_at_call 72; refine (HMD.out _).mono ?_; rintro e w4 ⟨rfl,hw4⟩; subst w4)
 clear x0 x1 b4 bf
 generalize V.setCell ⟨b,4,none⟩ (.int .i64 md) = V4 at *
 have z0:V4.cell? ⟨w.heap.size + 1,0,none⟩ = some (.int .i64 0):=HL6.out.at (g:=w.heap.size + 1) (cs:=flL (0,0)) (ty:=42) (by simp) rfl
 have z1:V4.cell? ⟨w.heap.size + 1,1,none⟩ = some (.int .i64 0):=HL6.out.at (g:=w.heap.size + 1) (cs:=flL (0,0)) (ty:=42) (by simp) rfl
 have zf:∀ i,V4.frozen? ⟨w.heap.size + 1,i,none⟩ = false:=fun i=>HL6.out.fz (g:=w.heap.size + 1) (cs:=flL (0,0)) (ty:=42) (by simp) i
 go_wp2
 refine bodyPost_ret (v:=flV (0,0)) ?_ rfl ?_
 ·simp only [results,hres]
  unfold flV
  simp only
  go_simp
 ·show TPost _ _ _ _ _ _
  have hoff:=(HL6.out.loc (w.heap.size + 1,flL (0,0),42) (by simp)).1.off
  exact ⟨rfl,(HL6.out.fr.setCell (.inr (by omega)) _ _).setCell (.inr (by omega)) _ _,O1,s,HL6.out.new,ck_set (ck_set (HL6.out.ck _ rfl).1 hoff _ _) hoff _ _⟩
/-- An item of letters, of one score, of a gap, of a way: with numbers and texts alone. -/
def itSim (i:It):Bool:=itRight i && (simF i.args && (decide (i.kind = 2) || (decide (i.kind = 3) || (decide (i.kind = 4) || (decide (i.kind = 6) || decide (i.kind = 7))))))
theorem take_calls {B:Nat} {O:Nat -> Prop} {b:Nat} {s:Sl} {c c':Ck} (i:It) (ka:Option Addr) (kn kc:Nat) (w:World) (hck:CkAt O b s c w) (hok:CkOk c) (hlow:∀ g,O g -> B <= g) (hB:B <= w.heap.size) (hF:FoAt false (fun g=>g < B) w i.args ka kn) (hn:i.name.length <= maxLen) (hsi:itSim i = true) (hT:takeC c i = .ok c') :
 Calls Tryz.prog 42 #[.pointer (some ⟨b,0,none⟩),itV i ka kn kc] w (TPost O b w (takeC c i)):=by
 have hlen:=foAt_len hF
 unfold itSim at hsi
 simp only [Bool.and_eq_true,Bool.or_eq_true,decide_eq_true_eq] at hsi
 obtain ⟨hri,hsf,hk⟩:=hsi
 unfold takeC at hT ⊢
 cases htw:twiceB { c with pl:=i.pl } i with
 | true=>rw [htw,if_pos rfl] at hT; cases hT
 | false=>
   rw [if_neg (by simp)]
   clear hT
   unfold itRight at hri
   have hof:∀ d,rgtF d i.args = true -> okF i.args:=fun d hd=>⟨d,by rw [hd,hsf]; rfl⟩
   rw [if_neg (by omega)] at hri
   by_cases k7:i.kind = 7
   ·have:=take_7 i ka kn kc w hck hok hn k7 htw
    unfold bodyB
    rw [k7]
    simp only [show ¬ (7:Int) = 1 by decide,show ¬ (7:Int) = 2 by decide,show ¬ (7:Int) = 5 by decide,show ¬ (7:Int) = 6 by decide,if_false,if_true]
    exact this
   rw [if_neg k7] at hri
   by_cases kA:i.kind = 2 \/ i.kind = 3 \/ i.kind = 4 \/ i.kind = 10
   ·rw [if_pos kA] at hri
    simp only [Bool.and_eq_true,decide_eq_true_eq] at hri
    have hk0:kn = 1:=by omega
    subst hk0
    unfold bodyB
    rcases kA with k | k | k | k
    ·have:=take_2 i ka kc w hck hok hlow hB hF (hof _ hri.2.2) hn k htw
     rw [k]; exact this
    ·have:=take_3 i ka kc w hck hok hlow hB hF (hof _ hri.2.2) hn k htw
     rw [k]; exact this
    ·have:=take_4 i ka kc w hck hok hlow hB hF (hof _ hri.2.2) hn k htw
     rw [k]; exact this
    ·omega
   rw [if_neg kA] at hri
   have k6:i.kind = 6:=by omega
   rw [if_pos (by omega)] at hri
   simp only [Bool.and_eq_true,decide_eq_true_eq] at hri
   have hk0:kn = 2:=by omega
   subst hk0
   unfold bodyB
   have:=take_6 i ka kc w hck hok hlow hB hF (hof _ hri.2.2) hn k6 htw
   rw [k6]; exact this
end Go.Proofs.YtidmjjalpbbfkaaGreat
namespace Go.Proofs.YtidmjjalpbbfkaaGreat
open Go.RowKit Go.Deep Go.Maps
theorem LS.startE {b:Nat} {s:Sl} {c:Ck} {w:World} {O:Nat -> Prop} (hck:CkAt O b s c w) (hok:CkOk c) :
 LS w O (fun g=>O g /\ g < w.heap.size) b s s (some c) [(w.heap.size,flL (0,0),42)] (w.alloc (.cells #[.int .i64 0,.int .i64 0] 42)):=(LS.start hck hok).alloc (flL (0,0)) 42
theorem LS.zero {w W:World} {O0 O:Nat -> Prop} {b:Nat} {s0 s:Sl} {c:Ck} {L:List Lo} (h:LS w O0 O b s0 s (some c) L W) (p:Int) (hp:p = c.pl) :
 Calls Tryz.prog 77 #[.pointer (some ⟨b,0,none⟩),.agg #[.int .i64 1,.int .i64 0,.int .i64 0,.int .i64 0],.int .i64 p] W fun e w'=>∃ m f oc O' s',e = .returned (.tuple #[.agg #[.bool m.isText,.string (bs m.text),.int .i64 m.place,.int .i64 m.num],.agg #[.int .i64 f.1,.int .i64 f.2]]) /\ Hid (RQ (zeroB c) m f oc /\ LS w O0 O' b s0 s' oc L w'):=by
 subst hp
 obtain ⟨k1,k2,k3⟩:=h.ck c rfl
 exact h.asks (lay_calls W k1 k2 ⟨1,0,0,0⟩ ⟨by constructor <;> simp,fun h=>by simp at h,fun h=>by simp at h⟩ c.pl) (fun c' m hm=>(layB_ok k2 hm).1)
theorem LS.score {w W:World} {O0 O:Nat -> Prop} {b:Nat} {s0 s:Sl} {c:Ck} {L:List Lo} (h:LS w O0 O b s0 s (some c) L W) (hne:c.letters ≠ []) :
 Calls Tryz.prog 76 #[.pointer (some ⟨b,0,none⟩)] W fun e w'=>e = .returned (.bool (decide (-1 ∉ fillB c))) /\ Hid (∃ O',LS w O0 O' b s0 s (some { c with subst:=fillB c }) L w'):=by
 obtain ⟨k1,k2,k3⟩:=h.ck c rfl
 refine (score_calls W k1 k2 hne).mono ?_
 rintro e w' ⟨rfl,hh⟩
 have hl:=fillB_len c
 refine ⟨rfl,_,h.go (O':=O) hh.out.1 (fun g hg=>.inl hg) (fun c' hc=>?_)⟩
 cases hc
 exact ⟨hh.out.2,⟨k2.vals,k2.same,k2.few,k2.names,fun hx=>by have:=k2.alpha hx; exact ⟨this.1,by show (fillB c).length = _; rw [hl]; exact this.2⟩,by show (fillB c).length <= 400; rw [hl]; exact k2.sub,k2.pcs⟩,k3⟩
end Go.Proofs.YtidmjjalpbbfkaaGreat
namespace Go.Proofs.YtidmjjalpbbfkaaGreat
open Go.RowKit Go.Deep Go.Maps
end Go.Proofs.YtidmjjalpbbfkaaGreat
