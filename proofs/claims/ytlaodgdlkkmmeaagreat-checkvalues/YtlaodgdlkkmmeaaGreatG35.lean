/-
  A text that must be of a kind: asked. Where an item's call stands: the checker, and blocks of the call's own. The number of a letter: code; whether a text is a pair of letters: what pair asks.
-/
import Derived.Deep.QuietTactic
import Derived.BigQuiet
import Derived.Test.YtlaodgdlkkmmeaaGreatCkQ2
import Derived.Test.YtlaodgdlkkmmeaaGreatAlC
namespace Go.Proofs.YtlaodgdlkkmmeaaGreat
open Go.RowKit Go.Deep Go.Maps
open Go.Value renaming int->I,pointer->Φ,string->Ψ,slice->Γ
open Go.IntKind renaming i64->J
open Go.Obj renaming cells->Δ
open Go.Ending renaming returned->Ω
set_option maxRecDepth 20000
set_option maxHeartbeats 4000000
theorem textQ_82 (right:List UInt8 -> Bool) (m:Mn) (g:Nat) (w:World) (hg:w.cell? ⟨g,0,none⟩ = some (.func (.func 82) #[] #[])) (hR:∀ o,m.isText = true -> Calls Tryz.prog 82 #[Ψ (bs m.text)] (w.alloc o) fun e w'=>e = Ω (.bool (right m.text)) /\ Below (w.alloc o).heap.size (w.alloc o) w') :
 Calls Tryz.prog 123 #[mnV m,Φ (some ⟨g,0,none⟩)] w fun e w'=>e = Ω (I J (textQ right m)) /\ Below w.heap.size w w':=by
 have hlt:g < w.heap.size:=World.block_lt_of_cell? w _ hg
 unfold mnV textQ
 obtain ⟨mt,mx,mp,mn⟩:=m
 simp only at hR ⊢
 have HB:Hid (∀ o,Below w.heap.size w (w.alloc o)):=fun o=>(Below.refl _ _).alloc (Nat.le_refl _) o
 generalize hrr:right mx = r at *
 clear hrr
 generalize bs mx = bx at *
 cases mt with
 | false=>
   clear hR
   go_enter Tryz.func123,Tryz.ntmps123
   go_wp2
   go_ret
   exact ⟨rfl,HB.out _⟩
 | true=>
   have HR:Hid (∀ o,Calls Tryz.prog 82 #[Ψ bx] (w.alloc o) fun e w'=>e = Ω (.bool r) /\ Below (w.alloc o).heap.size (w.alloc o) w'):=fun o=>hR o rfl
   clear hR
   cases r with
   | false=>
     go_enter Tryz.func123,Tryz.ntmps123
     go_wp2_with fail
     refine (HR.out _).mono ?_
     rintro e w3 ⟨rfl,hb⟩
     have HB3:Hid (Below w.heap.size w w3):=(HB.out _).trans (hb.mono (by simp))
     clear hb HR HB
     go_wp2
     go_ret
     exact ⟨rfl,HB3.out⟩
   | true=>
     go_enter Tryz.func123,Tryz.ntmps123
     go_wp2_with fail
     refine (HR.out _).mono ?_
     rintro e w3 ⟨rfl,hb⟩
     have HB3:Hid (Below w.heap.size w w3):=(HB.out _).trans (hb.mono (by simp))
     clear hb HR HB
     go_wp2
     go_ret
     exact ⟨rfl,HB3.out⟩
theorem textQ_92 (right:List UInt8 -> Bool) (m:Mn) (g:Nat) (gc:Nat) (w:World) (hg:w.cell? ⟨g,0,none⟩ = some (.func (.func 92) #[] #[Φ (some ⟨gc,0,none⟩)])) (hR:∀ o,m.isText = true -> Calls Tryz.prog 92 #[Ψ (bs m.text),Φ (some ⟨gc,0,none⟩)] (w.alloc o) fun e w'=>e = Ω (.bool (right m.text)) /\ Below (w.alloc o).heap.size (w.alloc o) w') :
 Calls Tryz.prog 123 #[mnV m,Φ (some ⟨g,0,none⟩)] w fun e w'=>e = Ω (I J (textQ right m)) /\ Below w.heap.size w w':=by
 have hlt:g < w.heap.size:=World.block_lt_of_cell? w _ hg
 unfold mnV textQ
 obtain ⟨mt,mx,mp,mn⟩:=m
 simp only at hR ⊢
 have HB:Hid (∀ o,Below w.heap.size w (w.alloc o)):=fun o=>(Below.refl _ _).alloc (Nat.le_refl _) o
 generalize hrr:right mx = r at *
 clear hrr
 generalize bs mx = bx at *
 cases mt with
 | false=>
   clear hR
   go_enter Tryz.func123,Tryz.ntmps123
   go_wp2
   go_ret
   exact ⟨rfl,HB.out _⟩
 | true=>
   have HR:Hid (∀ o,Calls Tryz.prog 92 #[Ψ bx,Φ (some ⟨gc,0,none⟩)] (w.alloc o) fun e w'=>e = Ω (.bool r) /\ Below (w.alloc o).heap.size (w.alloc o) w'):=fun o=>hR o rfl
   clear hR
   cases r with
   | false=>
     go_enter Tryz.func123,Tryz.ntmps123
     go_wp2_with fail
     refine (HR.out _).mono ?_
     rintro e w3 ⟨rfl,hb⟩
     have HB3:Hid (Below w.heap.size w w3):=(HB.out _).trans (hb.mono (by simp))
     clear hb HR HB
     go_wp2
     go_ret
     exact ⟨rfl,HB3.out⟩
   | true=>
     go_enter Tryz.func123,Tryz.ntmps123
     go_wp2_with fail
     refine (HR.out _).mono ?_
     rintro e w3 ⟨rfl,hb⟩
     have HB3:Hid (Below w.heap.size w w3):=(HB.out _).trans (hb.mono (by simp))
     clear hb HR HB
     go_wp2
     go_ret
     exact ⟨rfl,HB3.out⟩
theorem asked_123 {B:Nat} {O:Nat -> Prop} {b:Nat} {s:Sl} {c:Ck} (h:Hd) (k:Fo) (ka:Option Addr) (kn kc g:Nat) (q:Mn -> Int) (G:(Nat -> Prop) -> World -> Prop) (w:World) (hck:CkAt O b s c w) (hok:CkOk c) (hlow:∀ g,O g -> B <= g) (hB:B <= w.heap.size)
 (hE:ExAt false (fun g=>g < B) w (h,k) ka kn) (hr:okE h k) (hG:G O w) (hGf:∀ O O' W W',G O W -> Fr O W W' -> (∀ g,O' g -> O g \/ W.heap.size <= g) -> G O' W')
 (hQ:∀ O' s' c' m W,CkAt O' b s' c' W -> CkOk c' -> Sm c c' -> MnOk c'.values.length m -> G O' W -> Calls Tryz.prog 123 #[mnV m,Φ (some ⟨g,0,none⟩)] W fun e w'=>e = Ω (I J (q m)) /\ Below W.heap.size W w') :
 Calls Tryz.prog 89 #[Φ (some ⟨b,0,none⟩),exV h ka kn kc,.func (.func 123) #[] #[Φ (some ⟨g,0,none⟩)]] w (XPost O b s w (askQ q c (h,k))):=by
 have hres:Tryz.f89.results = #[.cell 6 109,.cell 7 32]:=by kernel_rfl
 have hA:=CA.start hck hok h ka kn kc
 have hC:∀ W,CA w O (fun g=>O g /\ g < w.heap.size) b s s c h ka kn kc W -> Calls Tryz.prog 88 #[Φ (some ⟨b,0,none⟩),exV h ka kn kc] W (XPost (fun g=>O g /\ g < w.heap.size) b s W (askE c (h,k))):=fun W hW=>
  exprC_calls h k ka kn kc W hW.ck hW.ok (fun g hg=>hlow g hg.1) (Nat.le_trans hB hW.fr.size) ⟨hE.hd,hE.few,foAt_keep (fun g hg hgB=>hW.fr.block g hg (fun ho=>by have:=hlow g ho; omega)) hE.kids⟩ hr
 have hG1:∀ W,CA w O (fun g=>O g /\ g < w.heap.size) b s s c h ka kn kc W -> G (fun g=>O g /\ g < w.heap.size) W:=fun W hW=>hGf _ _ w W hG hW.fr (fun g hg=>.inl hg.1)
 have hokE:∀ c' m,askE c (h,k) = .ok (c',m) -> CkOk c' /\ MnOk c'.values.length m /\ Sm c c':=fun c' m he=>askE_ok hok hr hE.hd.text (foAt_short hE.kids) he
 generalize hO1:(fun g=>O g /\ g < w.heap.size) = O1 at hA hC hG1
 clear hO1 hck hok hlow hB hE hr hG
 unfold exV at hC ⊢
 have HA:=hid hA
 clear hA
 go_enter Tryz.func89,Tryz.ntmps89
 go_upto_region 1 with (fail)
 generalize (((w.alloc (Δ #[I J h.kind,I J h.num,Ψ (bs h.text),Γ ka kn kc,I J h.pl] 102)).alloc (Δ #[.bool false,Ψ ⟨#[]⟩,I J 0,I J 0] 109)).alloc (Δ #[I J 0,I J 0] 32)) = w1 at *
 have x0:w1.cell? ⟨w.heap.size,0,none⟩ = some (I J h.kind):=HA.out.box.cell rfl
 have x1:w1.cell? ⟨w.heap.size,1,none⟩ = some (I J h.num):=HA.out.box.cell rfl
 have x2:w1.cell? ⟨w.heap.size,2,none⟩ = some (Ψ (bs h.text)):=HA.out.box.cell rfl
 have x3:w1.cell? ⟨w.heap.size,3,none⟩ = some (Γ ka kn kc):=HA.out.box.cell rfl
 have x4:w1.cell? ⟨w.heap.size,4,none⟩ = some (I J h.pl):=HA.out.box.cell rfl
 have HC0:=hC w1 HA.out
 have HG1:Hid (G O1 w1):=hG1 w1 HA.out
 have HGF:=hid hGf
 have HQ:=hid hQ
 have HOK:=hid hokE
 clear hC hG1 hGf hQ hokE
 cases hl:askE c (h,k) with
 | error f=>
   have HL:Hid (Calls Tryz.prog 88 #[Φ (some ⟨b,0,none⟩),.agg #[I J h.kind,I J h.num,Ψ (bs h.text),Γ ka kn kc,I J h.pl]] w1 fun e w'=>f.1 ≠ 0 /\ e = Ω (.tuple #[.agg #[.bool false,Ψ ⟨#[]⟩,I J 0,I J 0],.agg #[I J f.1,I J f.2]]) /\ Hid (CE w O O1 w')):=by
    refine (calls_err HC0 hl).mono ?_
    rintro e w' ⟨h1,h2,h3⟩
    exact ⟨h1,h2,HA.out.fr.trans h3 HA.out.new,HA.out.r1.fr h3 (fun _ h=>.inl h),HA.out.r2.fr h3 (fun _ h=>.inl h)⟩
   have HX:Hid (askQ q c (h,k) = .error f):=by show _ = _; simp only [askQ,hl]
   clear hl HA HC0 HG1 HGF HQ HOK
   obtain ⟨f1,f2⟩:=f
   simp only at HL
   generalize bs h.text = tx at *
   go_wp2_with fail
   refine HL.out.mono ?_
   rintro e w3 ⟨hf,rfl,HB⟩
   have HF:Hid (f1 ≠ 0):=hf
   have hq:(f1 == 0) = false:=by rw [beq_eq_false_iff_ne]; exact hf
   clear hf HL x0 x1 x2 x3 x4
   have r0:w3.cell? ⟨w.heap.size + 1,0,none⟩ = some (.bool false):=HB.out.r1.cell rfl
   have r1:w3.cell? ⟨w.heap.size + 1,1,none⟩ = some (Ψ ⟨#[]⟩):=HB.out.r1.cell rfl
   have r2:w3.cell? ⟨w.heap.size + 1,2,none⟩ = some (I J 0):=HB.out.r1.cell rfl
   have r3:w3.cell? ⟨w.heap.size + 1,3,none⟩ = some (I J 0):=HB.out.r1.cell rfl
   have q0:w3.cell? ⟨w.heap.size + 1 + 1,0,none⟩ = some (I J 0):=HB.out.r2.cell rfl
   have q1:w3.cell? ⟨w.heap.size + 1 + 1,1,none⟩ = some (I J 0):=HB.out.r2.cell rfl
   have rf:∀ i,w3.frozen? ⟨w.heap.size + 1,i,none⟩ = false:=fun i=>HB.out.r1.fz i
   have qf:∀ i,w3.frozen? ⟨w.heap.size + 1 + 1,i,none⟩ = false:=fun i=>HB.out.r2.fz i
   have hl1:w.heap.size + 1 < w3.heap.size:=HB.out.r1.lt
   have hl2:w.heap.size + 1 + 1 < w3.heap.size:=HB.out.r2.lt
   have hl0:w.heap.size < w3.heap.size:=by omega
   have hn0:¬ w.heap.size = w3.heap.size:=by omega
   have hn1:¬ w.heap.size + 1 = w3.heap.size:=by omega
   have hn2:¬ w.heap.size + 1 + 1 = w3.heap.size:=by omega
   have hn3:¬ w.heap.size + 1 = w3.heap.size + 1:=by omega
   have hn4:¬ w.heap.size + 1 + 1 = w3.heap.size + 1:=by omega
   go_wp2_with fail
   go_region
   go_wp2
   refine bodyPost_ret (v:=.tuple #[mnV mn0,flV (f1,f2)]) ?_ rfl ?_
   ·simp only [results,hres]
    go_simp
    exact ⟨rfl,rfl⟩
   ·show XPost _ _ _ _ _ _ _
    rw [HX.out]
    exact ⟨HF.out,rfl,(((fr_res HB.out.fr _ _ _ _ _ _).alloc _).alloc _).drew⟩
 | ok x=>
   obtain ⟨c2,m2⟩:=x
   obtain ⟨k1,k2,k3⟩:=HOK.out c2 m2 hl
   have HL:Hid (Calls Tryz.prog 88 #[Φ (some ⟨b,0,none⟩),.agg #[I J h.kind,I J h.num,Ψ (bs h.text),Γ ka kn kc,I J h.pl]] w1 fun e w'=>e = Ω (.tuple #[.agg #[.bool m2.isText,Ψ (bs m2.text),I J m2.place,I J m2.num],.agg #[I J 0,I J 0]]) /\ Hid (∃ O' s',CA w O O' b s s' c2 h ka kn kc w' /\ G O' w')):=by
    refine (calls_okm HC0 hl).mono ?_
    rintro e w' ⟨h1,h2,O',s',h3,h4,h5⟩
    exact ⟨h1,O',s',HA.out.go h2 h4 h3 h5 k1,HGF.out _ _ _ _ HG1.out h2 h4⟩
   have HX:Hid (askQ q c (h,k) = if q m2 = 0 then .ok (c2,m2) else .error (q m2,h.pl)):=by show _ = _; simp only [askQ,hl]
   have HQ2:Hid (∀ O' s' W,CA w O O' b s s' c2 h ka kn kc W -> G O' W -> Calls Tryz.prog 123 #[mnV m2,Φ (some ⟨g,0,none⟩)] W fun e w'=>e = Ω (I J (q m2)) /\ Below W.heap.size W w'):=fun O' s' W hW hGW=>HQ.out O' s' c2 m2 W hW.ck k1 k3 k2 hGW
   clear hl HA HC0 HG1 HQ HOK k1 k2 k3
   obtain ⟨z,hz⟩:∃ z,z = q m2:=⟨_,rfl⟩
   rw [<- hz] at HX
   have HZ:Hid (z = q m2):=hz
   rw [<- hz] at HQ2
   clear hz HZ
   unfold mnV at HQ2
   obtain ⟨mt2,mx2,mp2,mn2⟩:=m2
   simp only at HL HQ2
   obtain ⟨bx2,hbx2⟩:∃ bx2,bx2 = bs mx2:=⟨_,rfl⟩
   rw [<- hbx2] at HL HQ2
   have HBY:Hid (bx2 = bs mx2):=hbx2
   clear hbx2
   generalize bs h.text = tx at x2 HL ⊢
   go_wp2_with fail
   refine HL.out.mono ?_
   rintro e w3 ⟨rfl,HB0⟩
   obtain ⟨O3,s3,hB3,hG3⟩:=HB0.out
   have HB:=hid hB3
   have HQ3:Hid (∀ o o',Calls Tryz.prog 123 #[.agg #[.bool mt2,Ψ bx2,I J mp2,I J mn2],Φ (some ⟨g,0,none⟩)] ((w3.alloc o).alloc o') fun e w'=>e = Ω (I J z) /\ Below ((w3.alloc o).alloc o').heap.size ((w3.alloc o).alloc o') w'):=fun o o'=>by
    have hb:Below w3.heap.size w3 ((w3.alloc o).alloc o'):=((Below.refl _ _).alloc (Nat.le_refl _) o).alloc (by simp) o'
    exact HQ2.out O3 s3 _ (hB3.next hb) (HGF.out O3 O3 w3 _ hG3 (Fr.of_below hb) (fun _ h=>.inl h))
   clear HL x0 x1 x2 x3 x4 HB0 hB3 hG3 HQ2 HGF
   go_wp2_with fail
   refine (HQ3.out _ _).mono ?_
   rintro e w4 ⟨rfl,hb4⟩
   have hnw:=heap_alloc_new w3 (Δ #[.bool mt2,Ψ bx2,I J mp2,I J mn2] 109)
   have HB4:Hid (CA w O O3 b s s3 c2 h ka kn kc w4 /\ w4.heap[w3.heap.size]? = some (Δ #[.bool mt2,Ψ bx2,I J mp2,I J mn2] 109 (0,0))):=by
    refine ⟨((HB.out.next ((Below.refl _ _).alloc (Nat.le_refl _) _)).next ((Below.refl _ _).alloc (Nat.le_refl _) _)).next hb4,?_⟩
    rw [hb4.block _ (by simp; omega)]
    exact heap_old hnw
   have hl3:w.heap.size + 1 + 1 < w3.heap.size:=HB.out.r2.lt
   clear hb4 HB HQ3 hnw
   have y0:w4.cell? ⟨w3.heap.size,0,none⟩ = some (.bool mt2):=blk HB4.out.2 rfl
   have y1:w4.cell? ⟨w3.heap.size,1,none⟩ = some (.string bx2):=blk HB4.out.2 rfl
   have y2:w4.cell? ⟨w3.heap.size,2,none⟩ = some (I J mp2):=blk HB4.out.2 rfl
   have y3:w4.cell? ⟨w3.heap.size,3,none⟩ = some (I J mn2):=blk HB4.out.2 rfl
   have x4:w4.cell? ⟨w.heap.size,4,none⟩ = some (I J h.pl):=HB4.out.1.box.cell rfl
   have r0:w4.cell? ⟨w.heap.size + 1,0,none⟩ = some (.bool false):=HB4.out.1.r1.cell rfl
   have r1:w4.cell? ⟨w.heap.size + 1,1,none⟩ = some (Ψ ⟨#[]⟩):=HB4.out.1.r1.cell rfl
   have r2:w4.cell? ⟨w.heap.size + 1,2,none⟩ = some (I J 0):=HB4.out.1.r1.cell rfl
   have r3:w4.cell? ⟨w.heap.size + 1,3,none⟩ = some (I J 0):=HB4.out.1.r1.cell rfl
   have q0:w4.cell? ⟨w.heap.size + 1 + 1,0,none⟩ = some (I J 0):=HB4.out.1.r2.cell rfl
   have q1:w4.cell? ⟨w.heap.size + 1 + 1,1,none⟩ = some (I J 0):=HB4.out.1.r2.cell rfl
   have rf:∀ i,w4.frozen? ⟨w.heap.size + 1,i,none⟩ = false:=fun i=>HB4.out.1.r1.fz i
   have qf:∀ i,w4.frozen? ⟨w.heap.size + 1 + 1,i,none⟩ = false:=fun i=>HB4.out.1.r2.fz i
   by_cases hz0:z = 0
   ·subst hz0
    rw [if_pos rfl] at HX
    go_wp2
    refine bodyPost_ret (v:=.tuple #[mnV ⟨mt2,mx2,mp2,mn2⟩,flV (0,0)]) ?_ rfl ?_
    ·simp only [results,hres]
     unfold mnV flV
     simp only
     rw [<- HBY.out]
     go_simp
    ·show XPost _ _ _ _ _ _ _
     rw [HX.out]
     have hd:=HB4.out.1.done (.bool mt2) (.string bx2) (I J mp2) (I J mn2) (I J 0) (I J 0)
     exact ⟨rfl,hd.1,O3,s3,HB4.out.1.sv,HB4.out.1.new,hd.2⟩
   ·have hq:(z == 0) = false:=by rw [beq_eq_false_iff_ne]; exact hz0
    rw [if_neg hz0] at HX
    have HZ:Hid (z ≠ 0):=hz0
    clear hz0
    have hw0:¬ w.heap.size = w.heap.size + 1:=by omega
    have hw1:¬ w.heap.size = w.heap.size + 1 + 1:=by omega
    generalize hpl:h.pl = pl at *
    have HS1:Hid (∀ (W:World) (i:Nat) (u:Value),W.cell? ⟨w.heap.size,4,none⟩ = some (I J pl) -> (W.setCell ⟨w.heap.size + 1,i,none⟩ u).cell? ⟨w.heap.size,4,none⟩ = some (I J pl)):=fun W i u hW=>by
     rw [World.cell?_of_block (w:=W) (a:=⟨w.heap.size,4,none⟩) (heap_other rfl hw0)]; exact hW
    have HS2:Hid (∀ (W:World) (i:Nat) (u:Value),W.cell? ⟨w.heap.size,4,none⟩ = some (I J pl) -> (W.setCell ⟨w.heap.size + 1 + 1,i,none⟩ u).cell? ⟨w.heap.size,4,none⟩ = some (I J pl)):=fun W i u hW=>by
     rw [World.cell?_of_block (w:=W) (a:=⟨w.heap.size,4,none⟩) (heap_other rfl hw1)]; exact hW
    have r6d:Hid (∀ W:World,W.cell? ⟨w.heap.size,4,none⟩ = some (I J pl) -> W.drew.cell? ⟨w.heap.size,4,none⟩ = some (I J pl)):=fun W h=>h
    go_wp2_with fail
    go_region_held3 (fun W=>W.cell? ⟨w.heap.size,4,none⟩ = some (I J pl)) (((try with_reducible refine r6d.out _ ?_); repeat (first | with_reducible exact x4 | with_reducible refine HS1.out _ _ _ ?_ | with_reducible refine HS2.out _ _ _ ?_))) (fail)
    rename_i hh
    clear hh HS1 HS2 r6d
    go_wp2
    refine bodyPost_ret (v:=.tuple #[mnV mn0,flV (z,pl)]) ?_ rfl ?_
    ·simp only [results,hres]
     go_simp
     exact ⟨rfl,rfl⟩
    ·show XPost _ _ _ _ _ _ _
     rw [HX.out]
     exact ⟨HZ.out,rfl,(fr_res HB4.out.1.fr _ _ _ _ _ _).drew⟩
open Go.Value renaming int->I,pointer->Φ,string->Ψ
set_option maxRecDepth 20000
abbrev Lo:=Nat × List Value × TypeId
/-- The checker (if what was said is known), and blocks of the call's own beside it. -/
structure LS (w:World) (O0 O:Nat -> Prop) (b:Nat) (s0 s:Sl) (oc:Option Ck) (L:List Lo) (W:World):Prop where
 ck:∀ c,oc = some c -> CkAt O b s c W /\ CkOk c /\ s.sv = s0.sv
 fr:Fr O0 w W
 new:∀ g,O g -> O0 g \/ w.heap.size <= g
 tight:∀ g,O g -> g < W.heap.size
 loc:∀ x ∈ L,Lc O W x.1 x.2.1 x.2.2 /\ w.heap.size <= x.1
 nd:(L.map (·.1)).Nodup
section
variable {w W W':World} {O0 O O':Nat -> Prop} {b:Nat} {s0 s s':Sl} {oc:Option Ck} {L:List Lo}
theorem LS.next (h:LS w O0 O b s0 s oc L W) (hb:Below W.heap.size W W'):LS w O0 O b s0 s oc L W':=
 ⟨fun c hc=>⟨(h.ck c hc).1.below hb,(h.ck c hc).2⟩,h.fr.then_below hb,h.new,fun g hg=>Nat.lt_of_lt_of_le (h.tight g hg) hb.size,fun x hx=>⟨(h.loc x hx).1.next hb,(h.loc x hx).2⟩,h.nd⟩
theorem LS.drew (h:LS w O0 O b s0 s oc L W):LS w O0 O b s0 s oc L W.drew:=h.next (Below.refl _ _).drew
theorem LS.alloc (h:LS w O0 O b s0 s oc L W) (cs:List Value) (ty:TypeId):LS w O0 O b s0 s oc ((W.heap.size,cs,ty) :: L) (W.alloc (Δ cs.toArray ty)):=by
 have hb:Below W.heap.size W (W.alloc (Δ cs.toArray ty)):=(Below.refl _ _).alloc (Nat.le_refl _) _
 have h1:=h.next hb
 refine ⟨h1.ck,h1.fr,h1.new,h1.tight,fun x hx=>?_,?_⟩
 ·rcases List.mem_cons.1 hx with rfl | hx
  ·exact ⟨Lc.new (fun ho=>by have:=h.tight _ ho; omega),h.fr.size⟩
  ·exact h1.loc x hx
 ·simp only [List.map_cons,List.nodup_cons]
  refine ⟨fun hm=>?_,h.nd⟩
  obtain ⟨x,hx,e⟩:=List.mem_map.1 hm
  have:=(h.loc x hx).1.lt
  omega
theorem LS.allocE (h:LS w O0 O b s0 s oc L W) (cs:List Value) (ty:TypeId) {V:World} {g:Nat} (hV:V = W.alloc (Δ cs.toArray ty)) (hg:g = W.heap.size):LS w O0 O b s0 s oc ((g,cs,ty) :: L) V:=by
 subst hV hg; exact h.alloc cs ty
/-- A call that has changed the checker's blocks alone. -/
theorem LS.go {oc':Option Ck} (h:LS w O0 O b s0 s oc L W) (hf:Fr O W W') (hO:∀ g,O' g -> O g \/ W.heap.size <= g) (hck:∀ c,oc' = some c -> CkAt O' b s' c W' /\ CkOk c /\ s'.sv = s0.sv) :
 LS w O0 (fun g=>O' g /\ g < W'.heap.size) b s0 s' oc' L W':=by
 have hsz:=h.fr.size
 refine ⟨fun c hc=>⟨(hck c hc).1.tight,(hck c hc).2⟩,h.fr.trans hf h.new,fun g hg=>?_,fun g hg=>hg.2,fun x hx=>⟨?_,(h.loc x hx).2⟩,h.nd⟩
 ·rcases hO g hg.1 with h1 | h1
  ·exact h.new g h1
  ·exact .inr (by omega)
 ·have h1:=(h.loc x hx).1.fr hf hO
  exact ⟨h1.heap,fun ho=>h1.off ho.1⟩
theorem LS.sub (h:LS w O0 O b s0 s oc L W) {L':List Lo} (hs:∀ x ∈ L',x ∈ L) (hn:(L'.map (·.1)).Nodup):LS w O0 O b s0 s oc L' W:=⟨h.ck,h.fr,h.new,h.tight,fun x hx=>h.loc x (hs x hx),hn⟩
theorem LS.tail {x:Lo} (h:LS w O0 O b s0 s oc (x :: L) W):LS w O0 O b s0 s oc L W:=h.sub (fun y hy=>by simp [hy]) (by have:=h.nd; simp only [List.map_cons,List.nodup_cons] at this; exact this.2)
/-- A store into the first of the blocks. -/
theorem LS.put {g:Nat} {cs:List Value} {ty:TypeId} (h:LS w O0 O b s0 s oc ((g,cs,ty) :: L) W) (i:Nat) (u:Value):LS w O0 O b s0 s oc ((g,cs.set i u,ty) :: L) (W.setCell ⟨g,i,none⟩ u):=by
 have h0:=h.loc _ (List.mem_cons_self ..)
 have hnd:=h.nd
 simp only [List.map_cons,List.nodup_cons] at hnd
 refine ⟨fun c hc=>⟨ck_set (h.ck c hc).1 h0.1.off i u,(h.ck c hc).2⟩,h.fr.setCell (.inr h0.2) i u,h.new,fun k hk=>by have:=h.tight k hk; simpa [World.setCell] using this,fun x hx=>?_,h.nd⟩
 rcases List.mem_cons.1 hx with rfl | hx
 ·exact ⟨h0.1.put i u,h0.2⟩
 ·exact ⟨(h.loc x (by simp [hx])).1.other (fun e=>hnd.1 (by rw [<- e]; exact List.mem_map_of_mem hx)) i u,(h.loc x (by simp [hx])).2⟩
theorem LS.at (h:LS w O0 O b s0 s oc L W) {g:Nat} {cs:List Value} {ty:TypeId} (hx:(g,cs,ty) ∈ L) {i:Nat} {u:Value} (hi:cs[i]? = some u):W.cell? ⟨g,i,none⟩ = some u:=(h.loc _ hx).1.cell hi
theorem LS.fz (h:LS w O0 O b s0 s oc L W) {g:Nat} {cs:List Value} {ty:TypeId} (hx:(g,cs,ty) ∈ L) (i:Nat):W.frozen? ⟨g,i,none⟩ = false:=(h.loc _ hx).1.fz i
theorem LS.lt (h:LS w O0 O b s0 s oc L W) {g:Nat} {cs:List Value} {ty:TypeId} (hx:(g,cs,ty) ∈ L):g < W.heap.size:=(h.loc _ hx).1.lt
theorem LS.blk (h:LS w O0 O b s0 s oc L W) {g:Nat} {cs:List Value} {ty:TypeId} (hx:(g,cs,ty) ∈ L):W.heap[g]? = some (Δ cs.toArray ty (0,0)):=(h.loc _ hx).1.heap
end
theorem LS.start {b:Nat} {s:Sl} {c:Ck} {w:World} {O:Nat -> Prop} (hck:CkAt O b s c w) (hok:CkOk c):LS w O (fun g=>O g /\ g < w.heap.size) b s s (some c) [] w:=
 ⟨fun c' hc=>by cases hc; exact ⟨hck.tight,hok,rfl⟩,Fr.refl O w,fun g hg=>.inl hg.1,fun g hg=>hg.2,fun x hx=>by simp at hx,by simp⟩
/-- What asking has told. -/
def RQ (r:Er (Ck × Mn)) (m:Mn) (f:Int × Int) (oc:Option Ck):Prop:=
 match r with
 | .error f'=>f = f' /\ f'.1 ≠ 0 /\ m = mn0 /\ oc = none
 | .ok (c',m')=>f = (0,0) /\ m = m' /\ oc = some c'
theorem LS.asks {w W:World} {O0 O:Nat -> Prop} {b:Nat} {s0 s:Sl} {c:Ck} {L:List Lo} {K:Nat} {args:Array Value} {r:Er (Ck × Mn)} (h:LS w O0 O b s0 s (some c) L W) (hC:Calls Tryz.prog K args W (XPost O b s W r)) (hok:∀ c' m,r = .ok (c',m) -> CkOk c') :
 Calls Tryz.prog K args W fun e w'=>∃ m f oc O' s',e = Ω (.tuple #[.agg #[.bool m.isText,Ψ (bs m.text),I J m.place,I J m.num],.agg #[I J f.1,I J f.2]]) /\ Hid (RQ r m f oc /\ LS w O0 O' b s0 s' oc L w'):=by
 refine hC.mono ?_
 intro e w' hp
 cases r with
 | error f=>
   obtain ⟨h1,h2,h3⟩:=hp
   exact ⟨mn0,f,none,_,s,h2,⟨rfl,h1,rfl,rfl⟩,h.go (O':=O) h3 (fun _ h=>.inl h) (fun c hc=>by cases hc)⟩
 | ok x=>
   obtain ⟨c',m⟩:=x
   obtain ⟨h1,h2,O',s',h3,h4,h5⟩:=hp
   exact ⟨m,(0,0),some c',_,s',h1,⟨rfl,rfl,rfl⟩,h.go h2 h4 (fun c1 hc=>by cases hc; exact ⟨h5,hok c' m rfl,h3.trans (h.ck c rfl).2.2⟩)⟩
/-- An expression in its box. -/
theorem LS.askNum {B:Nat} {w W:World} {O0 O:Nat -> Prop} {b:Nat} {s0 s:Sl} {c:Ck} {L:List Lo} (h:LS w O0 O b s0 s (some c) L W) (hd:Hd) (k:Fo) (ka:Option Addr) (kn kc:Nat) (least:Int) (g:Nat) (hg:(g,[I J least],3) ∈ L) (hlow:∀ g,O0 g -> B <= g) (hB:B <= w.heap.size)
 (hE:ExAt false (fun g=>g < B) w (hd,k) ka kn) (hr:okE hd k) :
 Calls Tryz.prog 89 #[Φ (some ⟨b,0,none⟩),.agg #[I J hd.kind,I J hd.num,Ψ (bs hd.text),.slice ka kn kc,I J hd.pl],.func (.func 126) #[] #[Φ (some ⟨g,0,none⟩)]] W fun e w'=>∃ m f oc O' s',e = Ω (.tuple #[.agg #[.bool m.isText,Ψ (bs m.text),I J m.place,I J m.num],.agg #[I J f.1,I J f.2]]) /\ Hid (RQ (askQ (numFrom least) c (hd,k)) m f oc /\ LS w O0 O' b s0 s' oc L w'):=by
 have hE':ExAt false (fun g=>g < B) W (hd,k) ka kn:=⟨hE.hd,hE.few,foAt_keep (fun q hq hqB=>h.fr.block q hq (fun ho=>by have:=hlow q ho; omega)) hE.kids⟩
 have hlow':∀ g,O g -> B <= g:=fun q hq=>by rcases h.new q hq with h1 | h1; exact hlow q h1; omega
 obtain ⟨k1,k2,k3⟩:=h.ck c rfl
 refine h.asks ?_ (fun c' m hm=>?_)
 ·refine asked_126 hd k ka kn kc g (numFrom least) (fun O W=>Lc O W g [I J least] 3) W k1 k2 hlow' (Nat.le_trans hB h.fr.size) hE' hr (h.loc _ hg).1 (fun O O' W W' h1 h2 h3=>h1.fr h2 h3) ?_
  intro O' s' c' m W' _ _ _ _ hL
  exact numQ_calls least m g W' (hL.cell rfl)
 ·unfold askQ at hm
  split at hm
  ·cases hm
  ·rename_i c1 m1 he
   split at hm
   ·cases hm
    exact (askE_ok k2 hr hE.hd.text (foAt_short hE.kids) he).1
   ·cases hm
theorem LS.askText {B:Nat} {w W:World} {O0 O:Nat -> Prop} {b:Nat} {s0 s:Sl} {c:Ck} {L:List Lo} (h:LS w O0 O b s0 s (some c) L W) (hd:Hd) (k:Fo) (ka:Option Addr) (kn kc:Nat) (right:List UInt8 -> Bool) (g:Nat) (G:(Nat -> Prop) -> World -> Prop) (hlow:∀ g,O0 g -> B <= g) (hB:B <= w.heap.size)
 (hE:ExAt false (fun g=>g < B) w (hd,k) ka kn) (hr:okE hd k) (hG:G O W) (hGf:∀ O O' W W',G O W -> Fr O W W' -> (∀ g,O' g -> O g \/ W.heap.size <= g) -> G O' W')
 (hQ:∀ O' s' c' m W,CkAt O' b s' c' W -> CkOk c' -> Sm c c' -> MnOk c'.values.length m -> G O' W -> Calls Tryz.prog 123 #[mnV m,Φ (some ⟨g,0,none⟩)] W fun e w'=>e = Ω (I J (textQ right m)) /\ Below W.heap.size W w') :
 Calls Tryz.prog 89 #[Φ (some ⟨b,0,none⟩),.agg #[I J hd.kind,I J hd.num,Ψ (bs hd.text),.slice ka kn kc,I J hd.pl],.func (.func 123) #[] #[Φ (some ⟨g,0,none⟩)]] W fun e w'=>∃ m f oc O' s',e = Ω (.tuple #[.agg #[.bool m.isText,Ψ (bs m.text),I J m.place,I J m.num],.agg #[I J f.1,I J f.2]]) /\ Hid (RQ (askQ (textQ right) c (hd,k)) m f oc /\ LS w O0 O' b s0 s' oc L w'):=by
 have hE':ExAt false (fun g=>g < B) W (hd,k) ka kn:=⟨hE.hd,hE.few,foAt_keep (fun q hq hqB=>h.fr.block q hq (fun ho=>by have:=hlow q ho; omega)) hE.kids⟩
 have hlow':∀ g,O g -> B <= g:=fun q hq=>by rcases h.new q hq with h1 | h1; exact hlow q h1; omega
 obtain ⟨k1,k2,k3⟩:=h.ck c rfl
 refine h.asks ?_ (fun c' m hm=>?_)
 ·exact asked_123 hd k ka kn kc g (textQ right) G W k1 k2 hlow' (Nat.le_trans hB h.fr.size) hE' hr hG hGf hQ
 ·unfold askQ at hm
  split at hm
  ·cases hm
  ·rename_i c1 m1 he
   split at hm
   ·cases hm
    exact (askE_ok k2 hr hE.hd.text (foAt_short hE.kids) he).1
   ·cases hm
theorem alloc109_step {o:Oper} {y:Nat -> Option Bool} {a:Act} {w:World} {K:Act -> World -> Prop} {Q:Exit -> Act -> World -> Prop} {d:Nat} (h1:o.op = .alloc 109) (h2:o.dst = some d) (h3:o.guard = none)
 (h:∀ V g,V = w.alloc (Δ (mnL mn0).toArray 109) -> g = w.heap.size -> K (a.put (some d) (Φ (some ⟨g,0,none⟩))) V) :
 if Region.wanted o y = true then Oper.wp Tryz.prog o a w K Q else K (a.put o.dst undef) w:=by
 obtain ⟨dst,op,type,pos,after,guard⟩:=o
 simp only at h1 h2 h3
 subst h1 h2 h3
 have:=h _ _ rfl rfl
 clear h
 simp only [mnL,mn0,bs] at this
 go_simp
 exact this
section
variable {P:Program} {ops:Array Oper} {Q:Exit -> Act -> World -> Prop} {md:Region.Mode} {S:World -> Prop} {x:Nat -> Bool}
end
theorem store109_step {o:Oper} {y:Nat -> Option Bool} {a:Act} {w:World} {K:Act -> World -> Prop} {Q:Exit -> Act -> World -> Prop} {p q g:Nat} {t:Bool} {x:ByteArray} {n1 n2:Int} (h1:o.op = .store 109 (.tmp p) (.tmp q)) (h2:o.dst = none) (h3:o.guard = none)
 (e1:a.tmps[p]?.getD undef = Φ (some ⟨g,0,none⟩)) (e2:a.tmps[q]?.getD undef = .agg #[.bool t,Ψ x,I J n1,I J n2]) (hc:w.heap[g]? = some (Δ (mnL mn0).toArray 109 (0,0)))
 (h:∀ V,V = (((w.setCell ⟨g,0,none⟩ (.bool t)).setCell ⟨g,1,none⟩ (.string x)).setCell ⟨g,2,none⟩ (I J n1)).setCell ⟨g,3,none⟩ (I J n2) -> K a V) :
 if Region.wanted o y = true then Oper.wp Tryz.prog o a w K Q else K (a.put o.dst undef) w:=by
 obtain ⟨dst,op,type,pos,after,guard⟩:=o
 simp only at h1 h2 h3
 subst h1 h2 h3
 have:=h _ rfl
 have q0:=blk (i:=0) (u:=.bool false) hc rfl
 have q1:=blk (i:=1) (u:=Ψ ⟨#[]⟩) hc rfl
 have q2:=blk (i:=2) (u:=I J 0) hc rfl
 have q3:=blk (i:=3) (u:=I J 0) hc rfl
 have f0:=fun i=>blkf i hc
 clear h hc
 go_simp
 exact this
theorem store32_step {o:Oper} {y:Nat -> Option Bool} {a:Act} {w:World} {K:Act -> World -> Prop} {Q:Exit -> Act -> World -> Prop} {p q g:Nat} {u v:Int} (h1:o.op = .store 32 (.tmp p) (.tmp q)) (h2:o.dst = none) (h3:o.guard = none)
 (e1:a.tmps[p]?.getD undef = Φ (some ⟨g,0,none⟩)) (e2:a.tmps[q]?.getD undef = .agg #[I J u,I J v]) (hc:w.heap[g]? = some (Δ (flL (0,0)).toArray 32 (0,0)))
 (h:∀ V,V = (w.setCell ⟨g,0,none⟩ (I J u)).setCell ⟨g,1,none⟩ (I J v) -> K a V) :
 if Region.wanted o y = true then Oper.wp Tryz.prog o a w K Q else K (a.put o.dst undef) w:=by
 obtain ⟨dst,op,type,pos,after,guard⟩:=o
 simp only at h1 h2 h3
 subst h1 h2 h3
 have:=h _ rfl
 have q0:=blk (i:=0) (u:=I J 0) hc rfl
 have q1:=blk (i:=1) (u:=I J 0) hc rfl
 have f0:=fun i=>blkf i hc
 clear h hc
 go_simp
 exact this
section
variable {w W V:World} {O0 O:Nat -> Prop} {b:Nat} {s0 s:Sl} {oc:Option Ck} {L:List Lo} {g:Nat}
theorem LS.store109 (h:LS w O0 O b s0 s oc ((g,mnL mn0,109) :: L) W) (m:Mn) {x:ByteArray} (hx:x = bs m.text) (hV:V = (((W.setCell ⟨g,0,none⟩ (.bool m.isText)).setCell ⟨g,1,none⟩ (.string x)).setCell ⟨g,2,none⟩ (I J m.place)).setCell ⟨g,3,none⟩ (I J m.num)):LS w O0 O b s0 s oc ((g,mnL m,109) :: L) V:=by
 subst hV hx
 exact (((h.put 0 (.bool m.isText)).put 1 (Ψ (bs m.text))).put 2 (I J m.place)).put 3 (I J m.num)
theorem LS.store32 {f0:Int × Int} (h:LS w O0 O b s0 s oc ((g,flL f0,32) :: L) W) (f:Int × Int) (hV:V = (W.setCell ⟨g,0,none⟩ (I J f.1)).setCell ⟨g,1,none⟩ (I J f.2)):LS w O0 O b s0 s oc ((g,flL f,32) :: L) V:=by
 subst hV
 exact (h.put 0 (I J f.1)).put 1 (I J f.2)
/-- Any of the blocks to the front. -/
theorem LS.front (h:LS w O0 O b s0 s oc L W) {x:Lo} {L1 L2:List Lo} (hL:L = L1 ++ x :: L2):LS w O0 O b s0 s oc (x :: (L1 ++ L2)) W:=by
 subst hL
 refine h.sub (fun y hy=>by simp only [List.mem_cons,List.mem_append] at hy ⊢; rcases hy with h1 | h1 | h1 <;> simp [h1]) ?_
 have:=h.nd
 simp only [List.map_append,List.map_cons] at this ⊢
 exact (List.perm_middle.nodup_iff).1 this
end
/-- What an item leaves. -/
def TPost (O:Nat -> Prop) (b:Nat) (w:World) (r:Er Ck) (e:Ending) (w':World):Prop:=
 match r with
 | .error f=>f.1 ≠ 0 /\ e = Ω (flV f) /\ Fr O w w'
 | .ok c'=>e = Ω (flV (0,0)) /\ Fr O w w' /\ ∃ O' s',(∀ g,O' g -> O g \/ w.heap.size <= g) /\ CkAt O' b s' c' w'
theorem call95c_step {o:Oper} {y:Nat -> Option Bool} {a:Act} {w:World} {K:Act -> World -> Prop} {Q:Exit -> Act -> World -> Prop} {d:Nat} {l:Int} (h1:o.op = .call { callee:=.value (.func 95),args:=#[.const (I J l)],argTypes:=#[3] }) (h2:o.dst = some d) (h3:o.guard = none)
 (h:∀ V g,V = w.alloc (Δ [I J l].toArray 3) -> g = w.heap.size -> K (a.put (some d) (.func (.func 126) #[] #[Φ (some ⟨g,0,none⟩)])) V) :
 if Region.wanted o y = true then Oper.wp Tryz.prog o a w K Q else K (a.put o.dst undef) w:=by
 obtain ⟨dst,op,type,pos,after,guard⟩:=o
 simp only at h1 h2 h3
 subst h1 h2 h3
 go_simp
 refine (numberFrom_calls l w).mono ?_
 rintro e V ⟨rfl,hV⟩
 exact h V _ hV rfl
theorem call95t_step {o:Oper} {y:Nat -> Option Bool} {a:Act} {w:World} {K:Act -> World -> Prop} {Q:Exit -> Act -> World -> Prop} {i:Nat} {d:Nat} {l:Int} (h1:o.op = .call { callee:=.value (.func 95),args:=#[.tmp i],argTypes:=#[3] }) (h2:o.dst = some d) (h3:o.guard = none) (e1:a.tmps[i]?.getD undef = I J l)
 (h:∀ V g,V = w.alloc (Δ [I J l].toArray 3) -> g = w.heap.size -> K (a.put (some d) (.func (.func 126) #[] #[Φ (some ⟨g,0,none⟩)])) V) :
 if Region.wanted o y = true then Oper.wp Tryz.prog o a w K Q else K (a.put o.dst undef) w:=by
 obtain ⟨dst,op,type,pos,after,guard⟩:=o
 simp only at h1 h2 h3
 subst h1 h2 h3
 go_simp
 refine (numberFrom_calls l w).mono ?_
 rintro e V ⟨rfl,hV⟩
 exact h V _ hV rfl
theorem call89_step {o:Oper} {y:Nat -> Option Bool} {a:Act} {w:World} {K:Act -> World -> Prop} {Q:Exit -> Act -> World -> Prop} {i j l d:Nat} {v1 v2 v3:Value} (h1:o.op = .call { callee:=.value (.func 89),args:=#[.tmp i,.tmp j,.tmp l],argTypes:=#[63,102,140] }) (h2:o.dst = some d) (h3:o.guard = none)
 (e1:a.tmps[i]?.getD undef = v1) (e2:a.tmps[j]?.getD undef = v2) (e3:a.tmps[l]?.getD undef = v3) (h:Calls Tryz.prog 89 #[v1,v2,v3] w fun e w'=>∃ u,e = Ω u /\ K (a.put (some d) u) w') :
 if Region.wanted o y = true then Oper.wp Tryz.prog o a w K Q else K (a.put o.dst undef) w:=by
 obtain ⟨dst,op,type,pos,after,guard⟩:=o
 simp only at h1 h2 h3
 subst h1 h2 h3
 subst e1 e2 e3
 go_simp
 refine h.mono ?_
 rintro e V ⟨u,rfl,hV⟩
 exact hV
theorem wpAnyY_takeD {P:Program} {ops:Array Oper} {Q:Exit -> Act -> World -> Prop} {md:Region.Mode} {S:World -> Prop} {x:Nat -> Bool} {i:Nat} (d:Nat) {oi:Oper} {v:Value} {fuel:Nat} {listed:Array Bool} {a:Act} {w:World} (hi:ops[i]? = some oi) (hd:oi.dst = some d)
 (hs:Region.noSelect ops = true) (hc:closedB md ops listed = true) (hx:∀ j,x j = true -> waitsB md ops i ops.size j = true) (hf:Region.free md ops listed i = true) (hr:(Region.ready md ops listed).contains i = true)
 (hQ:∀ c a w,Q (.panic c) (a.put (some d) v) w -> Q (.panic c) a w) (hS:S w) (hy:YieldsIf P ops S oi v a)
 (h:wpAnyY P md ops Q S x fuel (listed.setIfInBounds i true) (a.put (some d) v) w):wpAnyY P md ops Q S x (fuel + 1) listed a w:=by
 rw [<- hd] at hQ h
 exact wpAnyY_take hi hs hc hx hf hr hQ hS hy h
theorem tkD {P:Program} {ops:Array Oper} {Q:Exit -> Act -> World -> Prop} {md:Region.Mode} {S:World -> Prop} {l:List Nat} {i:Nat} (d:Nat) {oi:Oper} {v:Value} {fuel:Nat} {listed:Array Bool} {a:Act} {w:World} (hi:ops[i]? = some oi) (hd:oi.dst = some d)
 (hb:(Region.noSelect ops && closedB md ops listed && (l.all fun j=>waitsB md ops i ops.size j) && Region.free md ops listed i && (Region.ready md ops listed).contains i) = true)
 (hQ:∀ c a w,Q (.panic c) (a.put (some d) v) w -> Q (.panic c) a w) (hS:S w) (hy:YieldsIf P ops S oi v a)
 (h:wpAnyY P md ops Q S (fun j=>l.contains j) fuel (listed.setIfInBounds i true) (a.put (some d) v) w):wpAnyY P md ops Q S (fun j=>l.contains j) (fuel + 1) listed a w:=by
 rw [Bool.and_eq_true,Bool.and_eq_true,Bool.and_eq_true,Bool.and_eq_true] at hb
 exact wpAnyY_takeD d hi hd hb.1.1.1.1 hb.1.1.1.2 (late_of hb.1.1.2) hb.1.2 hb.2 hQ hS hy h
theorem tkL {P:Program} {ops:Array Oper} {Q:Exit -> Act -> World -> Prop} {md:Region.Mode} {S:World -> Prop} {l:List Nat} {i:Nat} (d:Nat) {oi:Oper} {v:Value} {fuel:Nat} {listed:Array Bool} {a:Act} {w:World} (hi:ops[i]? = some oi) (hd:oi.dst = some d) (hS:S w)
 (hy:∀ w,S w -> (execOp a.eval oi).run P w = .ok (.value v) w)
 (h:wpAnyY P md ops Q S (fun j=>l.contains j) fuel (listed.setIfInBounds i true) (a.put (some d) v) w)
 (hx:Region.wanted oi (yielded ops a.tmps) = true:=by rfl)
 (hb:(Region.noSelect ops && closedB md ops listed && (l.all fun j=>waitsB md ops i ops.size j) && Region.free md ops listed i && (Region.ready md ops listed).contains i) = true:=by kernel_rfl)
 (hQ:∀ c a w,Q (.panic c) (a.put (some d) v) w -> Q (.panic c) a w:=by exact fun _ _ _ h=>h):wpAnyY P md ops Q S (fun j=>l.contains j) (fuel + 1) listed a w:=
 tkD d hi hd hb hQ hS (Or.inl ⟨hx,hy⟩) h
set_option maxRecDepth 20000
set_option maxHeartbeats 2000000
theorem codeC_calls (l:List UInt8) (x:UInt8) (b:Nat) (w:World) (hb:w.cell? ⟨b,0,none⟩ = some (Ψ (bs l))) (hl:l.length <= maxLen) :
 Calls Tryz.prog 93 #[Φ (some ⟨b,0,none⟩),.int .u8 (x.toNat:Int)] w fun e w'=>e = Ω (I J (codeU l x)) /\ ∃ n,w' = w.drewN n:=by
 have H:=Al.code_calls (bs l) (x.toNat:Int) w (by rw [bs_size]; exact hl) (by omega) (by have:=UInt8.toNat_lt x; omega)
 rw [bs_list] at H
 unfold codeU
 generalize Al.codeB l (x.toNat:Int) = cd at *
 go_enter Tryz.func93,Tryz.ntmps93
 go_wp2_with (go_at_call 125; refine H.mono ?_; rintro e w' ⟨rfl,hd⟩; have HD:Hid (∃ n,w' = w.drewN n):=hd; clear hd)
 go_ret
 exact ⟨rfl,Hid.out (by assumption)⟩
theorem isPair_two {l t:List UInt8} (h:isPair l t = true):∃ x y,t = [x,y] /\ 0 <= codeU l x /\ 0 <= codeU l y:=by
 unfold isPair at h
 split at h
 ·rename_i x y
  simp at h
  exact ⟨x,y,rfl,h.1,h.2⟩
 ·cases h
theorem isPair_not {l t:List UInt8} (h:t.length ≠ 2):isPair l t = false:=by
 unfold isPair
 split
 ·simp at h
 ·rfl
theorem pair1_calls (l t:List UInt8) (gc b:Nat) (w:World) (hg:w.cell? ⟨gc,0,none⟩ = some (Φ (some ⟨b,0,none⟩))) (hb:w.cell? ⟨b,0,none⟩ = some (Ψ (bs l))) (hl:l.length <= maxLen) (ht:t.length <= maxLen) :
 Calls Tryz.prog 92 #[Ψ (bs t),Φ (some ⟨gc,0,none⟩)] w fun e w'=>e = Ω (.bool (isPair l t)) /\ ∃ n,w' = w.drewN n:=by
 by_cases h2:t.length = 2
 ·obtain ⟨x,y,rfl⟩:∃ x y,t = [x,y]:=by
   match t,h2 with
   | [x,y],_=>exact ⟨x,y,rfl⟩
  have HC1:Hid (∀ n,Calls Tryz.prog 93 #[Φ (some ⟨b,0,none⟩),.int .u8 (x.toNat:Int)] (w.drewN n) fun e w'=>e = Ω (I J (codeU l x)) /\ ∃ m,w' = w.drewN m):=fun n=>Calls.quiet_of (codeC_calls l x b _ hb hl)
  have HC2:Hid (∀ n,Calls Tryz.prog 93 #[Φ (some ⟨b,0,none⟩),.int .u8 (y.toNat:Int)] (w.drewN n) fun e w'=>e = Ω (I J (codeU l y)) /\ ∃ m,w' = w.drewN m):=fun n=>Calls.quiet_of (codeC_calls l y b _ hb hl)
  obtain ⟨bt,hbt⟩:∃ bt,bt = bs [x,y]:=⟨_,rfl⟩
  have hsz:bt.size = 2:=by rw [hbt]; rfl
  have hi0:bt[0]'(by omega) = x:=by subst hbt; rfl
  have hi1:bt[1]'(by omega) = y:=by subst hbt; rfl
  rw [<- hbt]
  have hip:isPair l [x,y] = (decide (0 <= codeU l x) && decide (0 <= codeU l y)):=rfl
  rw [hip]
  obtain ⟨cx,hcx⟩:∃ cx,cx = codeU l x:=⟨_,rfl⟩
  obtain ⟨cy,hcy⟩:∃ cy,cy = codeU l y:=⟨_,rfl⟩
  rw [<- hcx] at HC1 ⊢
  rw [<- hcy] at HC2 ⊢
  clear hip hbt h2 ht hcx hcy
  by_cases hx:0 <= cx
  ·have hdx:decide (0 <= cx) = true:=by simpa using hx
   by_cases hy:0 <= cy
   ·have hdy:decide (0 <= cy) = true:=by simpa using hy
    go_enter Tryz.func92,Tryz.ntmps92
    go_wp2_with fail
    go_quiet (first | (go_at_call 93; with_reducible exact HC1.out _) | (go_at_call 93; with_reducible exact HC2.out _))
    go_wp2
    go_ret
    exact ⟨by rw [hdx,hdy]; rfl,nq,rfl⟩
   ·have hdy:decide (0 <= cy) = false:=by simpa using hy
    go_enter Tryz.func92,Tryz.ntmps92
    go_wp2_with fail
    go_quiet (first | (go_at_call 93; with_reducible exact HC1.out _) | (go_at_call 93; with_reducible exact HC2.out _))
    go_wp2
    go_ret
    exact ⟨by rw [hdx,hdy]; rfl,nq,rfl⟩
  ·have hdx:decide (0 <= cx) = false:=by simpa using hx
   go_enter Tryz.func92,Tryz.ntmps92
   go_wp2_with fail
   go_quiet (first | (go_at_call 93; with_reducible exact HC1.out _) | (go_at_call 93; with_reducible exact HC2.out _))
   go_wp2
   go_ret
   exact ⟨by rw [hdx]; rfl,nq,rfl⟩
 ·rw [isPair_not h2]
  have hsz:((bs t).size:Int) ≠ 2:=by rw [bs_size]; omega
  obtain ⟨bt,hbt⟩:∃ bt,bt = bs t:=⟨_,rfl⟩
  rw [<- hbt] at hsz ⊢
  have hq:((bt.size:Int) == 2) = false:=by rw [beq_eq_false_iff_ne]; exact hsz
  have hq2:decide ((bt.size:Int) = 2) = false:=by simpa using hsz
  clear hbt
  go_enter Tryz.func92,Tryz.ntmps92
  go_wp2_with fail
  go_quiet (fail)
  go_wp2
  go_ret
  exact ⟨rfl,nq,rfl⟩
end Go.Proofs.YtlaodgdlkkmmeaaGreat
