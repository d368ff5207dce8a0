/-
  A text that must be of a kind: asked. And what follows.
-/
import Derived.BigRegion
import Derived.Deep.RegionHeld3
import Derived.Test.YtbbbnopganhebabGreatG28
import Derived.Test.YtbbbnopganhebabGreatAlC
import Derived.Test.YtbbbnopganhebabGreatG17
namespace Go.Proofs.YtbbbnopganhebabGreat
open Go.RowKit Go.Deep Go.Maps
open Go.Value renaming int->I
open Go.IntKind renaming i64->J
set_option maxRecDepth 20000
set_option maxHeartbeats 4000000
theorem textQ_82 (right:List UInt8 -> Bool) (m:Mn) (g:Nat) (w:World) (hg:w.cell? ⟨g,0,none⟩ = some (.func (.func 101) #[] #[])) (hR:∀ o,m.isText = true -> Calls Tryz.prog 101 #[.string (bs m.text)] (w.alloc o) fun e w'=>e = .returned (.bool (right m.text)) /\ Below (w.alloc o).heap.size (w.alloc o) w') :
 Calls Tryz.prog 155 #[mnV m,.pointer (some ⟨g,0,none⟩)] w fun e w'=>e = .returned (I J (textQ right m)) /\ Below w.heap.size w w':=by
 have hlt:g < w.heap.size:=World.block_lt_of_cell? w _ hg
 unfold mnV textQ
 obtain ⟨mt,mx,mp,mn⟩:=m
 simp only at hR ⊢
 have HB:Hid (∀ o,Below w.heap.size w (w.alloc o)):=fun o=>(Below.refl _ _).alloc (Nat.le_refl _) o
 generalize hrr:right mx = r at *
 clear hrr
 generalize bs mx = bx at *
 cases mt with
 | false=>
   clear hR
   go_enter Tryz.func155,Tryz.ntmps155
   go_wp2
   go_ret
   exact ⟨rfl,HB.out _⟩
 | true=>
   have HR:Hid (∀ o,Calls Tryz.prog 101 #[.string bx] (w.alloc o) fun e w'=>e = .returned (.bool r) /\ Below (w.alloc o).heap.size (w.alloc o) w'):=fun o=>hR o rfl
   clear hR
   cases r with
   | false=>
     go_enter Tryz.func155,Tryz.ntmps155
     go_wp2_with fail
     refine (HR.out _).mono ?_
     rintro e w3 ⟨rfl,hb⟩
     have HB3:Hid (Below w.heap.size w w3):=(HB.out _).trans (hb.mono (by simp))
     clear hb HR HB
     go_wp2
     go_ret
     exact ⟨rfl,HB3.out⟩
   | true=>
     go_enter Tryz.func155,Tryz.ntmps155
     go_wp2_with fail
     refine (HR.out _).mono ?_
     rintro e w3 ⟨rfl,hb⟩
     have HB3:Hid (Below w.heap.size w w3):=(HB.out _).trans (hb.mono (by simp))
     clear hb HR HB
     go_wp2
     go_ret
     exact ⟨rfl,HB3.out⟩
theorem asked_123 {B:Nat} {O:Nat -> Prop} {b:Nat} {s:Sl} {c:Ck} (h:Hd) (k:Fo) (ka:Option Addr) (kn kc g:Nat) (q:Mn -> Int) (G:(Nat -> Prop) -> World -> Prop) (w:World) (hck:CkAt O b s c w) (hok:CkOk c) (hlow:∀ g,O g -> B <= g) (hB:B <= w.heap.size)
 (hE:ExAt false (fun g=>g < B) w (h,k) ka kn) (hr:okE h k) (hG:G O w) (hGf:∀ O O' W W',G O W -> Fr O W W' -> (∀ g,O' g -> O g \/ W.heap.size <= g) -> G O' W')
 (hQ:∀ O' s' c' m W,CkAt O' b s' c' W -> CkOk c' -> Sm c c' -> MnOk c'.values.length m -> G O' W -> Calls Tryz.prog 155 #[mnV m,.pointer (some ⟨g,0,none⟩)] W fun e w'=>e = .returned (I J (q m)) /\ Below W.heap.size W w') :
 Calls Tryz.prog 131 #[.pointer (some ⟨b,0,none⟩),exV h ka kn kc,.func (.func 155) #[] #[.pointer (some ⟨g,0,none⟩)]] w (XPost O b s w (askQ q c (h,k))):=by
 have hres:Tryz.f131.results = #[.cell 6 183,.cell 7 87]:=by kernel_rfl
 have hA:=CA.start hck hok h ka kn kc
 have hC:∀ W,CA w O (fun g=>O g /\ g < w.heap.size) b s s c h ka kn kc W -> Calls Tryz.prog 130 #[.pointer (some ⟨b,0,none⟩),exV h ka kn kc] W (XPost (fun g=>O g /\ g < w.heap.size) b s W (askE c (h,k))):=fun W hW=>
  exprC_calls h k ka kn kc W hW.ck hW.ok (fun g hg=>hlow g hg.1) (Nat.le_trans hB hW.fr.size) ⟨hE.hd,hE.few,foAt_keep (fun g hg hgB=>hW.fr.block g hg (fun ho=>by have:=hlow g ho; omega)) hE.kids⟩ hr
 have hG1:∀ W,CA w O (fun g=>O g /\ g < w.heap.size) b s s c h ka kn kc W -> G (fun g=>O g /\ g < w.heap.size) W:=fun W hW=>hGf _ _ w W hG hW.fr (fun g hg=>.inl hg.1)
 have hokE:∀ c' m,askE c (h,k) = .ok (c',m) -> CkOk c' /\ MnOk c'.values.length m /\ Sm c c':=fun c' m he=>askE_ok hok hr hE.hd.text (foAt_short hE.kids) he
 generalize hO1:(fun g=>O g /\ g < w.heap.size) = O1 at hA hC hG1
 clear hO1 hck hok hlow hB hE hr hG
 unfold exV at hC ⊢
 have HA:Hid (CA w O O1 b s s c h ka kn kc (((w.alloc (.cells #[I J h.kind,I J h.num,.string (bs h.text),.slice ka kn kc,I J h.pl] 173)).alloc (.cells #[.bool false,.string ⟨#[]⟩,I J 0,I J 0] 183)).alloc (.cells #[I J 0,I J 0] 87))):=hA
 clear hA
 go_enter Tryz.func131,Tryz.ntmps131
 go_upto_region 1 with (fail)
 generalize (((w.alloc (.cells #[I J h.kind,I J h.num,.string (bs h.text),.slice ka kn kc,I J h.pl] 173)).alloc (.cells #[.bool false,.string ⟨#[]⟩,I J 0,I J 0] 183)).alloc (.cells #[I J 0,I J 0] 87)) = w1 at *
 have x0:w1.cell? ⟨w.heap.size,0,none⟩ = some (I J h.kind):=HA.out.box.cell rfl
 have x1:w1.cell? ⟨w.heap.size,1,none⟩ = some (I J h.num):=HA.out.box.cell rfl
 have x2:w1.cell? ⟨w.heap.size,2,none⟩ = some (.string (bs h.text)):=HA.out.box.cell rfl
 have x3:w1.cell? ⟨w.heap.size,3,none⟩ = some (.slice ka kn kc):=HA.out.box.cell rfl
 have x4:w1.cell? ⟨w.heap.size,4,none⟩ = some (I J h.pl):=HA.out.box.cell rfl
 have HC0:=hC w1 HA.out
 have HG1:Hid (G O1 w1):=hG1 w1 HA.out
 have HGF:Hid (∀ O O' W W',G O W -> Fr O W W' -> (∀ g,O' g -> O g \/ W.heap.size <= g) -> G O' W'):=hGf
 have HQ:Hid (∀ O' s' c' m W,CkAt O' b s' c' W -> CkOk c' -> Sm c c' -> MnOk c'.values.length m -> G O' W -> Calls Tryz.prog 155 #[mnV m,.pointer (some ⟨g,0,none⟩)] W fun e w'=>e = .returned (I J (q m)) /\ Below W.heap.size W w'):=hQ
 have HOK:Hid (∀ c' m,askE c (h,k) = .ok (c',m) -> CkOk c' /\ MnOk c'.values.length m /\ Sm c c'):=hokE
 clear hC hG1 hGf hQ hokE
 cases hl:askE c (h,k) with
 | error f=>
   have HL:Hid (Calls Tryz.prog 130 #[.pointer (some ⟨b,0,none⟩),.agg #[I J h.kind,I J h.num,.string (bs h.text),.slice ka kn kc,I J h.pl]] w1 fun e w'=>f.1 ≠ 0 /\ e = .returned (.tuple #[.agg #[.bool false,.string ⟨#[]⟩,I J 0,I J 0],.agg #[I J f.1,I J f.2]]) /\ Hid (CE w O O1 w')):=by
    refine (calls_err HC0 hl).mono ?_
    rintro e w' ⟨h1,h2,h3⟩
    exact ⟨h1,h2,HA.out.fr.trans h3 HA.out.new,HA.out.r1.fr h3 (fun _ h=>.inl h),HA.out.r2.fr h3 (fun _ h=>.inl h)⟩
   have HX:Hid (askQ q c (h,k) = .error f):=by show _ = _; simp only [askQ,hl]
   clear hl HA HC0 HG1 HGF HQ HOK
   obtain ⟨f1,f2⟩:=f
   simp only at HL
   generalize bs h.text = tx at *
   go_wp2_with fail
   refine HL.out.mono ?_
   rintro e w3 ⟨hf,rfl,HB⟩
   have HF:Hid (f1 ≠ 0):=hf
   have hq:(f1 == 0) = false:=by rw [beq_eq_false_iff_ne]; exact hf
   clear hf HL x0 x1 x2 x3 x4
   have r0:w3.cell? ⟨w.heap.size + 1,0,none⟩ = some (.bool false):=HB.out.r1.cell rfl
   have r1:w3.cell? ⟨w.heap.size + 1,1,none⟩ = some (.string ⟨#[]⟩):=HB.out.r1.cell rfl
   have r2:w3.cell? ⟨w.heap.size + 1,2,none⟩ = some (I J 0):=HB.out.r1.cell rfl
   have r3:w3.cell? ⟨w.heap.size + 1,3,none⟩ = some (I J 0):=HB.out.r1.cell rfl
   have q0:w3.cell? ⟨w.heap.size + 1 + 1,0,none⟩ = some (I J 0):=HB.out.r2.cell rfl
   have q1:w3.cell? ⟨w.heap.size + 1 + 1,1,none⟩ = some (I J 0):=HB.out.r2.cell rfl
   have rf:∀ i,w3.frozen? ⟨w.heap.size + 1,i,none⟩ = false:=fun i=>HB.out.r1.fz i
   have qf:∀ i,w3.frozen? ⟨w.heap.size + 1 + 1,i,none⟩ = false:=fun i=>HB.out.r2.fz i
   have hl1:w.heap.size + 1 < w3.heap.size:=HB.out.r1.lt
   have hl2:w.heap.size + 1 + 1 < w3.heap.size:=HB.out.r2.lt
   have hl0:w.heap.size < w3.heap.size:=by omega
   have hn0:¬ w.heap.size = w3.heap.size:=by omega
   have hn1:¬ w.heap.size + 1 = w3.heap.size:=by omega
   have hn2:¬ w.heap.size + 1 + 1 = w3.heap.size:=by omega
   have hn3:¬ w.heap.size + 1 = w3.heap.size + 1:=by omega
   have hn4:¬ w.heap.size + 1 + 1 = w3.heap.size + 1:=by omega
   go_wp2_with fail
   go_region
   go_wp2
   refine bodyPost_ret (v:=.tuple #[mnV mn0,flV (f1,f2)]) ?_ rfl ?_
   ·simp only [results,hres]
    go_simp
    exact ⟨rfl,rfl⟩
   ·show XPost _ _ _ _ _ _ _
    rw [HX.out]
    exact ⟨HF.out,rfl,(((fr_res HB.out.fr _ _ _ _ _ _).alloc _).alloc _).drew⟩
 | ok x=>
   obtain ⟨c2,m2⟩:=x
   obtain ⟨k1,k2,k3⟩:=HOK.out c2 m2 hl
   have HL:Hid (Calls Tryz.prog 130 #[.pointer (some ⟨b,0,none⟩),.agg #[I J h.kind,I J h.num,.string (bs h.text),.slice ka kn kc,I J h.pl]] w1 fun e w'=>e = .returned (.tuple #[.agg #[.bool m2.isText,.string (bs m2.text),I J m2.place,I J m2.num],.agg #[I J 0,I J 0]]) /\ Hid (∃ O' s',CA w O O' b s s' c2 h ka kn kc w' /\ G O' w')):=by
    refine (calls_okm HC0 hl).mono ?_
    rintro e w' ⟨h1,h2,O',s',h3,h4,h5⟩
    exact ⟨h1,O',s',HA.out.go h2 h4 h3 h5 k1,HGF.out _ _ _ _ HG1.out h2 h4⟩
   have HX:Hid (askQ q c (h,k) = if q m2 = 0 then .ok (c2,m2) else .error (q m2,h.pl)):=by show _ = _; simp only [askQ,hl]
   have HQ2:Hid (∀ O' s' W,CA w O O' b s s' c2 h ka kn kc W -> G O' W -> Calls Tryz.prog 155 #[mnV m2,.pointer (some ⟨g,0,none⟩)] W fun e w'=>e = .returned (I J (q m2)) /\ Below W.heap.size W w'):=fun O' s' W hW hGW=>HQ.out O' s' c2 m2 W hW.ck k1 k3 k2 hGW
   clear hl HA HC0 HG1 HQ HOK k1 k2 k3
   obtain ⟨z,hz⟩:∃ z,z = q m2:=⟨_,rfl⟩
   rw [<- hz] at HX
   have HZ:Hid (z = q m2):=hz
   rw [<- hz] at HQ2
   clear hz HZ
   unfold mnV at HQ2
   obtain ⟨mt2,mx2,mp2,mn2⟩:=m2
   simp only at HL HQ2
   obtain ⟨bx2,hbx2⟩:∃ bx2,bx2 = bs mx2:=⟨_,rfl⟩
   rw [<- hbx2] at HL HQ2
   have HBY:Hid (bx2 = bs mx2):=hbx2
   clear hbx2
   generalize bs h.text = tx at x2 HL ⊢
   go_wp2_with fail
   refine HL.out.mono ?_
   rintro e w3 ⟨rfl,HB0⟩
   obtain ⟨O3,s3,hB3,hG3⟩:=HB0.out
   have HB:Hid (CA w O O3 b s s3 c2 h ka kn kc w3):=hB3
   have HQ3:Hid (∀ o o',Calls Tryz.prog 155 #[.agg #[.bool mt2,.string bx2,I J mp2,I J mn2],.pointer (some ⟨g,0,none⟩)] ((w3.alloc o).alloc o') fun e w'=>e = .returned (I J z) /\ Below ((w3.alloc o).alloc o').heap.size ((w3.alloc o).alloc o') w'):=fun o o'=>by
    have hb:Below w3.heap.size w3 ((w3.alloc o).alloc o'):=((Below.refl _ _).alloc (Nat.le_refl _) o).alloc (by simp) o'
    exact HQ2.out O3 s3 _ (hB3.next hb) (HGF.out O3 O3 w3 _ hG3 (Fr.of_below hb) (fun _ h=>.inl h))
   clear HL x0 x1 x2 x3 x4 HB0 hB3 hG3 HQ2 HGF
   go_wp2_with fail
   refine (HQ3.out _ _).mono ?_
   rintro e w4 ⟨rfl,hb4⟩
   have hnw:=heap_alloc_new w3 (.cells #[.bool mt2,.string bx2,I J mp2,I J mn2] 183)
   have HB4:Hid (CA w O O3 b s s3 c2 h ka kn kc w4 /\ w4.heap[w3.heap.size]? = some (.cells #[.bool mt2,.string bx2,I J mp2,I J mn2] 183 (0,0))):=by
    refine ⟨((HB.out.next ((Below.refl _ _).alloc (Nat.le_refl _) _)).next ((Below.refl _ _).alloc (Nat.le_refl _) _)).next hb4,?_⟩
    rw [hb4.block _ (by simp; omega)]
    exact heap_old hnw
   have hl3:w.heap.size + 1 + 1 < w3.heap.size:=HB.out.r2.lt
   clear hb4 HB HQ3 hnw
   have y0:w4.cell? ⟨w3.heap.size,0,none⟩ = some (.bool mt2):=blk HB4.out.2 rfl
   have y1:w4.cell? ⟨w3.heap.size,1,none⟩ = some (.string bx2):=blk HB4.out.2 rfl
   have y2:w4.cell? ⟨w3.heap.size,2,none⟩ = some (I J mp2):=blk HB4.out.2 rfl
   have y3:w4.cell? ⟨w3.heap.size,3,none⟩ = some (I J mn2):=blk HB4.out.2 rfl
   have x4:w4.cell? ⟨w.heap.size,4,none⟩ = some (I J h.pl):=HB4.out.1.box.cell rfl
   have r0:w4.cell? ⟨w.heap.size + 1,0,none⟩ = some (.bool false):=HB4.out.1.r1.cell rfl
   have r1:w4.cell? ⟨w.heap.size + 1,1,none⟩ = some (.string ⟨#[]⟩):=HB4.out.1.r1.cell rfl
   have r2:w4.cell? ⟨w.heap.size + 1,2,none⟩ = some (I J 0):=HB4.out.1.r1.cell rfl
   have r3:w4.cell? ⟨w.heap.size + 1,3,none⟩ = some (I J 0):=HB4.out.1.r1.cell rfl
   have q0:w4.cell? ⟨w.heap.size + 1 + 1,0,none⟩ = some (I J 0):=HB4.out.1.r2.cell rfl
   have q1:w4.cell? ⟨w.heap.size + 1 + 1,1,none⟩ = some (I J 0):=HB4.out.1.r2.cell rfl
   have rf:∀ i,w4.frozen? ⟨w.heap.size + 1,i,none⟩ = false:=fun i=>HB4.out.1.r1.fz i
   have qf:∀ i,w4.frozen? ⟨w.heap.size + 1 + 1,i,none⟩ = false:=fun i=>HB4.out.1.r2.fz i
   by_cases hz0:z = 0
   ·subst hz0
    rw [if_pos rfl] at HX
    go_wp2
    refine bodyPost_ret (v:=.tuple #[mnV ⟨mt2,mx2,mp2,mn2⟩,flV (0,0)]) ?_ rfl ?_
    ·simp only [results,hres]
     unfold mnV flV
     simp only
     rw [<- HBY.out]
     go_simp
    ·show XPost _ _ _ _ _ _ _
     rw [HX.out]
     have hd:=HB4.out.1.done (.bool mt2) (.string bx2) (I J mp2) (I J mn2) (I J 0) (I J 0)
     exact ⟨rfl,hd.1,O3,s3,HB4.out.1.sv,HB4.out.1.new,hd.2⟩
   ·have hq:(z == 0) = false:=by rw [beq_eq_false_iff_ne]; exact hz0
    rw [if_neg hz0] at HX
    have HZ:Hid (z ≠ 0):=hz0
    clear hz0
    have hw0:¬ w.heap.size = w.heap.size + 1:=by omega
    have hw1:¬ w.heap.size = w.heap.size + 1 + 1:=by omega
    generalize hpl:h.pl = pl at *
    have HS1:Hid (∀ (W:World) (i:Nat) (u:Value),W.cell? ⟨w.heap.size,4,none⟩ = some (I J pl) -> (W.setCell ⟨w.heap.size + 1,i,none⟩ u).cell? ⟨w.heap.size,4,none⟩ = some (I J pl)):=fun W i u hW=>by
     rw [World.cell?_of_block (w:=W) (a:=⟨w.heap.size,4,none⟩) (heap_other rfl hw0)]; exact hW
    have HS2:Hid (∀ (W:World) (i:Nat) (u:Value),W.cell? ⟨w.heap.size,4,none⟩ = some (I J pl) -> (W.setCell ⟨w.heap.size + 1 + 1,i,none⟩ u).cell? ⟨w.heap.size,4,none⟩ = some (I J pl)):=fun W i u hW=>by
     rw [World.cell?_of_block (w:=W) (a:=⟨w.heap.size,4,none⟩) (heap_other rfl hw1)]; exact hW
    have r6d:Hid (∀ W:World,W.cell? ⟨w.heap.size,4,none⟩ = some (I J pl) -> W.drew.cell? ⟨w.heap.size,4,none⟩ = some (I J pl)):=fun W h=>h
    go_wp2_with fail
    go_region_held3 (fun W=>W.cell? ⟨w.heap.size,4,none⟩ = some (I J pl)) (((try with_reducible refine r6d.out _ ?_); repeat (first | with_reducible exact x4 | with_reducible refine HS1.out _ _ _ ?_ | with_reducible refine HS2.out _ _ _ ?_))) (fail)
    rename_i hh
    clear hh HS1 HS2 r6d
    go_wp2
    refine bodyPost_ret (v:=.tuple #[mnV mn0,flV (z,pl)]) ?_ rfl ?_
    ·simp only [results,hres]
     go_simp
     exact ⟨rfl,rfl⟩
    ·show XPost _ _ _ _ _ _ _
     rw [HX.out]
     exact ⟨HZ.out,rfl,(fr_res HB4.out.1.fr _ _ _ _ _ _).drew⟩
set_option maxRecDepth 20000
abbrev Lo:=Nat × List Value × TypeId
/-- The checker (if what was said is known), and blocks of the call's own beside it. -/
structure LS (w:World) (O0 O:Nat -> Prop) (b:Nat) (s0 s:Sl) (oc:Option Ck) (L:List Lo) (W:World):Prop where
 ck:∀ c,oc = some c -> CkAt O b s c W /\ CkOk c /\ s.sv = s0.sv
 fr:Fr O0 w W
 new:∀ g,O g -> O0 g \/ w.heap.size <= g
 tight:∀ g,O g -> g < W.heap.size
 loc:∀ x ∈ L,Lc O W x.1 x.2.1 x.2.2 /\ w.heap.size <= x.1
 nd:(L.map (·.1)).Nodup
section
variable {w W W':World} {O0 O O':Nat -> Prop} {b:Nat} {s0 s s':Sl} {oc:Option Ck} {L:List Lo}
theorem LS.next (h:LS w O0 O b s0 s oc L W) (hb:Below W.heap.size W W'):LS w O0 O b s0 s oc L W':=
 ⟨fun c hc=>⟨(h.ck c hc).1.below hb,(h.ck c hc).2⟩,h.fr.then_below hb,h.new,fun g hg=>Nat.lt_of_lt_of_le (h.tight g hg) hb.size,fun x hx=>⟨(h.loc x hx).1.next hb,(h.loc x hx).2⟩,h.nd⟩
theorem LS.drew (h:LS w O0 O b s0 s oc L W):LS w O0 O b s0 s oc L W.drew:=h.next (Below.refl _ _).drew
theorem LS.alloc (h:LS w O0 O b s0 s oc L W) (cs:List Value) (ty:TypeId):LS w O0 O b s0 s oc ((W.heap.size,cs,ty) :: L) (W.alloc (.cells cs.toArray ty)):=by
 have hb:Below W.heap.size W (W.alloc (.cells cs.toArray ty)):=(Below.refl _ _).alloc (Nat.le_refl _) _
 have h1:=h.next hb
 refine ⟨h1.ck,h1.fr,h1.new,h1.tight,fun x hx=>?_,?_⟩
 ·rcases List.mem_cons.1 hx with rfl | hx
  ·exact ⟨Lc.new (fun ho=>by have:=h.tight _ ho; omega),h.fr.size⟩
  ·exact h1.loc x hx
 ·simp only [List.map_cons,List.nodup_cons]
  refine ⟨fun hm=>?_,h.nd⟩
  obtain ⟨x,hx,e⟩:=List.mem_map.1 hm
  have:=(h.loc x hx).1.lt
  omega
theorem LS.allocE (h:LS w O0 O b s0 s oc L W) (cs:List Value) (ty:TypeId) {V:World} {g:Nat} (hV:V = W.alloc (.cells cs.toArray ty)) (hg:g = W.heap.size):LS w O0 O b s0 s oc ((g,cs,ty) :: L) V:=by
 subst hV hg; exact h.alloc cs ty
/-- A call that has changed the checker's blocks alone. -/
theorem LS.go {oc':Option Ck} (h:LS w O0 O b s0 s oc L W) (hf:Fr O W W') (hO:∀ g,O' g -> O g \/ W.heap.size <= g) (hck:∀ c,oc' = some c -> CkAt O' b s' c W' /\ CkOk c /\ s'.sv = s0.sv) :
 LS w O0 (fun g=>O' g /\ g < W'.heap.size) b s0 s' oc' L W':=by
 have hsz:=h.fr.size
 refine ⟨fun c hc=>⟨(hck c hc).1.tight,(hck c hc).2⟩,h.fr.trans hf h.new,fun g hg=>?_,fun g hg=>hg.2,fun x hx=>⟨?_,(h.loc x hx).2⟩,h.nd⟩
 ·rcases hO g hg.1 with h1 | h1
  ·exact h.new g h1
  ·exact .inr (by omega)
 ·have h1:=(h.loc x hx).1.fr hf hO
  exact ⟨h1.heap,fun ho=>h1.off ho.1⟩
theorem LS.sub (h:LS w O0 O b s0 s oc L W) {L':List Lo} (hs:∀ x ∈ L',x ∈ L) (hn:(L'.map (·.1)).Nodup):LS w O0 O b s0 s oc L' W:=⟨h.ck,h.fr,h.new,h.tight,fun x hx=>h.loc x (hs x hx),hn⟩
/-- A store into the first of the blocks. -/
theorem LS.put {g:Nat} {cs:List Value} {ty:TypeId} (h:LS w O0 O b s0 s oc ((g,cs,ty) :: L) W) (i:Nat) (u:Value):LS w O0 O b s0 s oc ((g,cs.set i u,ty) :: L) (W.setCell ⟨g,i,none⟩ u):=by
 have h0:=h.loc _ (List.mem_cons_self ..)
 have hnd:=h.nd
 simp only [List.map_cons,List.nodup_cons] at hnd
 refine ⟨fun c hc=>⟨ck_set (h.ck c hc).1 h0.1.off i u,(h.ck c hc).2⟩,h.fr.setCell (.inr h0.2) i u,h.new,fun k hk=>by have:=h.tight k hk; simpa [World.setCell] using this,fun x hx=>?_,h.nd⟩
 rcases List.mem_cons.1 hx with rfl | hx
 ·exact ⟨h0.1.put i u,h0.2⟩
 ·exact ⟨(h.loc x (by simp [hx])).1.other (fun e=>hnd.1 (by rw [<- e]; exact List.mem_map_of_mem hx)) i u,(h.loc x (by simp [hx])).2⟩
theorem LS.at (h:LS w O0 O b s0 s oc L W) {g:Nat} {cs:List Value} {ty:TypeId} (hx:(g,cs,ty) ∈ L) {i:Nat} {u:Value} (hi:cs[i]? = some u):W.cell? ⟨g,i,none⟩ = some u:=(h.loc _ hx).1.cell hi
theorem LS.fz (h:LS w O0 O b s0 s oc L W) {g:Nat} {cs:List Value} {ty:TypeId} (hx:(g,cs,ty) ∈ L) (i:Nat):W.frozen? ⟨g,i,none⟩ = false:=(h.loc _ hx).1.fz i
theorem LS.lt (h:LS w O0 O b s0 s oc L W) {g:Nat} {cs:List Value} {ty:TypeId} (hx:(g,cs,ty) ∈ L):g < W.heap.size:=(h.loc _ hx).1.lt
theorem LS.blk (h:LS w O0 O b s0 s oc L W) {g:Nat} {cs:List Value} {ty:TypeId} (hx:(g,cs,ty) ∈ L):W.heap[g]? = some (.cells cs.toArray ty (0,0)):=(h.loc _ hx).1.heap
end
theorem LS.start {b:Nat} {s:Sl} {c:Ck} {w:World} {O:Nat -> Prop} (hck:CkAt O b s c w) (hok:CkOk c):LS w O (fun g=>O g /\ g < w.heap.size) b s s (some c) [] w:=
 ⟨fun c' hc=>by cases hc; exact ⟨hck.tight,hok,rfl⟩,Fr.refl O w,fun g hg=>.inl hg.1,fun g hg=>hg.2,fun x hx=>by simp at hx,by simp⟩
/-- What asking has told. -/
def RQ (r:Er (Ck × Mn)) (m:Mn) (f:Int × Int) (oc:Option Ck):Prop:=
 match r with
 | .error f'=>f = f' /\ f'.1 ≠ 0 /\ m = mn0 /\ oc = none
 | .ok (c',m')=>f = (0,0) /\ m = m' /\ oc = some c'
theorem LS.asks {w W:World} {O0 O:Nat -> Prop} {b:Nat} {s0 s:Sl} {c:Ck} {L:List Lo} {K:Nat} {args:Array Value} {r:Er (Ck × Mn)} (h:LS w O0 O b s0 s (some c) L W) (hC:Calls Tryz.prog K args W (XPost O b s W r)) (hok:∀ c' m,r = .ok (c',m) -> CkOk c') :
 Calls Tryz.prog K args W fun e w'=>∃ m f oc O' s',e = .returned (.tuple #[.agg #[.bool m.isText,.string (bs m.text),I J m.place,I J m.num],.agg #[I J f.1,I J f.2]]) /\ Hid (RQ r m f oc /\ LS w O0 O' b s0 s' oc L w'):=by
 refine hC.mono ?_
 intro e w' hp
 cases r with
 | error f=>
   obtain ⟨h1,h2,h3⟩:=hp
   exact ⟨mn0,f,none,_,s,h2,⟨rfl,h1,rfl,rfl⟩,h.go (O':=O) h3 (fun _ h=>.inl h) (fun c hc=>by cases hc)⟩
 | ok x=>
   obtain ⟨c',m⟩:=x
   obtain ⟨h1,h2,O',s',h3,h4,h5⟩:=hp
   exact ⟨m,(0,0),some c',_,s',h1,⟨rfl,rfl,rfl⟩,h.go h2 h4 (fun c1 hc=>by cases hc; exact ⟨h5,hok c' m rfl,h3.trans (h.ck c rfl).2.2⟩)⟩
/-- An expression in its box. -/
theorem LS.askNum {B:Nat} {w W:World} {O0 O:Nat -> Prop} {b:Nat} {s0 s:Sl} {c:Ck} {L:List Lo} (h:LS w O0 O b s0 s (some c) L W) (hd:Hd) (k:Fo) (ka:Option Addr) (kn kc:Nat) (least:Int) (g:Nat) (hg:(g,[I J least],3) ∈ L) (hlow:∀ g,O0 g -> B <= g) (hB:B <= w.heap.size)
 (hE:ExAt false (fun g=>g < B) w (hd,k) ka kn) (hr:okE hd k) :
 Calls Tryz.prog 131 #[.pointer (some ⟨b,0,none⟩),.agg #[I J hd.kind,I J hd.num,.string (bs hd.text),.slice ka kn kc,I J hd.pl],.func (.func 158) #[] #[.pointer (some ⟨g,0,none⟩)]] W fun e w'=>∃ m f oc O' s',e = .returned (.tuple #[.agg #[.bool m.isText,.string (bs m.text),I J m.place,I J m.num],.agg #[I J f.1,I J f.2]]) /\ Hid (RQ (askQ (numFrom least) c (hd,k)) m f oc /\ LS w O0 O' b s0 s' oc L w'):=by
 have hE':ExAt false (fun g=>g < B) W (hd,k) ka kn:=⟨hE.hd,hE.few,foAt_keep (fun q hq hqB=>h.fr.block q hq (fun ho=>by have:=hlow q ho; omega)) hE.kids⟩
 have hlow':∀ g,O g -> B <= g:=fun q hq=>by rcases h.new q hq with h1 | h1; exact hlow q h1; omega
 obtain ⟨k1,k2,k3⟩:=h.ck c rfl
 refine h.asks ?_ (fun c' m hm=>?_)
 ·refine asked_126 hd k ka kn kc g (numFrom least) (fun O W=>Lc O W g [I J least] 3) W k1 k2 hlow' (Nat.le_trans hB h.fr.size) hE' hr (h.loc _ hg).1 (fun O O' W W' h1 h2 h3=>h1.fr h2 h3) ?_
  intro O' s' c' m W' _ _ _ _ hL
  exact numQ_calls least m g W' (hL.cell rfl)
 ·unfold askQ at hm
  split at hm
  ·cases hm
  ·rename_i c1 m1 he
   split at hm
   ·cases hm
    exact (askE_ok k2 hr hE.hd.text (foAt_short hE.kids) he).1
   ·cases hm
theorem LS.askText {B:Nat} {w W:World} {O0 O:Nat -> Prop} {b:Nat} {s0 s:Sl} {c:Ck} {L:List Lo} (h:LS w O0 O b s0 s (some c) L W) (hd:Hd) (k:Fo) (ka:Option Addr) (kn kc:Nat) (right:List UInt8 -> Bool) (g:Nat) (G:(Nat -> Prop) -> World -> Prop) (hlow:∀ g,O0 g -> B <= g) (hB:B <= w.heap.size)
 (hE:ExAt false (fun g=>g < B) w (hd,k) ka kn) (hr:okE hd k) (hG:G O W) (hGf:∀ O O' W W',G O W -> Fr O W W' -> (∀ g,O' g -> O g \/ W.heap.size <= g) -> G O' W')
 (hQ:∀ O' s' c' m W,CkAt O' b s' c' W -> CkOk c' -> Sm c c' -> MnOk c'.values.length m -> G O' W -> Calls Tryz.prog 155 #[mnV m,.pointer (some ⟨g,0,none⟩)] W fun e w'=>e = .returned (I J (textQ right m)) /\ Below W.heap.size W w') :
 Calls Tryz.prog 131 #[.pointer (some ⟨b,0,none⟩),.agg #[I J hd.kind,I J hd.num,.string (bs hd.text),.slice ka kn kc,I J hd.pl],.func (.func 155) #[] #[.pointer (some ⟨g,0,none⟩)]] W fun e w'=>∃ m f oc O' s',e = .returned (.tuple #[.agg #[.bool m.isText,.string (bs m.text),I J m.place,I J m.num],.agg #[I J f.1,I J f.2]]) /\ Hid (RQ (askQ (textQ right) c (hd,k)) m f oc /\ LS w O0 O' b s0 s' oc L w'):=by
 have hE':ExAt false (fun g=>g < B) W (hd,k) ka kn:=⟨hE.hd,hE.few,foAt_keep (fun q hq hqB=>h.fr.block q hq (fun ho=>by have:=hlow q ho; omega)) hE.kids⟩
 have hlow':∀ g,O g -> B <= g:=fun q hq=>by rcases h.new q hq with h1 | h1; exact hlow q h1; omega
 obtain ⟨k1,k2,k3⟩:=h.ck c rfl
 refine h.asks ?_ (fun c' m hm=>?_)
 ·exact asked_123 hd k ka kn kc g (textQ right) G W k1 k2 hlow' (Nat.le_trans hB h.fr.size) hE' hr hG hGf hQ
 ·unfold askQ at hm
  split at hm
  ·cases hm
  ·rename_i c1 m1 he
   split at hm
   ·cases hm
    exact (askE_ok k2 hr hE.hd.text (foAt_short hE.kids) he).1
   ·cases hm
theorem alloc109_step {o:Oper} {y:Nat -> Option Bool} {a:Act} {w:World} {K:Act -> World -> Prop} {Q:Exit -> Act -> World -> Prop} {d:Nat} (h1:o.op = .alloc 183) (h2:o.dst = some d) (h3:o.guard = none)
 (h:∀ V g,V = w.alloc (.cells (mnL mn0).toArray 183) -> g = w.heap.size -> K (a.put (some d) (.pointer (some ⟨g,0,none⟩))) V) :
 if Region.wanted o y = true then Oper.wp Tryz.prog o a w K Q else K (a.put o.dst undef) w:=by
 obtain ⟨dst,op,type,pos,after,guard⟩:=o
 simp only at h1 h2 h3
 subst h1 h2 h3
 have:=h _ _ rfl rfl
 clear h
 simp only [mnL,mn0,bs] at this
 go_simp
 exact this
section
variable {P:Program} {ops:Array Oper} {Q:Exit -> Act -> World -> Prop} {md:Region.Mode} {S:World -> Prop} {x:Nat -> Bool}
end
theorem store109_step {o:Oper} {y:Nat -> Option Bool} {a:Act} {w:World} {K:Act -> World -> Prop} {Q:Exit -> Act -> World -> Prop} {p q g:Nat} {t:Bool} {x:ByteArray} {n1 n2:Int} (h1:o.op = .store 183 (.tmp p) (.tmp q)) (h2:o.dst = none) (h3:o.guard = none)
 (e1:a.tmps[p]?.getD undef = .pointer (some ⟨g,0,none⟩)) (e2:a.tmps[q]?.getD undef = .agg #[.bool t,.string x,I J n1,I J n2]) (hc:w.heap[g]? = some (.cells (mnL mn0).toArray 183 (0,0)))
 (h:∀ V,V = (((w.setCell ⟨g,0,none⟩ (.bool t)).setCell ⟨g,1,none⟩ (.string x)).setCell ⟨g,2,none⟩ (I J n1)).setCell ⟨g,3,none⟩ (I J n2) -> K a V) :
 if Region.wanted o y = true then Oper.wp Tryz.prog o a w K Q else K (a.put o.dst undef) w:=by
 obtain ⟨dst,op,type,pos,after,guard⟩:=o
 simp only at h1 h2 h3
 subst h1 h2 h3
 have:=h _ rfl
 have q0:=blk (i:=0) (u:=.bool false) hc rfl
 have q1:=blk (i:=1) (u:=.string ⟨#[]⟩) hc rfl
 have q2:=blk (i:=2) (u:=I J 0) hc rfl
 have q3:=blk (i:=3) (u:=I J 0) hc rfl
 have f0:=fun i=>blkf i hc
 clear h hc
 go_simp
 exact this
theorem store32_step {o:Oper} {y:Nat -> Option Bool} {a:Act} {w:World} {K:Act -> World -> Prop} {Q:Exit -> Act -> World -> Prop} {p q g:Nat} {u v:Int} (h1:o.op = .store 87 (.tmp p) (.tmp q)) (h2:o.dst = none) (h3:o.guard = none)
 (e1:a.tmps[p]?.getD undef = .pointer (some ⟨g,0,none⟩)) (e2:a.tmps[q]?.getD undef = .agg #[I J u,I J v]) (hc:w.heap[g]? = some (.cells (flL (0,0)).toArray 87 (0,0)))
 (h:∀ V,V = (w.setCell ⟨g,0,none⟩ (I J u)).setCell ⟨g,1,none⟩ (I J v) -> K a V) :
 if Region.wanted o y = true then Oper.wp Tryz.prog o a w K Q else K (a.put o.dst undef) w:=by
 obtain ⟨dst,op,type,pos,after,guard⟩:=o
 simp only at h1 h2 h3
 subst h1 h2 h3
 have:=h _ rfl
 have q0:=blk (i:=0) (u:=I J 0) hc rfl
 have q1:=blk (i:=1) (u:=I J 0) hc rfl
 have f0:=fun i=>blkf i hc
 clear h hc
 go_simp
 exact this
section
variable {w W V:World} {O0 O:Nat -> Prop} {b:Nat} {s0 s:Sl} {oc:Option Ck} {L:List Lo} {g:Nat}
theorem LS.store109 (h:LS w O0 O b s0 s oc ((g,mnL mn0,183) :: L) W) (m:Mn) {x:ByteArray} (hx:x = bs m.text) (hV:V = (((W.setCell ⟨g,0,none⟩ (.bool m.isText)).setCell ⟨g,1,none⟩ (.string x)).setCell ⟨g,2,none⟩ (I J m.place)).setCell ⟨g,3,none⟩ (I J m.num)):LS w O0 O b s0 s oc ((g,mnL m,183) :: L) V:=by
 subst hV hx
 exact (((h.put 0 (.bool m.isText)).put 1 (.string (bs m.text))).put 2 (I J m.place)).put 3 (I J m.num)
theorem LS.store32 {f0:Int × Int} (h:LS w O0 O b s0 s oc ((g,flL f0,87) :: L) W) (f:Int × Int) (hV:V = (W.setCell ⟨g,0,none⟩ (I J f.1)).setCell ⟨g,1,none⟩ (I J f.2)):LS w O0 O b s0 s oc ((g,flL f,87) :: L) V:=by
 subst hV
 exact (h.put 0 (I J f.1)).put 1 (I J f.2)
/-- Any of the blocks to the front. -/
theorem LS.front (h:LS w O0 O b s0 s oc L W) {x:Lo} {L1 L2:List Lo} (hL:L = L1 ++ x :: L2):LS w O0 O b s0 s oc (x :: (L1 ++ L2)) W:=by
 subst hL
 refine h.sub (fun y hy=>by simp only [List.mem_cons,List.mem_append] at hy ⊢; rcases hy with h1 | h1 | h1 <;> simp [h1]) ?_
 have:=h.nd
 simp only [List.map_append,List.map_cons] at this ⊢
 exact (List.perm_middle.nodup_iff).1 this
end
/-- What an item leaves. -/
def TPost (O:Nat -> Prop) (b:Nat) (w:World) (r:Er Ck) (e:Ending) (w':World):Prop:=
 match r with
 | .error f=>f.1 ≠ 0 /\ e = .returned (flV f) /\ Fr O w w'
 | .ok c'=>e = .returned (flV (0,0)) /\ Fr O w w' /\ ∃ O' s',(∀ g,O' g -> O g \/ w.heap.size <= g) /\ CkAt O' b s' c' w'
theorem call95c_step {o:Oper} {y:Nat -> Option Bool} {a:Act} {w:World} {K:Act -> World -> Prop} {Q:Exit -> Act -> World -> Prop} {d:Nat} {l:Int} (h1:o.op = .call { callee:=.value (.func 137),args:=#[.const (I J l)],argTypes:=#[3] }) (h2:o.dst = some d) (h3:o.guard = none)
 (h:∀ V g,V = w.alloc (.cells [I J l].toArray 3) -> g = w.heap.size -> K (a.put (some d) (.func (.func 158) #[] #[.pointer (some ⟨g,0,none⟩)])) V) :
 if Region.wanted o y = true then Oper.wp Tryz.prog o a w K Q else K (a.put o.dst undef) w:=by
 obtain ⟨dst,op,type,pos,after,guard⟩:=o
 simp only at h1 h2 h3
 subst h1 h2 h3
 go_simp
 refine (numberFrom_calls l w).mono ?_
 rintro e V ⟨rfl,hV⟩
 exact h V _ hV rfl
theorem call89_step {o:Oper} {y:Nat -> Option Bool} {a:Act} {w:World} {K:Act -> World -> Prop} {Q:Exit -> Act -> World -> Prop} {i j l d:Nat} {v1 v2 v3:Value} (h1:o.op = .call { callee:=.value (.func 131),args:=#[.tmp i,.tmp j,.tmp l],argTypes:=#[136,173,209] }) (h2:o.dst = some d) (h3:o.guard = none)
 (e1:a.tmps[i]?.getD undef = v1) (e2:a.tmps[j]?.getD undef = v2) (e3:a.tmps[l]?.getD undef = v3) (h:Calls Tryz.prog 131 #[v1,v2,v3] w fun e w'=>∃ u,e = .returned u /\ K (a.put (some d) u) w') :
 if Region.wanted o y = true then Oper.wp Tryz.prog o a w K Q else K (a.put o.dst undef) w:=by
 obtain ⟨dst,op,type,pos,after,guard⟩:=o
 simp only at h1 h2 h3
 subst h1 h2 h3
 subst e1 e2 e3
 go_simp
 refine h.mono ?_
 rintro e V ⟨u,rfl,hV⟩
 exact hV
theorem wpAnyY_takeD {P:Program} {ops:Array Oper} {Q:Exit -> Act -> World -> Prop} {md:Region.Mode} {S:World -> Prop} {x:Nat -> Bool} {i:Nat} (d:Nat) {oi:Oper} {v:Value} {fuel:Nat} {listed:Array Bool} {a:Act} {w:World} (hi:ops[i]? = some oi) (hd:oi.dst = some d)
 (hs:Region.noSelect ops = true) (hc:closedB md ops listed = true) (hx:∀ j,x j = true -> waitsB md ops i ops.size j = true) (hf:Region.free md ops listed i = true) (hr:(Region.ready md ops listed).contains i = true)
 (hQ:∀ c a w,Q (.panic c) (a.put (some d) v) w -> Q (.panic c) a w) (hS:S w) (hy:YieldsIf P ops S oi v a)
 (h:wpAnyY P md ops Q S x fuel (listed.setIfInBounds i true) (a.put (some d) v) w):wpAnyY P md ops Q S x (fuel + 1) listed a w:=by
 rw [<- hd] at hQ h
 exact wpAnyY_take hi hs hc hx hf hr hQ hS hy h
set_option maxRecDepth 20000
set_option maxHeartbeats 1000000
structure Sc where
 letters:List UInt8
 defs:List Df
 subst:List Int
 pieces:List (Int × Int)
 mode:Int
 banded:Bool
 lo:Int
 hi:Int
 front:Int
 back:Int
 least:Int
def scCells (x:Sc) (da:Option Addr) (dn dc:Nat) (sa:Option Addr) (sn sc:Nat) (pa:Option Addr) (pn pc:Nat):Array Value:=
 #[.string (bs x.letters),.slice da dn dc,.slice sa sn sc,.slice pa pn pc,I J x.mode,.bool x.banded,I J x.lo,I J x.hi,I J x.front,I J x.back,I J x.least]
/-- Pieces that can be read in a world. -/
structure PcsAt (w:World) (ao:Option Addr) (n:Nat) (l:List (Int × Int)):Prop where
 length:l.length = n
 short:n <= maxLen
 cells:0 < n -> ∃ g off,ao = some ⟨g,off,none⟩ /\ ∀ (i:Nat) (p:Int × Int),l[i]? = some p -> w.cell? ⟨g,off + i * 2,none⟩ = some (I J p.1) /\ w.cell? ⟨g,off + i * 2 + 1,none⟩ = some (I J p.2)
theorem PcsAt.below {w w':World} {ao:Option Addr} {n:Nat} {l:List (Int × Int)} (h:PcsAt w ao n l) (hb:Below w.heap.size w w'):PcsAt w' ao n l:=by
 refine ⟨h.length,h.short,fun h0=>?_⟩
 obtain ⟨g,off,e,hc⟩:=h.cells h0
 refine ⟨g,off,e,fun i q hi=>?_⟩
 obtain ⟨h1,h2⟩:=hc i q hi
 exact ⟨by rw [hb.cell (World.block_lt_of_cell? w _ h1)]; exact h1,by rw [hb.cell (World.block_lt_of_cell? w _ h2)]; exact h2⟩
structure ScAt (w:World) (x:Sc) (da:Option Addr) (dn:Nat) (sa:Option Addr) (sn:Nat) (pa:Option Addr) (pn:Nat):Prop where
 letters:x.letters.length <= maxLen
 defs:DfsAt w da dn x.defs
 subst:IntA w sa sn x.subst
 pieces:PcsAt w pa pn x.pieces
theorem ScAt.below {w w':World} {x:Sc} {da:Option Addr} {dn:Nat} {sa:Option Addr} {sn:Nat} {pa:Option Addr} {pn:Nat} (h:ScAt w x da dn sa sn pa pn) (hb:Below w.heap.size w w'):ScAt w' x da dn sa sn pa pn:=⟨h.letters,h.defs.below hb,h.subst.below hb,h.pieces.below hb⟩
def pcsB (vs:List Int) (l:List (Int × Int)):Bool:=l.all fun p=>fromP vs 0 [p.1,p.2]
def bandS (vs:List Int) (x:Sc):Bool:=if x.banded then fromP vs (-72057594037927936) [x.lo,x.hi] && decide (vAt vs x.lo <= vAt vs x.hi) else decide (x.lo = 0 /\ x.hi = 0)
def arePl (vs:List Int) (x:Sc):Bool:=pcsB vs x.pieces && fromP vs (-72057594037927936) x.subst && fromP vs (-72057594037927936) [x.least] && fromP vs 0 [x.front,x.back] && bandS vs x
theorem pcsB_bad {vs:List Int} {l:List (Int × Int)} (k:Nat) (g:Int × Int) (hk:l[k]? = some g) (h:fromP vs 0 [g.1,g.2] = false):pcsB vs l = false:=by
 unfold pcsB
 rw [List.all_eq_false]
 exact ⟨g,List.mem_of_getElem? hk,by simp [h]⟩
theorem pcsB_all {vs:List Int} {l:List (Int × Int)} (h:∀ (j:Nat) (g:Int × Int),l[j]? = some g -> fromP vs 0 [g.1,g.2] = true):pcsB vs l = true:=by
 unfold pcsB
 rw [List.all_eq_true]
 intro g hg
 obtain ⟨j,hj⟩:=List.getElem?_of_mem hg
 exact h j g hj
theorem two_intA (W:World) (a b:Int) (g:Nat) (hg:g = W.heap.size):IntA (W.alloc (.cells #[I J a,I J b] 3)) (some ⟨g,0,none⟩) 2 [a,b]:=intA_new (l:=[a,b]) hg (by unfold maxLen; simp)
theorem one_intA (W:World) (a:Int) (g:Nat) (hg:g = W.heap.size):IntA (W.alloc (.cells #[I J a] 3)) (some ⟨g,0,none⟩) 1 [a]:=intA_new (l:=[a]) hg (by unfold maxLen; simp)
/-- Two boxes: the scheme, and the list of numbers. -/
structure PB (w:World) (cs:Array Value) (v:Value) (wr:World):Prop where
 low:Below w.heap.size w wr
 box:wr.heap[w.heap.size]? = some (.cells cs 57 (0,0))
 vb:wr.heap[w.heap.size + 1]? = some (.cells #[v] 23 (0,0))
theorem PB.start (w:World) (cs:Array Value) (v:Value):PB w cs v ((w.alloc (.cells cs 57)).alloc (.cells #[v] 23)):=by
 refine ⟨((Below.refl _ _).alloc (Nat.le_refl _) _).alloc (by simp) _,?_,?_⟩
 ·have hb:=(Below.refl (w.alloc (.cells cs 57)).heap.size (w.alloc (.cells cs 57))).alloc (Nat.le_refl _) (.cells #[v] 23)
  rw [hb.block _ (by simp)]
  exact heap_alloc_new w _
 ·have h:=heap_alloc_new (w.alloc (.cells cs 57)) (.cells #[v] 23)
  rwa [show (w.alloc (.cells cs 57)).heap.size = w.heap.size + 1 by simp] at h
theorem PB.next {w:World} {cs:Array Value} {v:Value} {wr w2:World} (h:PB w cs v wr) (hb:Below wr.heap.size wr w2):PB w cs v w2:=
 ⟨h.low.trans (hb.mono h.low.size),by rw [hb.block _ (lt_block h.box)]; exact h.box,by rw [hb.block _ (lt_block h.vb)]; exact h.vb⟩
theorem PB.alloc {w:World} {cs:Array Value} {v:Value} {wr:World} (h:PB w cs v wr) (o:Obj):PB w cs v (wr.alloc o):=h.next ((Below.refl _ _).alloc (Nat.le_refl _) o)
theorem PB.drew {w:World} {cs:Array Value} {v:Value} {wr:World} (h:PB w cs v wr):PB w cs v wr.drew:=h.next (Below.refl _ _).drew
theorem arePlaces_calls (x:Sc) (da:Option Addr) (dn dc:Nat) (sa:Option Addr) (sn sc:Nat) (pa:Option Addr) (pn pc:Nat) (vs:List Int) (vo:Option Addr) (vn vc:Nat) (w:World) (h:ScAt w x da dn sa sn pa pn) (hv:IntA w vo vn vs) :
 Calls Tryz.prog 102 #[.agg (scCells x da dn dc sa sn sc pa pn pc),.slice vo vn vc] w fun e w'=>e = .returned (.bool (arePl vs x)) /\ Below w.heap.size w w':=by
 have hmf:∀ (fn:Fn) (first cap:Array Value) (w:World),(Instr.makeFunc fn first cap).run Tryz.prog w = .ok (.func fn first cap) w:=fun _ _ _ _=>rfl
 have hpn:=h.pieces.short
 have hvn:=hv.short
 unfold maxLen at hpn hvn
 have HS:Hid (ScAt w x da dn sa sn pa pn):=h
 have HV:Hid (IntA w vo vn vs):=hv
 have HF:Hid (∀ W least ps po n c,PB w (scCells x da dn dc sa sn sc pa pn pc) (.slice vo vn vc) W -> IntA W po n ps -> Calls Tryz.prog 141 #[I J least,.slice po n c,.pointer (some ⟨w.heap.size + 1,0,none⟩)] W fun e w'=>e = .returned (.bool (fromP vs least ps)) /\ W = w'):=fun W least ps po n c hW hp=>from_calls vs vo vn vc (w.heap.size + 1) least ps po n c W (hv.below hW.low) hp (blk hW.vb rfl)
 clear h hv
 have HN:Hid (arePl vs x = (pcsB vs x.pieces && fromP vs (-72057594037927936) x.subst && fromP vs (-72057594037927936) [x.least] && fromP vs 0 [x.front,x.back] && bandS vs x)):=rfl
 have HBd:Hid (bandS vs x = if x.banded then fromP vs (-72057594037927936) [x.lo,x.hi] && decide (vAt vs x.lo <= vAt vs x.hi) else decide (x.lo = 0 /\ x.hi = 0)):=rfl
 rw [show scCells x da dn dc sa sn sc pa pn pc = #[.string (bs x.letters),.slice da dn dc,.slice sa sn sc,.slice pa pn pc,I J x.mode,.bool x.banded,I J x.lo,I J x.hi,I J x.front,I J x.back,I J x.least] from rfl]
 go_enter Tryz.func102,Tryz.ntmps102
 go_wp2
 go_loopw [7,12] (fun _ i wr=>∃ k:Nat,k <= pn /\ i = I J k /\ (∀ (j:Nat) (g:Int × Int),j < k -> x.pieces[j]? = some g -> fromP vs 0 [g.1,g.2] = true) /\ PB w (scCells x da dn dc sa sn sc pa pn pc) (.slice vo vn vc) wr) (fun _ i _=>pn - (intOf i).toNat)
 case atStart=>exact ⟨0,Nat.zero_le _,rfl,fun j g hj=>by omega,PB.start _ _ _⟩
 case round=>
  obtain ⟨k,hk,rfl,hall,hbx⟩:=hrel
  have HA:Hid (∀ (j:Nat) (g:Int × Int),j < k -> x.pieces[j]? = some g -> fromP vs 0 [g.1,g.2] = true):=hall
  have HX:Hid (PB w (scCells x da dn dc sa sn sc pa pn pc) (.slice vo vn vc) wr):=hbx
  clear hall hbx
  by_cases hlt:k < pn
  ·obtain ⟨g,hgk⟩:∃ g,x.pieces[k]? = some g:=⟨x.pieces[k]'(by rw [HS.out.pieces.length]; exact hlt),List.getElem?_eq_getElem _⟩
   obtain ⟨b,off,rfl,hcs⟩:=(HS.out.pieces.below HX.out.low).cells (by omega)
   obtain ⟨c1,c2⟩:=hcs k g hgk
   have HG:Hid (x.pieces[k]? = some g):=hgk
   clear hcs hgk
   obtain ⟨a,y⟩:=g
   simp only at c1 c2
   generalize hr:fromP vs 0 [a,y] = r
   have HR:Hid (fromP vs 0 [a,y] = r):=hr
   clear hr
   have HX2:Hid (PB w (scCells x da dn dc sa sn sc (some ⟨b,off,none⟩) pn pc) (.slice vo vn vc) ((wr.alloc (.cells #[I J a,I J y] 150)).alloc (.cells #[I J a,I J y] 3))):=(HX.out.alloc _).alloc _
   go_wp2_with fail
   refine (HF.out _ 0 [a,y] _ 2 2 HX2.out (two_intA _ a y _ (by simp))).mono ?_
   rintro e w' ⟨rfl,rfl⟩
   rw [HR.out]
   cases r
   ·go_wp2
    go_ret
    exact ⟨ret_bool (by rw [HN.out,pcsB_bad k _ HG.out HR.out]; rfl),HX2.out.low⟩
   ·go_wp2
    go_roundw
    case rel=>
     refine ⟨k + 1,by omega,by go_num,?_,HX2.out⟩
     intro j g hj hjg
     by_cases e:j = k
     ·subst e; rw [HG.out] at hjg; cases hjg; exact HR.out
     ·exact HA.out j g (by omega) hjg
    case measure=>simp [intOf]; omega
  ·have HGs:Hid (pcsB vs x.pieces = true):=pcsB_all (fun j g hj=>HA.out j g (by have:=(List.getElem?_eq_some_iff.1 hj).1; rw [HS.out.pieces.length] at this; omega) hj)
   have HI:Hid (IntA wr sa sn x.subst):=HS.out.subst.below HX.out.low
   have HVr:Hid (IntA wr vo vn vs):=HV.out.below HX.out.low
   have c2:wr.cell? ⟨w.heap.size,2,none⟩ = some (.slice sa sn sc):=blk HX.out.box rfl
   have c5:wr.cell? ⟨w.heap.size,5,none⟩ = some (.bool x.banded):=blk HX.out.box rfl
   have c6:wr.cell? ⟨w.heap.size,6,none⟩ = some (I J x.lo):=blk HX.out.box rfl
   have c7:wr.cell? ⟨w.heap.size,7,none⟩ = some (I J x.hi):=blk HX.out.box rfl
   have c8:wr.cell? ⟨w.heap.size,8,none⟩ = some (I J x.front):=blk HX.out.box rfl
   have c9:wr.cell? ⟨w.heap.size,9,none⟩ = some (I J x.back):=blk HX.out.box rfl
   have c10:wr.cell? ⟨w.heap.size,10,none⟩ = some (I J x.least):=blk HX.out.box rfl
   have hsz:w.heap.size < wr.heap.size:=lt_block HX.out.box
   have hsz2:w.heap.size < wr.heap.size + 1:=by omega
   clear HA
   have HN2:Hid (arePl vs x = (fromP vs (-72057594037927936) x.subst && fromP vs (-72057594037927936) [x.least] && fromP vs 0 [x.front,x.back] && if x.banded then fromP vs (-72057594037927936) [x.lo,x.hi] && decide (vAt vs x.lo <= vAt vs x.hi) else decide (x.lo = 0 /\ x.hi = 0))):=by
    have:=HN.out
    rw [HGs.out,HBd.out] at this
    exact this
   clear HBd HN HGs HV HS
   obtain ⟨r1,hr1⟩:∃ r,fromP vs (-72057594037927936) x.subst = r:=⟨_,rfl⟩
   obtain ⟨r2,hr2⟩:∃ r,fromP vs (-72057594037927936) [x.least] = r:=⟨_,rfl⟩
   obtain ⟨r3,hr3⟩:∃ r,fromP vs 0 [x.front,x.back] = r:=⟨_,rfl⟩
   obtain ⟨r4,hr4⟩:∃ r,fromP vs (-72057594037927936) [x.lo,x.hi] = r:=⟨_,rfl⟩
   have HNN:Hid (arePl vs x = (r1 && r2 && r3 && if x.banded then r4 && decide (vAt vs x.lo <= vAt vs x.hi) else decide (x.lo = 0 /\ x.hi = 0))):=by
    have:=HN2.out
    rw [hr1,hr2,hr3,hr4] at this
    exact this
   have H1:Hid (fromP vs (-72057594037927936) x.subst = r1):=hr1
   have H2:Hid (fromP vs (-72057594037927936) [x.least] = r2):=hr2
   have H3:Hid (fromP vs 0 [x.front,x.back] = r3):=hr3
   have H4:Hid (fromP vs (-72057594037927936) [x.lo,x.hi] = r4):=hr4
   clear hr1 hr2 hr3 hr4 HN2
   go_wp2_with fail
   refine (HF.out _ (-72057594037927936) x.subst _ _ _ HX.out HI.out).mono ?_
   rintro e w' ⟨rfl,rfl⟩
   rw [H1.out]
   cases r1
   ·go_wp2
    go_ret
    exact ⟨ret_bool (by rw [HNN.out]; rfl),HX.out.low⟩
   have HX1:Hid (PB w (scCells x da dn dc sa sn sc pa pn pc) (.slice vo vn vc) (wr.alloc (.cells #[I J x.least] 3))):=HX.out.alloc _
   go_wp2_with fail
   refine (HF.out _ (-72057594037927936) [x.least] _ _ _ HX1.out (one_intA _ x.least _ rfl)).mono ?_
   rintro e w' ⟨rfl,rfl⟩
   rw [H2.out]
   cases r2
   ·go_wp2
    go_ret
    exact ⟨ret_bool (by rw [HNN.out]; rfl),HX1.out.low⟩
   have HX2:Hid (PB w (scCells x da dn dc sa sn sc pa pn pc) (.slice vo vn vc) ((wr.alloc (.cells #[I J x.least] 3)).alloc (.cells #[I J x.front,I J x.back] 3))):=HX1.out.alloc _
   go_wp2_with fail
   refine (HF.out _ 0 [x.front,x.back] _ _ _ HX2.out (two_intA _ x.front x.back _ (by simp))).mono ?_
   rintro e w' ⟨rfl,rfl⟩
   rw [H3.out]
   cases r3
   ·go_wp2
    go_ret
    exact ⟨ret_bool (by rw [HNN.out]; rfl),HX2.out.low⟩
   cases hbd:x.banded
   ·have c5':((wr.alloc (.cells #[I J x.least] 3)).alloc (.cells #[I J x.front,I J x.back] 3)).cell? ⟨w.heap.size,5,none⟩ = some (.bool false):=by have:((wr.alloc (.cells #[I J x.least] 3)).alloc (.cells #[I J x.front,I J x.back] 3)).cell? ⟨w.heap.size,5,none⟩ = some (.bool x.banded):=blk HX2.out.box rfl; rw [hbd] at this; exact this
    rw [hbd] at HNN
    have HN3:Hid (arePl vs x = decide (x.lo = 0 /\ x.hi = 0)):=by show arePl vs x = _; have:=HNN.out; simpa using this
    have HB:Hid (Below w.heap.size w ((wr.alloc (.cells #[I J x.least] 3)).alloc (.cells #[I J x.front,I J x.back] 3))):=HX2.out.low
    clear hbd HNN c5
    have c5:wr.cell? ⟨w.heap.size,5,none⟩ = some (.bool false):=by
     have hb2:Below wr.heap.size wr ((wr.alloc (.cells #[I J x.least] 3)).alloc (.cells #[I J x.front,I J x.back] 3)):=((Below.refl _ _).alloc (Nat.le_refl _) _).alloc (by simp) _
     rw [hb2.cell (p:=⟨w.heap.size,5,none⟩) hsz] at c5'
     exact c5'
    clear c5'
    by_cases h0:x.lo = 0
    ·have hb:(x.lo == 0) = true:=by simpa using h0
     go_wp2
     go_ret
     exact ⟨ret_bool (by rw [HN3.out]; simp [h0,beqz]),HB.out⟩
    ·have hb:(x.lo == 0) = false:=by simpa using h0
     go_wp2
     go_ret
     exact ⟨ret_bool (by rw [HN3.out]; simp [h0]),HB.out⟩
   ·rw [hbd] at HNN c5
    have HN3:Hid (arePl vs x = (r4 && decide (vAt vs x.lo <= vAt vs x.hi))):=by show arePl vs x = _; have:=HNN.out; simpa using this
    clear hbd HNN
    have HX3:Hid (PB w (scCells x da dn dc sa sn sc pa pn pc) (.slice vo vn vc) ((wr.alloc (.cells #[I J x.least] 3)).alloc (.cells #[I J x.front,I J x.back] 3)).drew):=HX2.out.drew
    have HX4:Hid (PB w (scCells x da dn dc sa sn sc pa pn pc) (.slice vo vn vc) (((wr.alloc (.cells #[I J x.least] 3)).alloc (.cells #[I J x.front,I J x.back] 3)).alloc (.cells #[I J x.lo,I J x.hi] 3)).drew):=(HX2.out.alloc _).drew
    have HC:Hid (Calls Tryz.prog 141 #[I J (-72057594037927936),.slice (some ⟨wr.heap.size + 1 + 1,0,none⟩) 2 2,.pointer (some ⟨w.heap.size + 1,0,none⟩)] (((wr.alloc (.cells #[I J x.least] 3)).alloc (.cells #[I J x.front,I J x.back] 3)).alloc (.cells #[I J x.lo,I J x.hi] 3)).drew fun e w'=>e = .returned (.bool r4) /\ (((wr.alloc (.cells #[I J x.least] 3)).alloc (.cells #[I J x.front,I J x.back] 3)).alloc (.cells #[I J x.lo,I J x.hi] 3)).drew = w'):=by
     rw [<- H4.out]
     exact HF.out _ (-72057594037927936) [x.lo,x.hi] _ 2 2 HX4.out ((two_intA ((wr.alloc (.cells #[I J x.least] 3)).alloc (.cells #[I J x.front,I J x.back] 3)) x.lo x.hi _ (by simp)).below (Below.refl _ _).drew)
    have d6:((wr.alloc (.cells #[I J x.least] 3)).alloc (.cells #[I J x.front,I J x.back] 3)).drew.cell? ⟨w.heap.size,6,none⟩ = some (I J x.lo):=blk HX3.out.box rfl
    have d7:((wr.alloc (.cells #[I J x.least] 3)).alloc (.cells #[I J x.front,I J x.back] 3)).drew.cell? ⟨w.heap.size,7,none⟩ = some (I J x.hi):=blk HX3.out.box rfl
    have dv:((wr.alloc (.cells #[I J x.least] 3)).alloc (.cells #[I J x.front,I J x.back] 3)).drew.cell? ⟨w.heap.size + 1,0,none⟩ = some (.slice vo vn vc):=blk HX3.out.vb rfl
    have e6:(((wr.alloc (.cells #[I J x.least] 3)).alloc (.cells #[I J x.front,I J x.back] 3)).alloc (.cells #[I J x.lo,I J x.hi] 3)).drew.cell? ⟨w.heap.size,6,none⟩ = some (I J x.lo):=blk HX4.out.box rfl
    have e7:(((wr.alloc (.cells #[I J x.least] 3)).alloc (.cells #[I J x.front,I J x.back] 3)).alloc (.cells #[I J x.lo,I J x.hi] 3)).drew.cell? ⟨w.heap.size,7,none⟩ = some (I J x.hi):=blk HX4.out.box rfl
    have ev:(((wr.alloc (.cells #[I J x.least] 3)).alloc (.cells #[I J x.front,I J x.back] 3)).alloc (.cells #[I J x.lo,I J x.hi] 3)).drew.cell? ⟨w.heap.size + 1,0,none⟩ = some (.slice vo vn vc):=blk HX4.out.vb rfl
    cases r4
    ·have HN4:Hid (arePl vs x = false):=by show arePl vs x = _; have:=HN3.out; simpa using this
     clear HN3 HF H1 H2 H3 H4 HI
     go_wp2_with fail
     have HSx:(fun W:World=>W.cell? ⟨w.heap.size,6,none⟩ = some (I J x.lo) /\ W.cell? ⟨w.heap.size,7,none⟩ = some (I J x.hi)) ((wr.alloc (.cells #[I J x.least] 3)).alloc (.cells #[I J x.front,I J x.back] 3)).drew:=⟨d6,d7⟩
     have HSy:(fun W:World=>W.cell? ⟨w.heap.size,6,none⟩ = some (I J x.lo) /\ W.cell? ⟨w.heap.size,7,none⟩ = some (I J x.hi)) (((wr.alloc (.cells #[I J x.least] 3)).alloc (.cells #[I J x.front,I J x.back] 3)).alloc (.cells #[I J x.lo,I J x.hi] 3)).drew:=⟨e6,e7⟩
     refine wp_region_Y (fun _=>false) (fun W:World=>W.cell? ⟨w.heap.size,6,none⟩ = some (I J x.lo) /\ W.cell? ⟨w.heap.size,7,none⟩ = some (I J x.hi)) (by kernel_rfl) ?_
     refine wpAnyY_takeD (i:=0) 59 (v:=.func (.func 141) #[] #[.pointer (some ⟨w.heap.size + 1,0,none⟩)]) rfl rfl (by kernel_rfl) (by kernel_rfl) (fun _ h=>by cases h) (by kernel_rfl) (by kernel_rfl) (fun _ _ _ h=>h) HSx (Or.inl ⟨by rfl,by (intro W hW; have z6:=hW.1; have z7:=hW.2; go_simp)⟩) ?_
     simp only [Act.put,lA,lB,lC]
     refine wpAnyY_takeD (i:=1) 60 (v:=.pointer (some ⟨w.heap.size,6,none⟩)) rfl rfl (by kernel_rfl) (by kernel_rfl) (fun _ h=>by cases h) (by kernel_rfl) (by kernel_rfl) (fun _ _ _ h=>h) HSx (Or.inl ⟨by rfl,by (intro W hW; have z6:=hW.1; have z7:=hW.2; go_simp)⟩) ?_
     simp only [Act.put,lA,lB,lC]
     refine wpAnyY_takeD (i:=2) 61 (v:=I J x.lo) rfl rfl (by kernel_rfl) (by kernel_rfl) (fun _ h=>by cases h) (by kernel_rfl) (by kernel_rfl) (fun _ _ _ h=>h) HSx (Or.inl ⟨by rfl,by (intro W hW; have z6:=hW.1; have z7:=hW.2; go_simp)⟩) ?_
     simp only [Act.put,lA,lB,lC]
     refine wpAnyY_takeD (i:=3) 62 (v:=.pointer (some ⟨w.heap.size,7,none⟩)) rfl rfl (by kernel_rfl) (by kernel_rfl) (fun _ h=>by cases h) (by kernel_rfl) (by kernel_rfl) (fun _ _ _ h=>h) HSx (Or.inl ⟨by rfl,by (intro W hW; have z6:=hW.1; have z7:=hW.2; go_simp)⟩) ?_
     simp only [Act.put,lA,lB,lC]
     refine wpAnyY_takeD (i:=4) 63 (v:=I J x.hi) rfl rfl (by kernel_rfl) (by kernel_rfl) (fun _ h=>by cases h) (by kernel_rfl) (by kernel_rfl) (fun _ _ _ h=>h) HSx (Or.inl ⟨by rfl,by (intro W hW; have z6:=hW.1; have z7:=hW.2; go_simp)⟩) ?_
     simp only [Act.put,lA,lB,lC]
     refine wpAnyY_one (i:=5) rfl (by kernel_rfl) (fun K hK=>?_)
     go_simp
     refine hK.out _ _ (fun _=>HSy) ?_
     clear hK K
     refine wpAnyY_one (i:=6) rfl (by kernel_rfl) (fun K hK=>?_)
     go_simp
     refine (HC.out).mono ?_
     rintro e w' ⟨rfl,rfl⟩
     refine hK.out _ _ (fun _=>HSy) ?_
     clear hK K
     refine wpAnyY_one (i:=7) rfl (by kernel_rfl) (fun K hK=>?_)
     go_simp
     refine hK.out _ _ (fun _=>HSy) ?_
     clear hK K
     refine wpAnyY_takeD (i:=8) 67 (v:=undef) rfl rfl (by kernel_rfl) (by kernel_rfl) (fun _ h=>by cases h) (by kernel_rfl) (by kernel_rfl) (fun _ _ _ h=>h) HSy (Or.inr ⟨by rfl,rfl⟩) ?_
     simp only [Act.put,lA,lB,lC]
     refine wpAnyY_takeD (i:=9) 68 (v:=undef) rfl rfl (by kernel_rfl) (by kernel_rfl) (fun _ h=>by cases h) (by kernel_rfl) (by kernel_rfl) (fun _ _ _ h=>h) HSy (Or.inr ⟨by rfl,rfl⟩) ?_
     simp only [Act.put,lA,lB,lC]
     refine wpAnyY_takeD (i:=10) 69 (v:=undef) rfl rfl (by kernel_rfl) (by kernel_rfl) (fun _ h=>by cases h) (by kernel_rfl) (by kernel_rfl) (fun _ _ _ h=>h) HSy (Or.inr ⟨by rfl,rfl⟩) ?_
     simp only [Act.put,lA,lB,lC]
     refine wpAnyY_takeD (i:=11) 70 (v:=undef) rfl rfl (by kernel_rfl) (by kernel_rfl) (fun _ h=>by cases h) (by kernel_rfl) (by kernel_rfl) (fun _ _ _ h=>h) HSy (Or.inr ⟨by rfl,rfl⟩) ?_
     simp only [Act.put,lA,lB,lC]
     refine wpAnyY_takeD (i:=12) 71 (v:=undef) rfl rfl (by kernel_rfl) (by kernel_rfl) (fun _ h=>by cases h) (by kernel_rfl) (by kernel_rfl) (fun _ _ _ h=>h) HSy (Or.inr ⟨by rfl,rfl⟩) ?_
     simp only [Act.put,lA,lB,lC]
     refine wpAnyY_takeD (i:=13) 72 (v:=undef) rfl rfl (by kernel_rfl) (by kernel_rfl) (fun _ h=>by cases h) (by kernel_rfl) (by kernel_rfl) (fun _ _ _ h=>h) HSy (Or.inr ⟨by rfl,rfl⟩) ?_
     simp only [Act.put,lA,lB,lC]
     refine wpAnyY_takeD (i:=14) 73 (v:=undef) rfl rfl (by kernel_rfl) (by kernel_rfl) (fun _ h=>by cases h) (by kernel_rfl) (by kernel_rfl) (fun _ _ _ h=>h) HSy (Or.inr ⟨by rfl,rfl⟩) ?_
     simp only [Act.put,lA,lB,lC]
     refine wpAnyY_takeD (i:=15) 74 (v:=undef) rfl rfl (by kernel_rfl) (by kernel_rfl) (fun _ h=>by cases h) (by kernel_rfl) (by kernel_rfl) (fun _ _ _ h=>h) HSy (Or.inr ⟨by rfl,rfl⟩) ?_
     simp only [Act.put,lA,lB,lC]
     refine wpAnyY_takeD (i:=16) 75 (v:=undef) rfl rfl (by kernel_rfl) (by kernel_rfl) (fun _ h=>by cases h) (by kernel_rfl) (by kernel_rfl) (fun _ _ _ h=>h) HSy (Or.inr ⟨by rfl,rfl⟩) ?_
     simp only [Act.put,lA,lB,lC]
     refine wpAnyY_takeD (i:=17) 76 (v:=undef) rfl rfl (by kernel_rfl) (by kernel_rfl) (fun _ h=>by cases h) (by kernel_rfl) (by kernel_rfl) (fun _ _ _ h=>h) HSy (Or.inr ⟨by rfl,rfl⟩) ?_
     simp only [Act.put,lA,lB,lC]
     refine wpAnyY_takeD (i:=18) 77 (v:=undef) rfl rfl (by kernel_rfl) (by kernel_rfl) (fun _ h=>by cases h) (by kernel_rfl) (by kernel_rfl) (fun _ _ _ h=>h) HSy (Or.inr ⟨by rfl,rfl⟩) ?_
     simp only [Act.put,lA,lB,lC]
     refine wpAnyY_one (i:=19) rfl (by kernel_rfl) (fun K hK=>?_)
     go_simp
     refine hK.out _ _ (fun _=>HSy) ?_
     clear hK K
     refine wpAnyY_one (i:=20) rfl (by kernel_rfl) (fun K hK=>?_)
     go_simp
     refine hK.out _ _ (fun _=>HSy) ?_
     clear hK K
     refine wpAnyY_done (by kernel_rfl) ?_ _
     go_wp2
     go_ret
     exact ⟨ret_bool HN4.out.symm,HX4.out.low⟩
    ·have HN4:Hid (arePl vs x = decide (vAt vs x.lo <= vAt vs x.hi)):=by show arePl vs x = _; have:=HN3.out; simpa using this
     have hp:=H4.out
     have hpl:(0 <= x.lo /\ x.lo < vn) /\ 0 <= x.hi /\ x.hi < vn:=by
      have hl:=HVr.out.length
      unfold fromP placeB at hp
      simp only [List.all_cons,List.all_nil,Bool.and_true,Bool.and_eq_true,decide_eq_true_eq] at hp
      omega
     obtain ⟨⟨l0,l1⟩,l2,l3⟩:=hpl
     obtain ⟨ql,hql⟩:=Int.eq_ofNat_of_zero_le l0
     obtain ⟨qh,hqh⟩:=Int.eq_ofNat_of_zero_le l2
     have hVd:=HVr.out.below (((Below.refl _ _).alloc (Nat.le_refl _) (.cells #[I J x.least] 3)).alloc (by simp) (.cells #[I J x.front,I J x.back] 3))
     have hVe:=hVd.below ((Below.refl _ _).alloc (Nat.le_refl _) (.cells #[I J x.lo,I J x.hi] 3))
     have hlt1:ql < vs.length:=by rw [HVr.out.length]; omega
     have hlt2:qh < vs.length:=by rw [HVr.out.length]; omega
     obtain ⟨g2,o2,hvo,hcd1⟩:=hVd.isI ql _ (vAt_get hlt1)
     subst hvo
     obtain ⟨_,_,e2,hcd2⟩:=hVd.isI qh _ (vAt_get hlt2)
     cases e2
     obtain ⟨_,_,e2,hce1⟩:=hVe.isI ql _ (vAt_get hlt1)
     cases e2
     obtain ⟨_,_,e2,hce2⟩:=hVe.isI qh _ (vAt_get hlt2)
     cases e2
     rw [hql,hqh] at HN4
     generalize vAt vs (ql:Int) = y1 at *
     generalize vAt vs (qh:Int) = y2 at *
     have fd1:((wr.alloc (.cells #[I J x.least] 3)).alloc (.cells #[I J x.front,I J x.back] 3)).drew.cell? ⟨g2,o2 + ql,none⟩ = some (I J y1):=hcd1
     have fd2:((wr.alloc (.cells #[I J x.least] 3)).alloc (.cells #[I J x.front,I J x.back] 3)).drew.cell? ⟨g2,o2 + qh,none⟩ = some (I J y2):=hcd2
     have fe1:(((wr.alloc (.cells #[I J x.least] 3)).alloc (.cells #[I J x.front,I J x.back] 3)).alloc (.cells #[I J x.lo,I J x.hi] 3)).drew.cell? ⟨g2,o2 + ql,none⟩ = some (I J y1):=hce1
     have fe2:(((wr.alloc (.cells #[I J x.least] 3)).alloc (.cells #[I J x.front,I J x.back] 3)).alloc (.cells #[I J x.lo,I J x.hi] 3)).drew.cell? ⟨g2,o2 + qh,none⟩ = some (I J y2):=hce2
     have HLo:Hid (x.lo = ql /\ x.hi = qh):=⟨hql,hqh⟩
     have k1:ql < vn:=by omega
     have k2:qh < vn:=by omega
     rw [hql] at d6 e6 e7 ev fe1 fe2 HC HX4
     rw [hqh] at d7 e6 e7 ev fe1 fe2 HC HX4
     clear HN3 HF H1 H2 H3 H4 HI hp l0 l1 l2 l3 hql hqh hlt1 hlt2 hcd1 hcd2 hce1 hce2 hVd hVe HVr
     go_wp2_with fail
     go_region_held3 (fun W=>W.cell? ⟨w.heap.size,6,none⟩ = some (I J (ql:Int)) /\ W.cell? ⟨w.heap.size,7,none⟩ = some (I J (qh:Int)) /\ W.cell? ⟨w.heap.size + 1,0,none⟩ = some (.slice (some ⟨g2,o2,none⟩) vn vc) /\ W.cell? ⟨g2,o2 + ql,none⟩ = some (I J y1) /\ W.cell? ⟨g2,o2 + qh,none⟩ = some (I J y2)) (first | with_reducible assumption | exact ⟨by with_reducible assumption,by with_reducible assumption,by with_reducible assumption,by with_reducible assumption,by with_reducible assumption⟩) (first
      | (go_at_call 141; with_reducible refine (HC.out).mono ?_; rintro e w' ⟨rfl,rfl⟩))
     go_wp2
     go_ret
     exact ⟨ret_bool HN4.out.symm,HX4.out.low⟩
set_option maxRecDepth 20000
set_option maxHeartbeats 1000000
abbrev St:=Int × List (Int × Int)
structure Rc where
 letters:Int
 defs:List Df
 subst:List Int
 beg:Int
 fin:Int
 front:Int
 back:Int
 banded:Bool
 lo:Int
 hi:Int
 states:List St
def rcCells (x:Rc) (da:Option Addr) (dn dc:Nat) (sa:Option Addr) (sn sc:Nat) (ta:Option Addr) (tn tc:Nat):Array Value:=
 #[I J x.letters,.slice da dn dc,.slice sa sn sc,I J x.beg,I J x.fin,I J x.front,I J x.back,.bool x.banded,I J x.lo,I J x.hi,.slice ta tn tc]
/-- States that can be read in a world. -/
structure StsAt (w:World) (ao:Option Addr) (n:Nat) (l:List St):Prop where
 length:l.length = n
 short:n <= maxLen
 cells:0 < n -> ∃ g off,ao = some ⟨g,off,none⟩ /\ ∀ (i:Nat) (s:St),l[i]? = some s -> ∃ ea en ec,w.cell? ⟨g,off + i * 2,none⟩ = some (I J s.1) /\ w.cell? ⟨g,off + i * 2 + 1,none⟩ = some (.slice ea en ec) /\ PcsAt w ea en s.2
theorem StsAt.below {w w':World} {ao:Option Addr} {n:Nat} {l:List St} (h:StsAt w ao n l) (hb:Below w.heap.size w w'):StsAt w' ao n l:=by
 refine ⟨h.length,h.short,fun h0=>?_⟩
 obtain ⟨g,off,e,hc⟩:=h.cells h0
 refine ⟨g,off,e,fun i q hi=>?_⟩
 obtain ⟨ea,en,ec,h1,h2,h3⟩:=hc i q hi
 exact ⟨ea,en,ec,by rw [hb.cell (World.block_lt_of_cell? w _ h1)]; exact h1,by rw [hb.cell (World.block_lt_of_cell? w _ h2)]; exact h2,h3.below hb⟩
structure RcAt (w:World) (x:Rc) (da:Option Addr) (dn:Nat) (sa:Option Addr) (sn:Nat) (ta:Option Addr) (tn:Nat):Prop where
 defs:DfsAt w da dn x.defs
 subst:IntA w sa sn x.subst
 states:StsAt w ta tn x.states
theorem RcAt.below {w w':World} {x:Rc} {da:Option Addr} {dn:Nat} {sa:Option Addr} {sn:Nat} {ta:Option Addr} {tn:Nat} (h:RcAt w x da dn sa sn ta tn) (hb:Below w.heap.size w w'):RcAt w' x da dn sa sn ta tn:=⟨h.defs.below hb,h.subst.below hb,h.states.below hb⟩
/-- Whether a number lies between two. -/
def inI (n a b:Int):Bool:=decide (a <= n) && decide (n <= b)
theorem inI_iff {n a b:Int}:inI n a b = true ↔ a <= n /\ n <= b:=by simp [inI]
theorem inI_no {n a b:Int}:inI n a b = false ↔ n < a \/ b < n:=by simp [inI]; omega
def placesB (n:Int) (ps:List Int):Bool:=ps.all fun p=>inI p 0 (n - 1)
def edgesB (states defs:Int):Int -> List (Int × Int) -> Bool
 | _,[]=>true
 | least,e :: r=>inI e.1 least (states - 1) && (decide (e.2 = -1) || inI e.2 0 (defs - 1)) && edgesB states defs (e.1 + 1) r
def stateB (states defs:Int) (s:St):Bool:=inI s.1 1 3 && edgesB states defs (-1) s.2
def substR (x:Rc):Bool:=inI x.letters 2 20 && (decide ((x.subst.length:Int) = x.letters * x.letters) && placesB x.defs.length x.subst)
def endsR (x:Rc) (vs:List Int):Bool:=inI x.beg 1 3 && (inI x.fin 1 3 && (placesB vs.length [x.front,x.back] && (decide (0 <= vAt vs x.front) && decide (0 <= vAt vs x.back))))
def bandR (x:Rc):Bool:=if x.banded then decide (x.lo <= x.hi) else decide (x.lo = 0) && decide (x.hi = 0)
def statesR (x:Rc):Bool:=decide (x.states.length <= 9) && x.states.all (stateB x.states.length x.defs.length)
/-- A recurrence that is right. -/
def rightR (x:Rc):Bool:=decide ((valsB x.defs).2 = 0) && (substR x && (endsR x (valsB x.defs).1 && (bandR x && statesR x)))
/-- The box of a recurrence, and what came behind. -/
structure Rb (w:World) (cs:Array Value) (wr:World):Prop where
 low:Below w.heap.size w wr
 box:wr.heap[w.heap.size]? = some (.cells cs 26 (0,0))
theorem Rb.start (w:World) (cs:Array Value):Rb w cs (w.alloc (.cells cs 26)):=⟨(Below.refl _ _).alloc (Nat.le_refl _) _,heap_alloc_new w _⟩
theorem Rb.next {w:World} {cs:Array Value} {wr w2:World} (h:Rb w cs wr) (hb:Below wr.heap.size wr w2):Rb w cs w2:=
 ⟨h.low.trans (hb.mono h.low.size),by rw [hb.block _ (lt_block h.box)]; exact h.box⟩
theorem Rb.alloc {w:World} {cs:Array Value} {wr:World} (h:Rb w cs wr) (o:Obj):Rb w cs (wr.alloc o):=h.next ((Below.refl _ _).alloc (Nat.le_refl _) o)
theorem inI_calls (n a b:Int) (w:World):Calls Tryz.prog 107 #[I J n,I J a,I J b] w fun e w'=>e = .returned (.bool (inI n a b)) /\ w = w':=by
 by_cases h:a <= n
 ·have hd:decide (a <= n) = true:=by simpa using h
  by_cases k:n <= b
  ·have kd:decide (n <= b) = true:=by simpa using k
   go_enter Tryz.func107,Tryz.ntmps107
   go_wp2
   go_ret
   exact ⟨ret_bool (by simp [inI,h,k]),rfl⟩
  ·have kd:decide (n <= b) = false:=by simpa using k
   go_enter Tryz.func107,Tryz.ntmps107
   go_wp2
   go_ret
   exact ⟨ret_bool (by simp [inI,h,k]),rfl⟩
 ·have hd:decide (a <= n) = false:=by simpa using h
  go_enter Tryz.func107,Tryz.ntmps107
  go_wp2
  go_ret
  exact ⟨ret_bool (by simp [inI]; omega),rfl⟩
theorem placesB_bad {n:Int} {ps:List Int} (k:Nat) (p:Int) (hk:ps[k]? = some p) (h:inI p 0 (n - 1) = false):placesB n ps = false:=by
 unfold placesB
 rw [List.all_eq_false]
 exact ⟨p,List.mem_of_getElem? hk,by simp [h]⟩
theorem placesB_all {n:Int} {ps:List Int} (h:∀ (j:Nat) (p:Int),ps[j]? = some p -> inI p 0 (n - 1) = true):placesB n ps = true:=by
 unfold placesB
 rw [List.all_eq_true]
 intro p hp
 obtain ⟨j,hj⟩:=List.getElem?_of_mem hp
 exact h j p hj
theorem places_calls (n:Nat) (ps:List Int) (po:Option Addr) (pn pc:Nat) (w:World) (hn:n <= maxLen) (hp:IntA w po pn ps) :
 Calls Tryz.prog 108 #[I J (n:Int),.slice po pn pc] w fun e w'=>e = .returned (.bool (placesB n ps)) /\ w = w':=by
 have hpn:=hp.short
 unfold maxLen at hpn hn
 have HP:Hid (IntA w po pn ps):=hp
 clear hp
 go_enter Tryz.func108,Tryz.ntmps108
 go_wp2
 go_loop [6,9] (fun _ i=>∃ k:Nat,k <= pn /\ i = I J k /\ (∀ (j:Nat) (p:Int),j < k -> ps[j]? = some p -> inI p 0 ((n:Int) - 1) = true)) (fun _ i=>pn - (intOf i).toNat)
 case atStart=>exact ⟨0,Nat.zero_le _,rfl,fun j p hj=>by omega⟩
 case round=>
  obtain ⟨k,hk,rfl,hall⟩:=hrel
  have HA:Hid (∀ (j:Nat) (p:Int),j < k -> ps[j]? = some p -> inI p 0 ((n:Int) - 1) = true):=hall
  clear hall
  by_cases hlt:k < pn
  ·obtain ⟨p,hpk⟩:∃ p,ps[k]? = some p:=⟨ps[k]'(by rw [HP.out.length]; exact hlt),List.getElem?_eq_getElem _⟩
   obtain ⟨g1,o1,rfl,hc1⟩:=HP.out.isI k p hpk
   have HK:Hid (ps[k]? = some p):=hpk
   clear hpk
   go_wp2_with fail
   refine (inI_calls p 0 ((n:Int) - 1) w).mono ?_
   rintro e w' ⟨rfl,rfl⟩
   cases hr:inI p 0 ((n:Int) - 1) with
   | false=>
     have HE:Hid (placesB n ps = false):=placesB_bad k p HK.out hr
     go_wp2
     go_ret
     rw [HE.out]; exact ⟨rfl,rfl⟩
   | true=>
     have HR:Hid (inI p 0 ((n:Int) - 1) = true):=hr
     clear hr
     go_wp2
     go_round
     case rel=>
      refine ⟨k + 1,by omega,by go_num,?_⟩
      intro j p' hj hjp
      by_cases e:j = k
      ·subst e; rw [HK.out] at hjp; cases hjp; exact HR.out
      ·exact HA.out j p' (by omega) hjp
     case measure=>simp [intOf]; omega
  ·have HE:Hid (placesB n ps = true):=placesB_all (fun j p hj=>HA.out j p (by have:=(List.getElem?_eq_some_iff.1 hj).1; rw [HP.out.length] at this; omega) hj)
   go_wp2
   go_ret
   rw [HE.out]; exact ⟨rfl,rfl⟩
end Go.Proofs.YtbbbnopganhebabGreat
