/-
  An expression that must be of a kind: asked; what is asked of a number, of a text.
-/
import Derived.Test.YtlaodgdlkkmmeaaGreatG32
namespace Go.Proofs.YtlaodgdlkkmmeaaGreat
open Go.RowKit Go.Deep Go.Maps
open Go.Value renaming int->I,pointer->Φ,string->Ψ,slice->Γ
open Go.IntKind renaming i64->J
open Go.Obj renaming cells->Δ
open Go.Ending renaming returned->Ω
set_option maxRecDepth 20000
set_option maxHeartbeats 4000000
theorem numQ_calls (least:Int) (m:Mn) (g:Nat) (w:World) (hg:w.cell? ⟨g,0,none⟩ = some (I J least)) :
 Calls Tryz.prog 126 #[mnV m,Φ (some ⟨g,0,none⟩)] w fun e w'=>e = Ω (I J (numFrom least m)) /\ Below w.heap.size w w':=by
 have hlt:=World.block_lt_of_cell? w _ hg
 unfold mnV numFrom
 obtain ⟨mt,mx,mp,mn⟩:=m
 simp only
 have HB:Hid (∀ o,Below w.heap.size w (w.alloc o)):=fun o=>(Below.refl _ _).alloc (Nat.le_refl _) o
 have hlt':g < w.heap.size:=hlt
 clear hlt
 generalize bs mx = bx at *
 cases mt with
 | true=>
   go_enter Tryz.func126,Tryz.ntmps126
   go_wp2
   go_ret
   exact ⟨rfl,HB.out _⟩
 | false=>
   by_cases hl:mn < least
   ·have hd:decide (mn < least) = true:=by simpa using hl
    rw [if_neg (by simp),if_pos hl]
    clear hl
    go_enter Tryz.func126,Tryz.ntmps126
    go_wp2
    go_ret
    exact ⟨rfl,HB.out _⟩
   ·have hd:decide (mn < least) = false:=by simpa using hl
    rw [if_neg (by simp),if_neg hl]
    clear hl
    go_enter Tryz.func126,Tryz.ntmps126
    go_wp2
    go_ret
    exact ⟨rfl,HB.out _⟩
theorem numberFrom_calls (least:Int) (w:World):Calls Tryz.prog 95 #[I J least] w fun e w'=>e = Ω (.func (.func 126) #[] #[Φ (some ⟨w.heap.size,0,none⟩)]) /\ w' = w.alloc (Δ #[I J least] 3):=by
 go_enter Tryz.func95,Tryz.ntmps95
 go_wp2
 go_ret
 exact ⟨rfl,rfl⟩
theorem textOf_calls (F:Nat) (first caps:Array Value) (w:World):Calls Tryz.prog 90 #[.func (.func F) first caps] w fun e w'=>e = Ω (.func (.func 123) #[] #[Φ (some ⟨w.heap.size,0,none⟩)]) /\ w' = w.alloc (Δ #[.func (.func F) first caps] 41):=by
 go_enter Tryz.func90,Tryz.ntmps90
 go_wp2
 go_ret
 exact ⟨rfl,rfl⟩
theorem asked_126 {B:Nat} {O:Nat -> Prop} {b:Nat} {s:Sl} {c:Ck} (h:Hd) (k:Fo) (ka:Option Addr) (kn kc g:Nat) (q:Mn -> Int) (G:(Nat -> Prop) -> World -> Prop) (w:World) (hck:CkAt O b s c w) (hok:CkOk c) (hlow:∀ g,O g -> B <= g) (hB:B <= w.heap.size)
 (hE:ExAt false (fun g=>g < B) w (h,k) ka kn) (hr:okE h k) (hG:G O w) (hGf:∀ O O' W W',G O W -> Fr O W W' -> (∀ g,O' g -> O g \/ W.heap.size <= g) -> G O' W')
 (hQ:∀ O' s' c' m W,CkAt O' b s' c' W -> CkOk c' -> Sm c c' -> MnOk c'.values.length m -> G O' W -> Calls Tryz.prog 126 #[mnV m,Φ (some ⟨g,0,none⟩)] W fun e w'=>e = Ω (I J (q m)) /\ Below W.heap.size W w') :
 Calls Tryz.prog 89 #[Φ (some ⟨b,0,none⟩),exV h ka kn kc,.func (.func 126) #[] #[Φ (some ⟨g,0,none⟩)]] w (XPost O b s w (askQ q c (h,k))):=by
 have hres:Tryz.f89.results = #[.cell 6 109,.cell 7 32]:=by kernel_rfl
 have hA:=CA.start hck hok h ka kn kc
 have hC:∀ W,CA w O (fun g=>O g /\ g < w.heap.size) b s s c h ka kn kc W -> Calls Tryz.prog 88 #[Φ (some ⟨b,0,none⟩),exV h ka kn kc] W (XPost (fun g=>O g /\ g < w.heap.size) b s W (askE c (h,k))):=fun W hW=>
  exprC_calls h k ka kn kc W hW.ck hW.ok (fun g hg=>hlow g hg.1) (Nat.le_trans hB hW.fr.size) ⟨hE.hd,hE.few,foAt_keep (fun g hg hgB=>hW.fr.block g hg (fun ho=>by have:=hlow g ho; omega)) hE.kids⟩ hr
 have hG1:∀ W,CA w O (fun g=>O g /\ g < w.heap.size) b s s c h ka kn kc W -> G (fun g=>O g /\ g < w.heap.size) W:=fun W hW=>hGf _ _ w W hG hW.fr (fun g hg=>.inl hg.1)
 have hokE:∀ c' m,askE c (h,k) = .ok (c',m) -> CkOk c' /\ MnOk c'.values.length m /\ Sm c c':=fun c' m he=>askE_ok hok hr hE.hd.text (foAt_short hE.kids) he
 generalize hO1:(fun g=>O g /\ g < w.heap.size) = O1 at hA hC hG1
 clear hO1 hck hok hlow hB hE hr hG
 unfold exV at hC ⊢
 have HA:=hid hA
 clear hA
 go_enter Tryz.func89,Tryz.ntmps89
 go_upto_region 1 with (fail)
 generalize (((w.alloc (Δ #[I J h.kind,I J h.num,Ψ (bs h.text),Γ ka kn kc,I J h.pl] 102)).alloc (Δ #[.bool false,Ψ ⟨#[]⟩,I J 0,I J 0] 109)).alloc (Δ #[I J 0,I J 0] 32)) = w1 at *
 have x0:w1.cell? ⟨w.heap.size,0,none⟩ = some (I J h.kind):=HA.out.box.cell rfl
 have x1:w1.cell? ⟨w.heap.size,1,none⟩ = some (I J h.num):=HA.out.box.cell rfl
 have x2:w1.cell? ⟨w.heap.size,2,none⟩ = some (Ψ (bs h.text)):=HA.out.box.cell rfl
 have x3:w1.cell? ⟨w.heap.size,3,none⟩ = some (Γ ka kn kc):=HA.out.box.cell rfl
 have x4:w1.cell? ⟨w.heap.size,4,none⟩ = some (I J h.pl):=HA.out.box.cell rfl
 have HC0:=hC w1 HA.out
 have HG1:Hid (G O1 w1):=hG1 w1 HA.out
 have HGF:=hid hGf
 have HQ:=hid hQ
 have HOK:=hid hokE
 clear hC hG1 hGf hQ hokE
 cases hl:askE c (h,k) with
 | error f=>
   have HL:Hid (Calls Tryz.prog 88 #[Φ (some ⟨b,0,none⟩),.agg #[I J h.kind,I J h.num,Ψ (bs h.text),Γ ka kn kc,I J h.pl]] w1 fun e w'=>f.1 ≠ 0 /\ e = Ω (.tuple #[.agg #[.bool false,Ψ ⟨#[]⟩,I J 0,I J 0],.agg #[I J f.1,I J f.2]]) /\ Hid (CE w O O1 w')):=by
    refine (calls_err HC0 hl).mono ?_
    rintro e w' ⟨h1,h2,h3⟩
    exact ⟨h1,h2,HA.out.fr.trans h3 HA.out.new,HA.out.r1.fr h3 (fun _ h=>.inl h),HA.out.r2.fr h3 (fun _ h=>.inl h)⟩
   have HX:Hid (askQ q c (h,k) = .error f):=by show _ = _; simp only [askQ,hl]
   clear hl HA HC0 HG1 HGF HQ HOK
   obtain ⟨f1,f2⟩:=f
   simp only at HL
   generalize bs h.text = tx at *
   go_wp2_with fail
   refine HL.out.mono ?_
   rintro e w3 ⟨hf,rfl,HB⟩
   have HF:Hid (f1 ≠ 0):=hf
   have hq:(f1 == 0) = false:=by rw [beq_eq_false_iff_ne]; exact hf
   clear hf HL x0 x1 x2 x3 x4
   have r0:w3.cell? ⟨w.heap.size + 1,0,none⟩ = some (.bool false):=HB.out.r1.cell rfl
   have r1:w3.cell? ⟨w.heap.size + 1,1,none⟩ = some (Ψ ⟨#[]⟩):=HB.out.r1.cell rfl
   have r2:w3.cell? ⟨w.heap.size + 1,2,none⟩ = some (I J 0):=HB.out.r1.cell rfl
   have r3:w3.cell? ⟨w.heap.size + 1,3,none⟩ = some (I J 0):=HB.out.r1.cell rfl
   have q0:w3.cell? ⟨w.heap.size + 1 + 1,0,none⟩ = some (I J 0):=HB.out.r2.cell rfl
   have q1:w3.cell? ⟨w.heap.size + 1 + 1,1,none⟩ = some (I J 0):=HB.out.r2.cell rfl
   have rf:∀ i,w3.frozen? ⟨w.heap.size + 1,i,none⟩ = false:=fun i=>HB.out.r1.fz i
   have qf:∀ i,w3.frozen? ⟨w.heap.size + 1 + 1,i,none⟩ = false:=fun i=>HB.out.r2.fz i
   have hl1:w.heap.size + 1 < w3.heap.size:=HB.out.r1.lt
   have hl2:w.heap.size + 1 + 1 < w3.heap.size:=HB.out.r2.lt
   have hl0:w.heap.size < w3.heap.size:=by omega
   have hn0:¬ w.heap.size = w3.heap.size:=by omega
   have hn1:¬ w.heap.size + 1 = w3.heap.size:=by omega
   have hn2:¬ w.heap.size + 1 + 1 = w3.heap.size:=by omega
   have hn3:¬ w.heap.size + 1 = w3.heap.size + 1:=by omega
   have hn4:¬ w.heap.size + 1 + 1 = w3.heap.size + 1:=by omega
   go_wp2_with fail
   go_region
   go_wp2
   refine bodyPost_ret (v:=.tuple #[mnV mn0,flV (f1,f2)]) ?_ rfl ?_
   ·simp only [results,hres]
    go_simp
    exact ⟨rfl,rfl⟩
   ·show XPost _ _ _ _ _ _ _
    rw [HX.out]
    exact ⟨HF.out,rfl,(((fr_res HB.out.fr _ _ _ _ _ _).alloc _).alloc _).drew⟩
 | ok x=>
   obtain ⟨c2,m2⟩:=x
   obtain ⟨k1,k2,k3⟩:=HOK.out c2 m2 hl
   have HL:Hid (Calls Tryz.prog 88 #[Φ (some ⟨b,0,none⟩),.agg #[I J h.kind,I J h.num,Ψ (bs h.text),Γ ka kn kc,I J h.pl]] w1 fun e w'=>e = Ω (.tuple #[.agg #[.bool m2.isText,Ψ (bs m2.text),I J m2.place,I J m2.num],.agg #[I J 0,I J 0]]) /\ Hid (∃ O' s',CA w O O' b s s' c2 h ka kn kc w' /\ G O' w')):=by
    refine (calls_okm HC0 hl).mono ?_
    rintro e w' ⟨h1,h2,O',s',h3,h4,h5⟩
    exact ⟨h1,O',s',HA.out.go h2 h4 h3 h5 k1,HGF.out _ _ _ _ HG1.out h2 h4⟩
   have HX:Hid (askQ q c (h,k) = if q m2 = 0 then .ok (c2,m2) else .error (q m2,h.pl)):=by show _ = _; simp only [askQ,hl]
   have HQ2:Hid (∀ O' s' W,CA w O O' b s s' c2 h ka kn kc W -> G O' W -> Calls Tryz.prog 126 #[mnV m2,Φ (some ⟨g,0,none⟩)] W fun e w'=>e = Ω (I J (q m2)) /\ Below W.heap.size W w'):=fun O' s' W hW hGW=>HQ.out O' s' c2 m2 W hW.ck k1 k3 k2 hGW
   clear hl HA HC0 HG1 HQ HOK k1 k2 k3
   obtain ⟨z,hz⟩:∃ z,z = q m2:=⟨_,rfl⟩
   rw [<- hz] at HX
   have HZ:Hid (z = q m2):=hz
   rw [<- hz] at HQ2
   clear hz HZ
   unfold mnV at HQ2
   obtain ⟨mt2,mx2,mp2,mn2⟩:=m2
   simp only at HL HQ2
   obtain ⟨bx2,hbx2⟩:∃ bx2,bx2 = bs mx2:=⟨_,rfl⟩
   rw [<- hbx2] at HL HQ2
   have HBY:Hid (bx2 = bs mx2):=hbx2
   clear hbx2
   generalize bs h.text = tx at x2 HL ⊢
   go_wp2_with fail
   refine HL.out.mono ?_
   rintro e w3 ⟨rfl,HB0⟩
   obtain ⟨O3,s3,hB3,hG3⟩:=HB0.out
   have HB:=hid hB3
   have HQ3:Hid (∀ o o',Calls Tryz.prog 126 #[.agg #[.bool mt2,Ψ bx2,I J mp2,I J mn2],Φ (some ⟨g,0,none⟩)] ((w3.alloc o).alloc o') fun e w'=>e = Ω (I J z) /\ Below ((w3.alloc o).alloc o').heap.size ((w3.alloc o).alloc o') w'):=fun o o'=>by
    have hb:Below w3.heap.size w3 ((w3.alloc o).alloc o'):=((Below.refl _ _).alloc (Nat.le_refl _) o).alloc (by simp) o'
    exact HQ2.out O3 s3 _ (hB3.next hb) (HGF.out O3 O3 w3 _ hG3 (Fr.of_below hb) (fun _ h=>.inl h))
   clear HL x0 x1 x2 x3 x4 HB0 hB3 hG3 HQ2 HGF
   go_wp2_with fail
   refine (HQ3.out _ _).mono ?_
   rintro e w4 ⟨rfl,hb4⟩
   have hnw:=heap_alloc_new w3 (Δ #[.bool mt2,Ψ bx2,I J mp2,I J mn2] 109)
   have HB4:Hid (CA w O O3 b s s3 c2 h ka kn kc w4 /\ w4.heap[w3.heap.size]? = some (Δ #[.bool mt2,Ψ bx2,I J mp2,I J mn2] 109 (0,0))):=by
    refine ⟨((HB.out.next ((Below.refl _ _).alloc (Nat.le_refl _) _)).next ((Below.refl _ _).alloc (Nat.le_refl _) _)).next hb4,?_⟩
    rw [hb4.block _ (by simp; omega)]
    exact heap_old hnw
   have hl3:w.heap.size + 1 + 1 < w3.heap.size:=HB.out.r2.lt
   clear hb4 HB HQ3 hnw
   have y0:w4.cell? ⟨w3.heap.size,0,none⟩ = some (.bool mt2):=blk HB4.out.2 rfl
   have y1:w4.cell? ⟨w3.heap.size,1,none⟩ = some (.string bx2):=blk HB4.out.2 rfl
   have y2:w4.cell? ⟨w3.heap.size,2,none⟩ = some (I J mp2):=blk HB4.out.2 rfl
   have y3:w4.cell? ⟨w3.heap.size,3,none⟩ = some (I J mn2):=blk HB4.out.2 rfl
   have x4:w4.cell? ⟨w.heap.size,4,none⟩ = some (I J h.pl):=HB4.out.1.box.cell rfl
   have r0:w4.cell? ⟨w.heap.size + 1,0,none⟩ = some (.bool false):=HB4.out.1.r1.cell rfl
   have r1:w4.cell? ⟨w.heap.size + 1,1,none⟩ = some (Ψ ⟨#[]⟩):=HB4.out.1.r1.cell rfl
   have r2:w4.cell? ⟨w.heap.size + 1,2,none⟩ = some (I J 0):=HB4.out.1.r1.cell rfl
   have r3:w4.cell? ⟨w.heap.size + 1,3,none⟩ = some (I J 0):=HB4.out.1.r1.cell rfl
   have q0:w4.cell? ⟨w.heap.size + 1 + 1,0,none⟩ = some (I J 0):=HB4.out.1.r2.cell rfl
   have q1:w4.cell? ⟨w.heap.size + 1 + 1,1,none⟩ = some (I J 0):=HB4.out.1.r2.cell rfl
   have rf:∀ i,w4.frozen? ⟨w.heap.size + 1,i,none⟩ = false:=fun i=>HB4.out.1.r1.fz i
   have qf:∀ i,w4.frozen? ⟨w.heap.size + 1 + 1,i,none⟩ = false:=fun i=>HB4.out.1.r2.fz i
   by_cases hz0:z = 0
   ·subst hz0
    rw [if_pos rfl] at HX
    go_wp2
    refine bodyPost_ret (v:=.tuple #[mnV ⟨mt2,mx2,mp2,mn2⟩,flV (0,0)]) ?_ rfl ?_
    ·simp only [results,hres]
     unfold mnV flV
     simp only
     rw [<- HBY.out]
     go_simp
    ·show XPost _ _ _ _ _ _ _
     rw [HX.out]
     have hd:=HB4.out.1.done (.bool mt2) (.string bx2) (I J mp2) (I J mn2) (I J 0) (I J 0)
     exact ⟨rfl,hd.1,O3,s3,HB4.out.1.sv,HB4.out.1.new,hd.2⟩
   ·have hq:(z == 0) = false:=by rw [beq_eq_false_iff_ne]; exact hz0
    rw [if_neg hz0] at HX
    have HZ:Hid (z ≠ 0):=hz0
    clear hz0
    have hw0:¬ w.heap.size = w.heap.size + 1:=by omega
    have hw1:¬ w.heap.size = w.heap.size + 1 + 1:=by omega
    generalize hpl:h.pl = pl at *
    have HS1:Hid (∀ (W:World) (i:Nat) (u:Value),W.cell? ⟨w.heap.size,4,none⟩ = some (I J pl) -> (W.setCell ⟨w.heap.size + 1,i,none⟩ u).cell? ⟨w.heap.size,4,none⟩ = some (I J pl)):=fun W i u hW=>by
     rw [World.cell?_of_block (w:=W) (a:=⟨w.heap.size,4,none⟩) (heap_other rfl hw0)]; exact hW
    have HS2:Hid (∀ (W:World) (i:Nat) (u:Value),W.cell? ⟨w.heap.size,4,none⟩ = some (I J pl) -> (W.setCell ⟨w.heap.size + 1 + 1,i,none⟩ u).cell? ⟨w.heap.size,4,none⟩ = some (I J pl)):=fun W i u hW=>by
     rw [World.cell?_of_block (w:=W) (a:=⟨w.heap.size,4,none⟩) (heap_other rfl hw1)]; exact hW
    have r6d:Hid (∀ W:World,W.cell? ⟨w.heap.size,4,none⟩ = some (I J pl) -> W.drew.cell? ⟨w.heap.size,4,none⟩ = some (I J pl)):=fun W h=>h
    go_wp2_with fail
    go_region_held3 (fun W=>W.cell? ⟨w.heap.size,4,none⟩ = some (I J pl)) (((try with_reducible refine r6d.out _ ?_); repeat (first | with_reducible exact x4 | with_reducible refine HS1.out _ _ _ ?_ | with_reducible refine HS2.out _ _ _ ?_))) (fail)
    rename_i hh
    clear hh HS1 HS2 r6d
    go_wp2
    refine bodyPost_ret (v:=.tuple #[mnV mn0,flV (z,pl)]) ?_ rfl ?_
    ·simp only [results,hres]
     go_simp
     exact ⟨rfl,rfl⟩
    ·show XPost _ _ _ _ _ _ _
     rw [HX.out]
     exact ⟨HZ.out,rfl,(fr_res HB4.out.1.fr _ _ _ _ _ _).drew⟩
end Go.Proofs.YtlaodgdlkkmmeaaGreat
