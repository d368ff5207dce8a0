/-
  An expression is asked: expr. A name is asked; expr, all of it. Expressions are asked: expr, for all of them.
-/
import Derived.Test.YtlaodgdlkkmmeaaGreatG31
namespace Go.Proofs.YtlaodgdlkkmmeaaGreat
open Go.RowKit Go.Deep Go.Maps
open Go.Value renaming int->I,pointer->Φ,string->Ψ,slice->Γ
open Go.IntKind renaming i64->J
open Go.Obj renaming cells->Δ
open Go.Ending renaming returned->Ω
set_option maxRecDepth 20000
set_option maxHeartbeats 4000000
theorem ex_num {O O1:Nat -> Prop} {b:Nat} {s:Sl} {c:Ck} (h:Hd) (ka:Option Addr) (kn kc:Nat) (w:World) (hk:h.kind = 1) (hnum:InR h.num) (hA:CA w O O1 b s s c h ka kn kc (((w.alloc (Δ #[I J h.kind,I J h.num,Ψ (bs h.text),Γ ka kn kc,I J h.pl] 102)).alloc (Δ #[.bool false,Ψ ⟨#[]⟩,I J 0,I J 0] 109)).alloc (Δ #[I J 0,I J 0] 32))) :
 Calls Tryz.prog 88 #[Φ (some ⟨b,0,none⟩),exV h ka kn kc] w (XPost O b s w (layB c ⟨1,h.num,0,0⟩ h.pl)):=by
 have hres:Tryz.f88.results = #[.cell 4 109,.cell 5 32]:=by kernel_rfl
 have HA:=hid hA
 have hq:(h.kind == 1) = true:=by rw [beq_iff_eq]; exact hk
 have HDI:Hid (DfIn ⟨1,h.num,0,0⟩ c.values.length):=⟨hnum,fun h1 _=>by simp at h1,fun h1 _=>by simp at h1⟩
 clear hA hk hnum
 unfold exV
 go_enter Tryz.func88,Tryz.ntmps88
 go_upto_region 1 with (fail)
 generalize (((w.alloc (Δ #[I J h.kind,I J h.num,Ψ (bs h.text),Γ ka kn kc,I J h.pl] 102)).alloc (Δ #[.bool false,Ψ ⟨#[]⟩,I J 0,I J 0] 109)).alloc (Δ #[I J 0,I J 0] 32)) = w1 at *
 have x0:w1.cell? ⟨w.heap.size,0,none⟩ = some (I J h.kind):=HA.out.box.cell rfl
 have x1:w1.cell? ⟨w.heap.size,1,none⟩ = some (I J h.num):=HA.out.box.cell rfl
 have x4:w1.cell? ⟨w.heap.size,4,none⟩ = some (I J h.pl):=HA.out.box.cell rfl
 cases hl:layB c ⟨1,h.num,0,0⟩ h.pl with
 | error f=>
   have HL:Hid (Calls Tryz.prog 59 #[Φ (some ⟨b,0,none⟩),.agg #[I J 1,I J h.num,I J 0,I J 0],I J h.pl] w1 fun e w'=>f.1 ≠ 0 /\ e = Ω (.tuple #[.agg #[.bool false,Ψ ⟨#[]⟩,I J 0,I J 0],.agg #[I J f.1,I J f.2]]) /\ Hid (CE w O O1 w' /\ Fr O1 w1 w')):=HA.out.lay_err HDI.out hl
   have HX:=hid hl
   clear hl HDI HA
   obtain ⟨f1,f2⟩:=f
   simp only at HL
   generalize h.kind = kd at *
   go_wp2_with fail
   refine HL.out.mono ?_
   rintro e w3 ⟨hf,rfl,HB⟩
   have HF:Hid (f1 ≠ 0):=hf
   clear hf HL x0 x1 x4
   have r0:w3.cell? ⟨w.heap.size + 1,0,none⟩ = some (.bool false):=HB.out.1.r1.cell rfl
   have r1:w3.cell? ⟨w.heap.size + 1,1,none⟩ = some (Ψ ⟨#[]⟩):=HB.out.1.r1.cell rfl
   have r2:w3.cell? ⟨w.heap.size + 1,2,none⟩ = some (I J 0):=HB.out.1.r1.cell rfl
   have r3:w3.cell? ⟨w.heap.size + 1,3,none⟩ = some (I J 0):=HB.out.1.r1.cell rfl
   have q0:w3.cell? ⟨w.heap.size + 1 + 1,0,none⟩ = some (I J 0):=HB.out.1.r2.cell rfl
   have q1:w3.cell? ⟨w.heap.size + 1 + 1,1,none⟩ = some (I J 0):=HB.out.1.r2.cell rfl
   have rf:∀ i,w3.frozen? ⟨w.heap.size + 1,i,none⟩ = false:=fun i=>HB.out.1.r1.fz i
   have qf:∀ i,w3.frozen? ⟨w.heap.size + 1 + 1,i,none⟩ = false:=fun i=>HB.out.1.r2.fz i
   go_wp2
   refine bodyPost_ret (v:=.tuple #[mnV mn0,flV (f1,f2)]) ?_ rfl ?_
   ·simp only [results,hres]
    go_simp
    exact ⟨rfl,rfl⟩
   ·show XPost _ _ _ _ _ _ _
    rw [HX.out]
    exact ⟨HF.out,rfl,fr_res HB.out.1.fr _ _ _ _ _ _⟩
 | ok x=>
   obtain ⟨c2,m2⟩:=x
   have HL:Hid (Calls Tryz.prog 59 #[Φ (some ⟨b,0,none⟩),.agg #[I J 1,I J h.num,I J 0,I J 0],I J h.pl] w1 fun e w'=>e = Ω (.tuple #[.agg #[.bool m2.isText,Ψ (bs m2.text),I J m2.place,I J m2.num],.agg #[I J 0,I J 0]]) /\ Hid (Fr O1 w1 w' /\ ∃ O' s',(∀ g,O' g -> O1 g \/ w1.heap.size <= g) /\ CA w O O' b s s' c2 h ka kn kc w')):=HA.out.lay_ok HDI.out hl
   have HX:=hid hl
   clear hl HDI HA
   obtain ⟨mt2,mx2,mp2,mn2⟩:=m2
   simp only at HL
   obtain ⟨bx2,hbx2⟩:∃ bx2,bx2 = bs mx2:=⟨_,rfl⟩
   rw [<- hbx2] at HL
   have HBY:Hid (bx2 = bs mx2):=hbx2
   clear hbx2
   go_wp2_with fail
   refine HL.out.mono ?_
   rintro e w3 ⟨rfl,HB0⟩
   obtain ⟨O3,s3,-,hB3⟩:=HB0.out.2
   have HB:=hid hB3
   clear HL x0 x1 x4 HB0 hB3
   have r0:w3.cell? ⟨w.heap.size + 1,0,none⟩ = some (.bool false):=HB.out.r1.cell rfl
   have r1:w3.cell? ⟨w.heap.size + 1,1,none⟩ = some (Ψ ⟨#[]⟩):=HB.out.r1.cell rfl
   have r2:w3.cell? ⟨w.heap.size + 1,2,none⟩ = some (I J 0):=HB.out.r1.cell rfl
   have r3:w3.cell? ⟨w.heap.size + 1,3,none⟩ = some (I J 0):=HB.out.r1.cell rfl
   have q0:w3.cell? ⟨w.heap.size + 1 + 1,0,none⟩ = some (I J 0):=HB.out.r2.cell rfl
   have q1:w3.cell? ⟨w.heap.size + 1 + 1,1,none⟩ = some (I J 0):=HB.out.r2.cell rfl
   have rf:∀ i,w3.frozen? ⟨w.heap.size + 1,i,none⟩ = false:=fun i=>HB.out.r1.fz i
   have qf:∀ i,w3.frozen? ⟨w.heap.size + 1 + 1,i,none⟩ = false:=fun i=>HB.out.r2.fz i
   go_wp2
   refine bodyPost_ret (v:=.tuple #[mnV ⟨mt2,mx2,mp2,mn2⟩,flV (0,0)]) ?_ rfl ?_
   ·simp only [results,hres]
    unfold mnV flV
    simp only
    rw [<- HBY.out]
    go_simp
   ·show XPost _ _ _ _ _ _ _
    rw [HX.out]
    exact ⟨rfl,(HB.out.done _ _ _ _ _ _).1,O3,s3,HB.out.sv,HB.out.new,(HB.out.done _ _ _ _ _ _).2⟩
theorem ex_text {O O1:Nat -> Prop} {b:Nat} {s:Sl} {c:Ck} (h:Hd) (ka:Option Addr) (kn kc:Nat) (w:World) (hk:h.kind = 3) (hA:CA w O O1 b s s c h ka kn kc (((w.alloc (Δ #[I J h.kind,I J h.num,Ψ (bs h.text),Γ ka kn kc,I J h.pl] 102)).alloc (Δ #[.bool false,Ψ ⟨#[]⟩,I J 0,I J 0] 109)).alloc (Δ #[I J 0,I J 0] 32))) :
 Calls Tryz.prog 88 #[Φ (some ⟨b,0,none⟩),exV h ka kn kc] w (XPost O b s w (.ok (c,⟨true,h.text,0,0⟩))):=by
 have hres:Tryz.f88.results = #[.cell 4 109,.cell 5 32]:=by kernel_rfl
 have HA:=hid hA
 have hq:(h.kind == 3) = true:=by rw [beq_iff_eq]; exact hk
 have hq1:(h.kind == 1) = false:=by rw [beq_eq_false_iff_ne]; omega
 clear hA hk
 unfold exV
 go_enter Tryz.func88,Tryz.ntmps88
 go_upto_region 1 with (fail)
 generalize (((w.alloc (Δ #[I J h.kind,I J h.num,Ψ (bs h.text),Γ ka kn kc,I J h.pl] 102)).alloc (Δ #[.bool false,Ψ ⟨#[]⟩,I J 0,I J 0] 109)).alloc (Δ #[I J 0,I J 0] 32)) = w1 at *
 have x0:w1.cell? ⟨w.heap.size,0,none⟩ = some (I J h.kind):=HA.out.box.cell rfl
 have x2:w1.cell? ⟨w.heap.size,2,none⟩ = some (Ψ (bs h.text)):=HA.out.box.cell rfl
 have r0:w1.cell? ⟨w.heap.size + 1,0,none⟩ = some (.bool false):=HA.out.r1.cell rfl
 have r1:w1.cell? ⟨w.heap.size + 1,1,none⟩ = some (Ψ ⟨#[]⟩):=HA.out.r1.cell rfl
 have r2:w1.cell? ⟨w.heap.size + 1,2,none⟩ = some (I J 0):=HA.out.r1.cell rfl
 have r3:w1.cell? ⟨w.heap.size + 1,3,none⟩ = some (I J 0):=HA.out.r1.cell rfl
 have q0:w1.cell? ⟨w.heap.size + 1 + 1,0,none⟩ = some (I J 0):=HA.out.r2.cell rfl
 have q1:w1.cell? ⟨w.heap.size + 1 + 1,1,none⟩ = some (I J 0):=HA.out.r2.cell rfl
 have rf:∀ i,w1.frozen? ⟨w.heap.size + 1,i,none⟩ = false:=fun i=>HA.out.r1.fz i
 have qf:∀ i,w1.frozen? ⟨w.heap.size + 1 + 1,i,none⟩ = false:=fun i=>HA.out.r2.fz i
 generalize h.kind = kd at *
 obtain ⟨bx2,hbx2⟩:∃ bx2,bx2 = bs h.text:=⟨_,rfl⟩
 rw [<- hbx2] at x2
 have HBY:Hid (bx2 = bs h.text):=hbx2
 clear hbx2
 go_wp2
 refine bodyPost_ret (v:=.tuple #[mnV ⟨true,h.text,0,0⟩,flV (0,0)]) ?_ rfl ?_
 ·simp only [results,hres]
  unfold mnV flV
  simp only
  rw [<- HBY.out]
  go_simp
 ·exact ⟨rfl,(HA.out.done _ _ _ _ _ _).1,O1,s,rfl,HA.out.new,(HA.out.done _ _ _ _ _ _).2⟩
theorem ex_comp {O O1:Nat -> Prop} {b:Nat} {s:Sl} {c:Ck} (h:Hd) (ka:Option Addr) (kn kc:Nat) (w:World) (r:Er (Ck × Mn)) (hk1:h.kind ≠ 1) (hk2:h.kind ≠ 2) (hk3:h.kind ≠ 3) (hA:CA w O O1 b s s c h ka kn kc (((w.alloc (Δ #[I J h.kind,I J h.num,Ψ (bs h.text),Γ ka kn kc,I J h.pl] 102)).alloc (Δ #[.bool false,Ψ ⟨#[]⟩,I J 0,I J 0] 109)).alloc (Δ #[I J 0,I J 0] 32)))
 (hC:∀ W,CA w O O1 b s s c h ka kn kc W -> w.heap.size + 3 <= W.heap.size -> Calls Tryz.prog 122 #[Φ (some ⟨b,0,none⟩),exV h ka kn kc] W (XPost O1 b s W r)) (hok:∀ c' m,r = .ok (c',m) -> CkOk c') :
 Calls Tryz.prog 88 #[Φ (some ⟨b,0,none⟩),exV h ka kn kc] w (XPost O b s w r):=by
 have hres:Tryz.f88.results = #[.cell 4 109,.cell 5 32]:=by kernel_rfl
 have HA:=hid hA
 have hq1:(h.kind == 1) = false:=by rw [beq_eq_false_iff_ne]; exact hk1
 have hq2:(h.kind == 2) = false:=by rw [beq_eq_false_iff_ne]; exact hk2
 have hq3:(h.kind == 3) = false:=by rw [beq_eq_false_iff_ne]; exact hk3
 unfold exV at hC
 clear hA hk1 hk2 hk3
 unfold exV
 go_enter Tryz.func88,Tryz.ntmps88
 go_upto_region 1 with (fail)
 have hs3:w.heap.size + 3 <= (((w.alloc (Δ #[I J h.kind,I J h.num,Ψ (bs h.text),Γ ka kn kc,I J h.pl] 102)).alloc (Δ #[.bool false,Ψ ⟨#[]⟩,I J 0,I J 0] 109)).alloc (Δ #[I J 0,I J 0] 32)).heap.size:=by simp
 generalize (((w.alloc (Δ #[I J h.kind,I J h.num,Ψ (bs h.text),Γ ka kn kc,I J h.pl] 102)).alloc (Δ #[.bool false,Ψ ⟨#[]⟩,I J 0,I J 0] 109)).alloc (Δ #[I J 0,I J 0] 32)) = w1 at *
 have x0:w1.cell? ⟨w.heap.size,0,none⟩ = some (I J h.kind):=HA.out.box.cell rfl
 have x1:w1.cell? ⟨w.heap.size,1,none⟩ = some (I J h.num):=HA.out.box.cell rfl
 have x2:w1.cell? ⟨w.heap.size,2,none⟩ = some (Ψ (bs h.text)):=HA.out.box.cell rfl
 have x3:w1.cell? ⟨w.heap.size,3,none⟩ = some (Γ ka kn kc):=HA.out.box.cell rfl
 have x4:w1.cell? ⟨w.heap.size,4,none⟩ = some (I J h.pl):=HA.out.box.cell rfl
 have HC0:=hC w1 HA.out hs3
 clear hC hs3
 cases hl:r with
 | error f=>
   have HL:Hid (Calls Tryz.prog 122 #[Φ (some ⟨b,0,none⟩),.agg #[I J h.kind,I J h.num,Ψ (bs h.text),Γ ka kn kc,I J h.pl]] w1 fun e w'=>f.1 ≠ 0 /\ e = Ω (.tuple #[.agg #[.bool false,Ψ ⟨#[]⟩,I J 0,I J 0],.agg #[I J f.1,I J f.2]]) /\ Hid (CE w O O1 w')):=by
    refine (calls_err HC0 hl).mono ?_
    rintro e w' ⟨h1,h2,h3⟩
    exact ⟨h1,h2,HA.out.fr.trans h3 HA.out.new,HA.out.r1.fr h3 (fun _ h=>.inl h),HA.out.r2.fr h3 (fun _ h=>.inl h)⟩
   have HX:Hid (r = .error f):=hl
   clear hl HA HC0 hok
   obtain ⟨f1,f2⟩:=f
   simp only at HL
   generalize h.kind = kd at *
   generalize bs h.text = tx at *
   go_wp2_with fail
   refine HL.out.mono ?_
   rintro e w3 ⟨hf,rfl,HB⟩
   have HF:Hid (f1 ≠ 0):=hf
   clear hf HL x0 x1 x2 x3 x4
   have r0:w3.cell? ⟨w.heap.size + 1,0,none⟩ = some (.bool false):=HB.out.r1.cell rfl
   have r1:w3.cell? ⟨w.heap.size + 1,1,none⟩ = some (Ψ ⟨#[]⟩):=HB.out.r1.cell rfl
   have r2:w3.cell? ⟨w.heap.size + 1,2,none⟩ = some (I J 0):=HB.out.r1.cell rfl
   have r3:w3.cell? ⟨w.heap.size + 1,3,none⟩ = some (I J 0):=HB.out.r1.cell rfl
   have q0:w3.cell? ⟨w.heap.size + 1 + 1,0,none⟩ = some (I J 0):=HB.out.r2.cell rfl
   have q1:w3.cell? ⟨w.heap.size + 1 + 1,1,none⟩ = some (I J 0):=HB.out.r2.cell rfl
   have rf:∀ i,w3.frozen? ⟨w.heap.size + 1,i,none⟩ = false:=fun i=>HB.out.r1.fz i
   have qf:∀ i,w3.frozen? ⟨w.heap.size + 1 + 1,i,none⟩ = false:=fun i=>HB.out.r2.fz i
   go_wp2
   refine bodyPost_ret (v:=.tuple #[mnV mn0,flV (f1,f2)]) ?_ rfl ?_
   ·simp only [results,hres]
    go_simp
    exact ⟨rfl,rfl⟩
   ·show XPost _ _ _ _ _ _ _
    rw [HX.out]
    exact ⟨HF.out,rfl,fr_res HB.out.fr _ _ _ _ _ _⟩
 | ok x=>
   obtain ⟨c2,m2⟩:=x
   have HL:Hid (Calls Tryz.prog 122 #[Φ (some ⟨b,0,none⟩),.agg #[I J h.kind,I J h.num,Ψ (bs h.text),Γ ka kn kc,I J h.pl]] w1 fun e w'=>e = Ω (.tuple #[.agg #[.bool m2.isText,Ψ (bs m2.text),I J m2.place,I J m2.num],.agg #[I J 0,I J 0]]) /\ Hid (∃ O' s',CA w O O' b s s' c2 h ka kn kc w')):=by
    refine (calls_okm HC0 hl).mono ?_
    rintro e w' ⟨h1,h2,O',s',h3,h4,h5⟩
    exact ⟨h1,O',s',HA.out.go h2 h4 h3 h5 (hok c2 m2 hl)⟩
   have HX:Hid (r = .ok (c2,m2)):=hl
   clear hl HA HC0 hok
   obtain ⟨mt2,mx2,mp2,mn2⟩:=m2
   simp only at HL
   obtain ⟨bx2,hbx2⟩:∃ bx2,bx2 = bs mx2:=⟨_,rfl⟩
   rw [<- hbx2] at HL
   have HBY:Hid (bx2 = bs mx2):=hbx2
   clear hbx2
   generalize bs h.text = tx at x2 HL ⊢
   go_wp2_with fail
   refine HL.out.mono ?_
   rintro e w3 ⟨rfl,HB0⟩
   obtain ⟨O3,s3,hB3⟩:=HB0.out
   have HB:=hid hB3
   clear HL x0 x1 x2 x3 x4 HB0 hB3
   have r0:w3.cell? ⟨w.heap.size + 1,0,none⟩ = some (.bool false):=HB.out.r1.cell rfl
   have r1:w3.cell? ⟨w.heap.size + 1,1,none⟩ = some (Ψ ⟨#[]⟩):=HB.out.r1.cell rfl
   have r2:w3.cell? ⟨w.heap.size + 1,2,none⟩ = some (I J 0):=HB.out.r1.cell rfl
   have r3:w3.cell? ⟨w.heap.size + 1,3,none⟩ = some (I J 0):=HB.out.r1.cell rfl
   have q0:w3.cell? ⟨w.heap.size + 1 + 1,0,none⟩ = some (I J 0):=HB.out.r2.cell rfl
   have q1:w3.cell? ⟨w.heap.size + 1 + 1,1,none⟩ = some (I J 0):=HB.out.r2.cell rfl
   have rf:∀ i,w3.frozen? ⟨w.heap.size + 1,i,none⟩ = false:=fun i=>HB.out.r1.fz i
   have qf:∀ i,w3.frozen? ⟨w.heap.size + 1 + 1,i,none⟩ = false:=fun i=>HB.out.r2.fz i
   go_wp2
   refine bodyPost_ret (v:=.tuple #[mnV ⟨mt2,mx2,mp2,mn2⟩,flV (0,0)]) ?_ rfl ?_
   ·simp only [results,hres]
    unfold mnV flV
    simp only
    rw [<- HBY.out]
    go_simp
   ·show XPost _ _ _ _ _ _ _
    rw [HX.out]
    exact ⟨rfl,(HB.out.done _ _ _ _ _ _).1,O3,s3,HB.out.sv,HB.out.new,(HB.out.done _ _ _ _ _ _).2⟩
open Go.Value renaming int->I,pointer->Φ,string->Ψ
set_option maxRecDepth 20000
set_option maxHeartbeats 4000000
theorem ex_name {O O1:Nat -> Prop} {b:Nat} {s:Sl} {c:Ck} (h:Hd) (ka:Option Addr) (kn kc:Nat) (w:World) (hk:h.kind = 2) (htx:h.text.length <= maxLen) (hA:CA w O O1 b s s c h ka kn kc (((w.alloc (Δ #[I J h.kind,I J h.num,Ψ (bs h.text),.slice ka kn kc,I J h.pl] 102)).alloc (Δ #[.bool false,Ψ ⟨#[]⟩,I J 0,I J 0] 109)).alloc (Δ #[I J 0,I J 0] 32))) :
 Calls Tryz.prog 88 #[Φ (some ⟨b,0,none⟩),exV h ka kn kc] w (XPost O b s w (match lookN c.names h.text with | none=>.error (91,h.pl) | some m=>.ok (c,m))):=by
 have hres:Tryz.f88.results = #[.cell 4 109,.cell 5 32]:=by kernel_rfl
 have HA:=hid hA
 have hq:(h.kind == 2) = true:=by rw [beq_iff_eq]; exact hk
 have hq1:(h.kind == 1) = false:=by rw [beq_eq_false_iff_ne]; omega
 have hq3:(h.kind == 3) = false:=by rw [beq_eq_false_iff_ne]; omega
 obtain ⟨r,hr⟩:∃ r,r = lookN c.names h.text:=⟨_,rfl⟩
 rw [<- hr]
 obtain ⟨m,hm⟩:∃ m,m = r.getD mn0:=⟨_,rfl⟩
 obtain ⟨found,hfo⟩:∃ f,f = r.isSome:=⟨_,rfl⟩
 have HLk:Hid (∀ W,CA w O O1 b s s c h ka kn kc W -> (Instr.lookup 70 (.map (some s.mb)) (Ψ (bs h.text)) true).run Tryz.prog W = .ok (.tuple #[.agg #[.bool m.isText,Ψ (bs m.text),I J m.place,I J m.num],.bool found]) W):=fun W hW=>by
  have:=nm_look hW.ck.names h.text htx
  rw [<- hr,<- hm,<- hfo] at this
  exact this
 have HR:Hid ((found = false -> r = none) /\ (found = true -> r = some m)):=by
  rw [hm,hfo]
  cases r with
  | none=>exact ⟨fun _=>rfl,fun h=>by simp at h⟩
  | some x=>exact ⟨fun h=>by simp at h,fun _=>rfl⟩
 clear hA hk htx hr hm hfo
 unfold exV
 go_enter Tryz.func88,Tryz.ntmps88
 go_upto_region 1 with (fail)
 generalize (((w.alloc (Δ #[I J h.kind,I J h.num,Ψ (bs h.text),.slice ka kn kc,I J h.pl] 102)).alloc (Δ #[.bool false,Ψ ⟨#[]⟩,I J 0,I J 0] 109)).alloc (Δ #[I J 0,I J 0] 32)) = w1 at *
 have x0:w1.cell? ⟨w.heap.size,0,none⟩ = some (I J h.kind):=HA.out.box.cell rfl
 have HSS:Hid (∀ W,CA w O O1 b s s c h ka kn kc W -> W.cell? ⟨b,12,none⟩ = some (.map (some s.mb)) /\ W.cell? ⟨w.heap.size,2,none⟩ = some (Ψ (bs h.text)) /\ (Instr.lookup 70 (.map (some s.mb)) (Ψ (bs h.text)) true).run Tryz.prog W = .ok (.tuple #[.agg #[.bool m.isText,Ψ (bs m.text),I J m.place,I J m.num],.bool found]) W):=fun W hW=>⟨hW.ck.c12,hW.box.cell rfl,HLk.out W hW⟩
 have HA1:Hid (CA w O O1 b s s c h ka kn kc w1.drew):=HA.out.next (Below.refl _ _).drew
 obtain ⟨mt,mx,mp,mn⟩:=m
 simp only at HSS
 obtain ⟨bx,hbx⟩:∃ bx,bx = bs mx:=⟨_,rfl⟩
 rw [<- hbx] at HSS
 have HBY:Hid (bx = bs mx):=hbx
 have HBT:Hid (∃ tx,tx = bs h.text):=⟨_,rfl⟩
 obtain ⟨tx,htx⟩:=HBT.out
 rw [<- htx] at HSS
 rw [<- htx]
 clear hbx HLk htx HBT
 go_wp2_with fail
 have HS0:Hid (w1.drew.cell? ⟨b,12,none⟩ = some (.map (some s.mb)) /\ w1.drew.cell? ⟨w.heap.size,2,none⟩ = some (.string tx) /\ (Instr.lookup 70 (.map (some s.mb)) (.string tx) true).run Tryz.prog w1.drew = .ok (.tuple #[.agg #[.bool mt,Ψ bx,I J mp,I J mn],.bool found]) w1.drew):=HSS.out _ HA1.out
 refine wp_region_Y (fun j=>[].contains j) (fun W=>W.cell? ⟨b,12,none⟩ = some (.map (some s.mb)) /\ W.cell? ⟨w.heap.size,2,none⟩ = some (.string tx) /\ (Instr.lookup 70 (.map (some s.mb)) (.string tx) true).run Tryz.prog W = .ok (.tuple #[.agg #[.bool mt,Ψ bx,I J mp,I J mn],.bool found]) W) (by kernel_rfl) ?_
 refine wpAnyY_take (i:=0) (v:=Φ (some ⟨b,0,none⟩)) rfl (by kernel_rfl) (by kernel_rfl) (late_of (by kernel_rfl)) (by kernel_rfl) (by kernel_rfl) (fun _ _ _ h=>h) HS0.out (Or.inl ⟨by rfl,by (intro W hW; obtain ⟨_,_,_⟩:=hW; go_simp)⟩) ?_
 simp only [Act.put]
 refine wpAnyY_take (i:=1) (v:=Φ (some ⟨b,0,none⟩)) rfl (by kernel_rfl) (by kernel_rfl) (late_of (by kernel_rfl)) (by kernel_rfl) (by kernel_rfl) (fun _ _ _ h=>h) HS0.out (Or.inl ⟨by rfl,by (intro W hW; obtain ⟨_,_,_⟩:=hW; go_simp)⟩) ?_
 simp only [Act.put]
 refine wpAnyY_take (i:=2) (v:=Φ (some ⟨b,12,none⟩)) rfl (by kernel_rfl) (by kernel_rfl) (late_of (by kernel_rfl)) (by kernel_rfl) (by kernel_rfl) (fun _ _ _ h=>h) HS0.out (Or.inl ⟨by rfl,by (intro W hW; obtain ⟨_,_,_⟩:=hW; go_simp)⟩) ?_
 simp only [Act.put]
 refine wpAnyY_take (i:=3) (v:=.map (some s.mb)) rfl (by kernel_rfl) (by kernel_rfl) (late_of (by kernel_rfl)) (by kernel_rfl) (by kernel_rfl) (fun _ _ _ h=>h) HS0.out (Or.inl ⟨by rfl,by (intro W hW; obtain ⟨_,_,_⟩:=hW; go_simp)⟩) ?_
 simp only [Act.put]
 refine wpAnyY_take (i:=4) (v:=Φ (some ⟨w.heap.size,2,none⟩)) rfl (by kernel_rfl) (by kernel_rfl) (late_of (by kernel_rfl)) (by kernel_rfl) (by kernel_rfl) (fun _ _ _ h=>h) HS0.out (Or.inl ⟨by rfl,by (intro W hW; obtain ⟨_,_,_⟩:=hW; go_simp)⟩) ?_
 simp only [Act.put]
 refine wpAnyY_take (i:=5) (v:=.string tx) rfl (by kernel_rfl) (by kernel_rfl) (late_of (by kernel_rfl)) (by kernel_rfl) (by kernel_rfl) (fun _ _ _ h=>h) HS0.out (Or.inl ⟨by rfl,by (intro W hW; obtain ⟨_,_,_⟩:=hW; go_simp)⟩) ?_
 simp only [Act.put]
 refine wpAnyY_take (i:=6) (v:=.tuple #[.agg #[.bool mt,Ψ bx,I J mp,I J mn],.bool found]) rfl (by kernel_rfl) (by kernel_rfl) (late_of (by kernel_rfl)) (by kernel_rfl) (by kernel_rfl) (fun _ _ _ h=>h) HS0.out (Or.inl ⟨by rfl,by (intro W hW; obtain ⟨_,_,_⟩:=hW; go_simp)⟩) ?_
 simp only [Act.put]
 refine wpAnyY_take (i:=7) (v:=.tuple #[.agg #[.bool mt,Ψ bx,I J mp,I J mn],.bool found]) rfl (by kernel_rfl) (by kernel_rfl) (late_of (by kernel_rfl)) (by kernel_rfl) (by kernel_rfl) (fun _ _ _ h=>h) HS0.out (Or.inl ⟨by rfl,by (intro W hW; obtain ⟨_,_,_⟩:=hW; go_simp)⟩) ?_
 simp only [Act.put]
 refine wpAnyY_take (i:=8) (v:=.agg #[.bool mt,Ψ bx,I J mp,I J mn]) rfl (by kernel_rfl) (by kernel_rfl) (late_of (by kernel_rfl)) (by kernel_rfl) (by kernel_rfl) (fun _ _ _ h=>h) HS0.out (Or.inl ⟨by rfl,by (intro W hW; obtain ⟨_,_,_⟩:=hW; go_simp)⟩) ?_
 simp only [Act.put]
 refine wpAnyY_take (i:=9) (v:=.bool found) rfl (by kernel_rfl) (by kernel_rfl) (late_of (by kernel_rfl)) (by kernel_rfl) (by kernel_rfl) (fun _ _ _ h=>h) HS0.out (Or.inl ⟨by rfl,by (intro W hW; obtain ⟨_,_,_⟩:=hW; go_simp)⟩) ?_
 simp only [Act.put]
 refine wpAnyY_one (i:=10) rfl (by kernel_rfl) (fun K hK=>?_)
 go_simp
 refine hK.out _ _ (fun _=>HSS.out _ (HA1.out.next ((Below.refl _ _).alloc (Nat.le_refl _) _))) ?_
 clear hK K
 refine wpAnyY_one (i:=11) rfl (by kernel_rfl) (fun K hK=>?_)
 go_simp
 refine hK.out _ _ (fun _=>HSS.out _ (HA1.out.next ((Below.refl _ _).alloc (Nat.le_refl _) _))) ?_
 clear hK K
 refine wpAnyY_one (i:=12) rfl (by kernel_rfl) (fun K hK=>?_)
 go_simp
 refine hK.out _ _ (fun _=>HSS.out _ (HA1.out.next ((Below.refl _ _).alloc (Nat.le_refl _) _))) ?_
 clear hK K HS0 HSS
 refine wpAnyY_done (by kernel_rfl) ?_ _
 have HA2:Hid (∀ o,CA w O O1 b s s c h ka kn kc (w1.alloc o).drew):=fun o=>(HA.out.next ((Below.refl _ _).alloc (Nat.le_refl _) o)).next (Below.refl _ _).drew
 have hl1:w.heap.size + 1 < w1.heap.size:=HA.out.r1.lt
 have hl2:w.heap.size + 1 + 1 < w1.heap.size:=HA.out.r2.lt
 have hl0:w.heap.size < w1.heap.size:=HA.out.box.lt
 have x4:w1.cell? ⟨w.heap.size,4,none⟩ = some (I J h.pl):=HA.out.box.cell rfl
 have r0:w1.cell? ⟨w.heap.size + 1,0,none⟩ = some (.bool false):=HA.out.r1.cell rfl
 have r1:w1.cell? ⟨w.heap.size + 1,1,none⟩ = some (Ψ ⟨#[]⟩):=HA.out.r1.cell rfl
 have r2:w1.cell? ⟨w.heap.size + 1,2,none⟩ = some (I J 0):=HA.out.r1.cell rfl
 have r3:w1.cell? ⟨w.heap.size + 1,3,none⟩ = some (I J 0):=HA.out.r1.cell rfl
 have q0:w1.cell? ⟨w.heap.size + 1 + 1,0,none⟩ = some (I J 0):=HA.out.r2.cell rfl
 have q1:w1.cell? ⟨w.heap.size + 1 + 1,1,none⟩ = some (I J 0):=HA.out.r2.cell rfl
 have rf:∀ i,w1.frozen? ⟨w.heap.size + 1,i,none⟩ = false:=fun i=>HA.out.r1.fz i
 have qf:∀ i,w1.frozen? ⟨w.heap.size + 1 + 1,i,none⟩ = false:=fun i=>HA.out.r2.fz i
 have hne1:¬ w.heap.size + 1 = w1.heap.size:=by omega
 have hne2:¬ w.heap.size + 1 + 1 = w1.heap.size:=by omega
 generalize h.kind = kd at *
 cases found with
 | false=>
   have hrn:=HR.out.1 rfl
   subst hrn
   go_wp2_with fail
   go_region
   go_wp2
   refine bodyPost_ret (v:=.tuple #[mnV mn0,flV (91,h.pl)]) ?_ rfl ?_
   ·simp only [results,hres]
    go_simp
    exact ⟨rfl,rfl⟩
   ·refine ⟨by simp,rfl,?_⟩
    exact (((fr_res HA.out.fr _ _ _ _ _ _).alloc _).drew).drew
 | true=>
   have hrn:=HR.out.2 rfl
   subst hrn
   go_wp2
   refine bodyPost_ret (v:=.tuple #[mnV ⟨mt,mx,mp,mn⟩,flV (0,0)]) ?_ rfl ?_
   ·simp only [results,hres]
    unfold mnV flV
    simp only
    rw [<- HBY.out]
    go_simp
   ·have hd:=HA.out.done (.bool mt) (.string bx) (I J mp) (I J mn) (I J 0) (I J 0)
    exact ⟨rfl,(hd.1.alloc _).drew,O1,s,rfl,HA.out.new,(hd.2.alloc _).below (Below.refl _ _).drew⟩
open Go.Value renaming int->I,pointer->Φ
theorem hd_kids {h:Hd} {n:Nat} (hr:hdRight h n = true) (h1:h.kind ≠ 1) (h2:h.kind ≠ 2) (h3:h.kind ≠ 3):0 < n /\ n <= 8:=by
 unfold hdRight at hr
 rw [if_neg h1,if_neg h2,if_neg h3] at hr
 split at hr
 ·simp at hr; omega
 ·split at hr
  ·simp at hr; omega
  ·split at hr
   ·simp at hr; omega
   ·cases hr
theorem compC_calls (N:Nat) (IH:XIH N) {B:Nat} {O:Nat -> Prop} {b:Nat} {s:Sl} {c:Ck} (h:Hd) (k:Fo) (ka:Option Addr) (kn kc:Nat) (w:World) (hck:CkAt O b s c w) (hok:CkOk c) (hlow:∀ g,O g -> B <= g) (hB:B <= w.heap.size)
 (hE:ExAt false (fun g=>g < B) w (h,k) ka kn) (hr:okE h k) (hsz:szF k <= N) (h1:h.kind ≠ 1) (h2:h.kind ≠ 2) (h3:h.kind ≠ 3) :
 Calls Tryz.prog 122 #[Φ (some ⟨b,0,none⟩),exV h ka kn kc] w (XPost O b s w (compB h k (askF k c))):=by
 have hA:=CA.start hck hok h ka kn kc
 have hlen:kn = lenF k:=foAt_len hE.kids
 have hn:=hd_kids hr.1 h1 h2 h3
 rw [<- hlen] at hn
 have hK:∀ W,CA w O (fun g=>O g /\ g < w.heap.size) b s s c h ka kn kc W -> Calls Tryz.prog 142 #[Φ (some ⟨b,0,none⟩),.slice ka kn kc] W (KPost (fun g=>O g /\ g < w.heap.size) b s W k (askF k c)):=fun W hW=>
  kidsC_calls N IH k ka kn kc W hW.ck hW.ok (fun g hg=>hlow g hg.1) (Nat.le_trans hB hW.fr.size) (foAt_keep (fun g hg hgB=>hW.fr.block g hg (fun ho=>by have:=hlow g ho; omega)) hE.kids) hr.2 hsz hn.1 hn.2
 cases hx:askF k c with
 | error f=>
   rw [hx] at hK
   refine ckc_bad h ka kn kc w f (askF_err hx) hA (fun W hW _=>(hK W hW).mono ?_)
   rintro e w' ⟨_,h5,h6⟩
   exact ⟨h5,h6⟩
 | ok x=>
   obtain ⟨c1,ms⟩:=x
   rw [hx] at hK
   obtain ⟨q1,q2,q3,q4⟩:=askF_ok hok hr.2 (foAt_short hE.kids) hx
   simp only [compB]
   cases ht:txtAt k ms with
   | some p=>
     refine ckc_bad h ka kn kc w (92,p) (by simp) hA (fun W hW _=>(hK W hW).mono ?_)
     intro e w' hp
     unfold KPost at hp
     simp only [ht] at hp
     exact hp
   | none=>
     have hnt:=txtAt_none q2 ht
     cases ms with
     | nil=>simp at q2; omega
     | cons m r=>
       have hl:(m :: r).length = kn:=by rw [q2,hlen]
       have hC:∀ W,CA w O (fun g=>O g /\ g < w.heap.size) b s s c h ka kn kc W -> w.heap.size + 3 <= W.heap.size -> Calls Tryz.prog 142 #[Φ (some ⟨b,0,none⟩),.slice ka kn kc] W fun e w'=>∃ gm mc O2 s2,e = .returned (.tuple #[.slice (some ⟨gm,0,none⟩) kn mc,.agg #[I J 0,I J 0]]) /\ Hid (CA w O O2 b s s2 c1 h ka kn kc w' /\ RW w O2 gm kn mc (m :: r) w'):=fun W hW hW3=>by
        refine (hK W hW).mono ?_
        intro e w' hp
        unfold KPost at hp
        simp only [ht] at hp
        obtain ⟨mo,mc,O',s',he,hf,hs,hO,hck',hrow,hoff⟩:=hp
        rw [hl] at he hrow hoff
        obtain ⟨gm,mc',hv,-,hcap,-,-⟩:=owned_some hrow hn.1
        cases hv
        have ho:=hoff gm rfl
        exact ⟨gm,mc,O',s',he,hW.go hf hO hs hck' q1,hrow,ho.1,by omega,hcap⟩
       simp only
       by_cases h4:h.kind = 4
       ·rw [if_pos h4]
        exact ckc_neg h ka kn kc w m r kn hn.1 h4 ((q3 m (by simp)).place (hnt m (by simp))) hA hC
       ·rw [if_neg h4]
        exact ckc_fold h ka kn kc w m r kn hl hn.2 h4 (fun x hx=>⟨hnt x hx,q3 x hx⟩) hA hC
theorem exprC_all:∀ N,XIH N
 | 0=>fun _ _ _ _ _ _ _ _ _ _ _ _ _ _ _ _ _ h=>by omega
 | N + 1=>by
   intro B O b s c h k ka kn kc w hck hok hlow hB hE hr hsz
   have hA:=CA.start hck hok h ka kn kc
   show Calls _ _ _ _ (XPost O b s w (exprC c h k (askF k c)))
   unfold exprC
   by_cases h1:h.kind = 1
   ·rw [if_pos h1]; exact ex_num h ka kn kc w h1 hE.hd.num hA
   rw [if_neg h1]
   by_cases h3:h.kind = 3
   ·rw [if_pos h3]; exact ex_text h ka kn kc w h3 hA
   rw [if_neg h3]
   by_cases h2:h.kind = 2
   ·rw [if_pos h2]; exact ex_name h ka kn kc w h2 hE.hd.text hA
   rw [if_neg h2]
   refine ex_comp h ka kn kc w _ h1 h2 h3 hA (fun W hW _=>?_) (fun c' m hm=>?_)
   ·exact compC_calls N (exprC_all N) h k ka kn kc W hW.ck hW.ok (fun g hg=>hlow g hg.1) (Nat.le_trans hB hW.fr.size) ⟨hE.hd,hE.few,foAt_keep (fun g hg hgB=>hW.fr.block g hg (fun ho=>by have:=hlow g ho; omega)) hE.kids⟩ hr (by omega) h1 h2 h3
   ·have he:askE c (h,k) = .ok (c',m):=by
     show exprC c h k (askF k c) = _
     unfold exprC
     rw [if_neg h1,if_neg h3,if_neg h2]; exact hm
    exact (askE_ok hok hr hE.hd.text (foAt_short hE.kids) he).1
theorem exprC_calls {B:Nat} {O:Nat -> Prop} {b:Nat} {s:Sl} {c:Ck} (h:Hd) (k:Fo) (ka:Option Addr) (kn kc:Nat) (w:World) (hck:CkAt O b s c w) (hok:CkOk c) (hlow:∀ g,O g -> B <= g) (hB:B <= w.heap.size)
 (hE:ExAt false (fun g=>g < B) w (h,k) ka kn) (hr:okE h k):Calls Tryz.prog 88 #[Φ (some ⟨b,0,none⟩),exV h ka kn kc] w (XPost O b s w (askE c (h,k))):=
 exprC_all (szF k + 1) B O b s c h k ka kn kc w hck hok hlow hB hE hr (Nat.lt_succ_self _)
end Go.Proofs.YtlaodgdlkkmmeaaGreat
