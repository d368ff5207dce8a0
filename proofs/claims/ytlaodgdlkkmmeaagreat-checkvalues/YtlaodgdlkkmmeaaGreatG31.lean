/-
  An expression of others: compound. An expression of others whose Kids are numbers: its number is laid down. An expression of others, put together from the left.
-/
import Derived.BigRegion
import Derived.Test.YtlaodgdlkkmmeaaGreatG30
import Derived.Test.YtlaodgdlkkmmeaaGreatG00
namespace Go.Proofs.YtlaodgdlkkmmeaaGreat
open Go.RowKit Go.Deep Go.Maps
open Go.Value renaming int->I,string->Ψ,slice->Γ
open Go.IntKind renaming i64->J
open Go.Obj renaming cells->Δ
set_option maxRecDepth 20000
set_option maxHeartbeats 4000000
/-- The Kids have told a fault. -/
theorem ckc_bad {O O1:Nat -> Prop} {b:Nat} {s:Sl} {c:Ck} (h:Hd) (ka:Option Addr) (kn kc:Nat) (w:World) (f:Int × Int) (hf:f.1 ≠ 0) (hA:CA w O O1 b s s c h ka kn kc (((w.alloc (Δ #[I J h.kind,I J h.num,Ψ (bs h.text),Γ ka kn kc,I J h.pl] 102)).alloc (Δ #[.bool false,Ψ ⟨#[]⟩,I J 0,I J 0] 109)).alloc (Δ #[I J 0,I J 0] 32)))
 (hC:∀ W,CA w O O1 b s s c h ka kn kc W -> w.heap.size + 3 <= W.heap.size -> Calls Tryz.prog 142 #[.pointer (some ⟨b,0,none⟩),Γ ka kn kc] W fun e w'=>e = .returned (.tuple #[Γ none 0 0,.agg #[I J f.1,I J f.2]]) /\ Fr O1 W w') :
 Calls Tryz.prog 122 #[.pointer (some ⟨b,0,none⟩),exV h ka kn kc] w (XPost O b s w (.error f)):=by
 have hres:Tryz.f122.results = #[.cell 4 109,.cell 5 32]:=by kernel_rfl
 have HF:Hid (f.1 ≠ 0):=hf
 have HC:=hid hC
 have HA:=hid hA
 have hq:(f.1 == 0) = false:=by rw [beq_eq_false_iff_ne]; exact hf
 clear hf hA hC
 unfold exV
 obtain ⟨f1,f2⟩:=f
 simp only at HC hq
 go_enter Tryz.func122,Tryz.ntmps122
 go_upto_region 1 with (fail)
 have hs3:w.heap.size + 3 <= (((w.alloc (Δ #[I J h.kind,I J h.num,Ψ (bs h.text),Γ ka kn kc,I J h.pl] 102)).alloc (Δ #[.bool false,Ψ ⟨#[]⟩,I J 0,I J 0] 109)).alloc (Δ #[I J 0,I J 0] 32)).heap.size:=by simp
 generalize (((w.alloc (Δ #[I J h.kind,I J h.num,Ψ (bs h.text),Γ ka kn kc,I J h.pl] 102)).alloc (Δ #[.bool false,Ψ ⟨#[]⟩,I J 0,I J 0] 109)).alloc (Δ #[I J 0,I J 0] 32)) = w1 at *
 have x3:w1.cell? ⟨w.heap.size,3,none⟩ = some (Γ ka kn kc):=HA.out.box.cell rfl
 go_wp2_with fail
 refine (HC.out _ HA.out hs3).mono ?_
 rintro e w2 ⟨rfl,hfr⟩
 have HB:Hid (Fr O w w2 /\ Lc O1 w2 (w.heap.size + 1) (mnL mn0) 109 /\ Lc O1 w2 (w.heap.size + 1 + 1) (flL (0,0)) 32):=⟨HA.out.fr.trans hfr HA.out.new,HA.out.r1.fr hfr (fun _ h=>.inl h),HA.out.r2.fr hfr (fun _ h=>.inl h)⟩
 clear hfr HA HC x3
 have r0:w2.cell? ⟨w.heap.size + 1,0,none⟩ = some (.bool false):=HB.out.2.1.cell rfl
 have r1:w2.cell? ⟨w.heap.size + 1,1,none⟩ = some (Ψ ⟨#[]⟩):=HB.out.2.1.cell rfl
 have r2:w2.cell? ⟨w.heap.size + 1,2,none⟩ = some (I J 0):=HB.out.2.1.cell rfl
 have r3:w2.cell? ⟨w.heap.size + 1,3,none⟩ = some (I J 0):=HB.out.2.1.cell rfl
 have q0:w2.cell? ⟨w.heap.size + 1 + 1,0,none⟩ = some (I J 0):=HB.out.2.2.cell rfl
 have q1:w2.cell? ⟨w.heap.size + 1 + 1,1,none⟩ = some (I J 0):=HB.out.2.2.cell rfl
 have rf:∀ i,w2.frozen? ⟨w.heap.size + 1,i,none⟩ = false:=fun i=>HB.out.2.1.fz i
 have qf:∀ i,w2.frozen? ⟨w.heap.size + 1 + 1,i,none⟩ = false:=fun i=>HB.out.2.2.fz i
 have hlt:=HB.out.2.2.lt
 have hlt2:w.heap.size + 1 < w2.heap.size:=by omega
 have hne:¬ w.heap.size + 1 = w2.heap.size:=by omega
 have hne2:¬ w.heap.size + 1 + 1 = w2.heap.size:=by omega
 go_wp2_with fail
 go_region
 go_wp2
 refine bodyPost_ret (v:=.tuple #[mnV mn0,flV (f1,f2)]) ?_ rfl ⟨HF.out,rfl,?_⟩
 ·simp only [results,hres]
  go_simp
  exact ⟨rfl,rfl⟩
 ·exact ((fr_res HB.out.1 _ _ _ _ _ _).alloc _).drew
open Go.Value renaming int->I,pointer->Φ,string->Ψ,slice->Γ
open Go.Ending renaming returned->Ω
set_option maxRecDepth 20000
set_option maxHeartbeats 4000000
/-- What is left of where a call stands, behind a fault. -/
structure CE (w:World) (O0 O:Nat -> Prop) (W:World):Prop where
 fr:Fr O0 w W
 r1:Lc O W (w.heap.size + 1) (mnL mn0) 109
 r2:Lc O W (w.heap.size + 1 + 1) (flL (0,0)) 32
section
variable {w W:World} {O0 O:Nat -> Prop} {b:Nat} {s0 s:Sl} {c:Ck} {h:Hd} {ka:Option Addr} {kn kc:Nat}
theorem CA.lay_err (a:CA w O0 O b s0 s c h ka kn kc W) {d:Df} (hd:DfIn d c.values.length) {p:Int} {f:Int × Int} (hl:layB c d p = .error f) :
 Calls Tryz.prog 59 #[Φ (some ⟨b,0,none⟩),.agg #[I J d.op,I J d.num,I J d.a,I J d.b],I J p] W fun e w'=>f.1 ≠ 0 /\ e = Ω (.tuple #[.agg #[.bool false,Ψ ⟨#[]⟩,I J 0,I J 0],.agg #[I J f.1,I J f.2]]) /\ Hid (CE w O0 O w' /\ Fr O W w'):=by
 refine (calls_err (lay_calls W a.ck a.ok d hd p) hl).mono ?_
 rintro e w' ⟨h1,h2,h3⟩
 exact ⟨h1,h2,⟨a.fr.trans h3 a.new,a.r1.fr h3 (fun _ h=>.inl h),a.r2.fr h3 (fun _ h=>.inl h)⟩,h3⟩
theorem CA.lay_ok (a:CA w O0 O b s0 s c h ka kn kc W) {d:Df} (hd:DfIn d c.values.length) {p:Int} {c':Ck} {m:Mn} (hl:layB c d p = .ok (c',m)) :
 Calls Tryz.prog 59 #[Φ (some ⟨b,0,none⟩),.agg #[I J d.op,I J d.num,I J d.a,I J d.b],I J p] W fun e w'=>e = Ω (.tuple #[.agg #[.bool m.isText,Ψ (bs m.text),I J m.place,I J m.num],.agg #[I J 0,I J 0]]) /\ Hid (Fr O W w' /\ ∃ O' s',(∀ g,O' g -> O g \/ W.heap.size <= g) /\ CA w O0 O' b s0 s' c' h ka kn kc w'):=by
 refine (calls_okm (lay_calls W a.ck a.ok d hd p) hl).mono ?_
 rintro e w' ⟨h1,h2,O',s',h3,h4,h5⟩
 exact ⟨h1,h2,O',s',h4,a.go h2 h4 h3 h5 (layB_ok a.ok hl).1⟩
end
/-- The Kids as compound has them: their row, beside the checker's blocks. -/
structure RW (w:World) (O:Nat -> Prop) (gm n mc:Nat) (ms:List Mn) (W:World):Prop where
 row:W.ownsRow 0 109 4 (Γ (some ⟨gm,0,none⟩) n mc) n (mnRow ms)
 off:¬ O gm
 far:w.heap.size + 1 + 1 < gm
 cap:n <= mc
theorem RW.next {w W W':World} {O:Nat -> Prop} {gm n mc:Nat} {ms:List Mn} (h:RW w O gm n mc ms W) (hb:Below W.heap.size W W'):RW w O gm n mc ms W':=⟨owned_below h.row hb,h.off,h.far,h.cap⟩
theorem RW.lt {w W:World} {O:Nat -> Prop} {gm n mc:Nat} {ms:List Mn} (h:RW w O gm n mc ms W):gm < W.heap.size:=(own_lt h.row rfl).1
theorem RW.fr {w W W':World} {O O':Nat -> Prop} {gm n mc:Nat} {ms:List Mn} (h:RW w O gm n mc ms W) (hf:Fr O W W') (hO:∀ g,O' g -> O g \/ W.heap.size <= g):RW w O' gm n mc ms W':=
 ⟨owned_of_block h.row fun g _ hv hb=>hf.block g (lt_block hb) (by cases hv; exact h.off),fun ho=>by rcases hO gm ho with h1 | h1; exact h.off h1; have:=h.lt; omega,h.far,h.cap⟩
theorem RW.cell {w W:World} {O:Nat -> Prop} {gm n mc:Nat} {ms:List Mn} (h:RW w O gm n mc ms W) {j:Nat} {m:Mn} (hj:ms[j]? = some m) {q:Nat} {u:Value} (hu:(mnCells m)[q]? = some u):W.cell? ⟨gm,j * 4 + q,none⟩ = some u:=
 (owned_cells h.row _ _ (flat_get mn_len ms j m q u hj hu)).1
theorem RW.set {w W:World} {O:Nat -> Prop} {gm n mc:Nat} {ms:List Mn} (h:RW w O gm n mc ms W) {g:Nat} (hg:gm ≠ g) (i:Nat) (u:Value):RW w O gm n mc ms (W.setCell ⟨g,i,none⟩ u):=
 ⟨owned_of_block h.row fun k _ hv _=>heap_other rfl (by cases hv; exact hg),h.off,h.far,h.cap⟩
/-- A sign ahead of a number. -/
theorem ckc_neg {O O1:Nat -> Prop} {b:Nat} {s:Sl} {c c1:Ck} (h:Hd) (ka:Option Addr) (kn kc:Nat) (w:World) (m:Mn) (ms:List Mn) (n:Nat) (hn:0 < n) (hk:h.kind = 4) (hm:0 <= m.place /\ m.place < c1.values.length) (hA:CA w O O1 b s s c h ka kn kc (((w.alloc (Δ #[I J h.kind,I J h.num,Ψ (bs h.text),Γ ka kn kc,I J h.pl] 102)).alloc (Δ #[.bool false,Ψ ⟨#[]⟩,I J 0,I J 0] 109)).alloc (Δ #[I J 0,I J 0] 32)))
 (hC:∀ W,CA w O O1 b s s c h ka kn kc W -> w.heap.size + 3 <= W.heap.size -> Calls Tryz.prog 142 #[Φ (some ⟨b,0,none⟩),Γ ka kn kc] W fun e w'=>∃ gm mc O2 s2,e = Ω (.tuple #[Γ (some ⟨gm,0,none⟩) n mc,.agg #[I J 0,I J 0]]) /\ Hid (CA w O O2 b s s2 c1 h ka kn kc w' /\ RW w O2 gm n mc (m :: ms) w')) :
 Calls Tryz.prog 122 #[Φ (some ⟨b,0,none⟩),exV h ka kn kc] w (XPost O b s w (layB c1 ⟨2,0,m.place,0⟩ h.pl)):=by
 have hres:Tryz.f122.results = #[.cell 4 109,.cell 5 32]:=by kernel_rfl
 have HC:=hid hC
 have HA:=hid hA
 have hq:(h.kind == 4) = true:=by rw [beq_iff_eq]; exact hk
 have HDf:Hid (DfIn ⟨2,0,m.place,0⟩ c1.values.length):=⟨by unfold InR; simp,fun _ _=>hm,fun h1 _=>by simp at h1⟩
 clear hA hC hk hm
 unfold exV
 go_enter Tryz.func122,Tryz.ntmps122
 go_upto_region 1 with (fail)
 have hs3:w.heap.size + 3 <= (((w.alloc (Δ #[I J h.kind,I J h.num,Ψ (bs h.text),Γ ka kn kc,I J h.pl] 102)).alloc (Δ #[.bool false,Ψ ⟨#[]⟩,I J 0,I J 0] 109)).alloc (Δ #[I J 0,I J 0] 32)).heap.size:=by simp
 generalize (((w.alloc (Δ #[I J h.kind,I J h.num,Ψ (bs h.text),Γ ka kn kc,I J h.pl] 102)).alloc (Δ #[.bool false,Ψ ⟨#[]⟩,I J 0,I J 0] 109)).alloc (Δ #[I J 0,I J 0] 32)) = w1 at *
 have x3:w1.cell? ⟨w.heap.size,3,none⟩ = some (Γ ka kn kc):=HA.out.box.cell rfl
 go_wp2_with fail
 refine (HC.out _ HA.out hs3).mono ?_
 rintro e w2 ⟨gm,mc,O2,s2,rfl,HK⟩
 clear HA HC x3 hs3
 have y0:w2.cell? ⟨gm,0,none⟩ = some (.bool m.isText):=HK.out.2.cell (j:=0) rfl (q:=0) rfl
 have y1:w2.cell? ⟨gm,1,none⟩ = some (Ψ (bs m.text)):=HK.out.2.cell (j:=0) rfl (q:=1) rfl
 have y2:w2.cell? ⟨gm,2,none⟩ = some (I J m.place):=HK.out.2.cell (j:=0) rfl (q:=2) rfl
 have y3:w2.cell? ⟨gm,3,none⟩ = some (I J m.num):=HK.out.2.cell (j:=0) rfl (q:=3) rfl
 have x0:w2.cell? ⟨w.heap.size,0,none⟩ = some (I J h.kind):=HK.out.1.box.cell rfl
 have x4:w2.cell? ⟨w.heap.size,4,none⟩ = some (I J h.pl):=HK.out.1.box.cell rfl
 have hl0:w.heap.size < w2.heap.size:=HK.out.1.box.lt
 have hlg:gm < w2.heap.size:=HK.out.2.lt
 have hmc:=HK.out.2.cap
 have HA2:Hid (∀ o o',CA w O O2 b s s2 c1 h ka kn kc ((w2.alloc o).alloc o')):=fun o o'=>(HK.out.1.next ((Below.refl _ _).alloc (Nat.le_refl _) o)).next ((Below.refl _ _).alloc (Nat.le_refl _) o')
 generalize h.kind = kd at *
 generalize hpl:h.pl = pl at *
 cases hl:layB c1 ⟨2,0,m.place,0⟩ pl with
 | error f=>
   have HL:Hid (∀ o o',Calls Tryz.prog 59 #[Φ (some ⟨b,0,none⟩),.agg #[I J 2,I J 0,I J m.place,I J 0],I J pl] ((w2.alloc o).alloc o') fun e w'=>f.1 ≠ 0 /\ e = Ω (.tuple #[.agg #[.bool false,Ψ ⟨#[]⟩,I J 0,I J 0],.agg #[I J f.1,I J f.2]]) /\ Hid (CE w O O2 w' /\ Fr O2 ((w2.alloc o).alloc o') w')):=fun o o'=>(HA2.out o o').lay_err HDf.out hl
   have HX:=hid hl
   clear hl hpl HDf HA2 HK
   obtain ⟨f1,f2⟩:=f
   simp only at HL
   obtain ⟨mt,mx,mp,mn⟩:=m
   simp only at HL y0 y1 y2 y3
   generalize bs mx = bx at *
   go_wp2_with fail
   refine (HL.out _ _).mono ?_
   rintro e w3 ⟨hf,rfl,HB⟩
   have HF:Hid (f1 ≠ 0):=hf
   clear hf HL y0 y1 y2 y3 x0 x4 hl0 hlg
   have r0:w3.cell? ⟨w.heap.size + 1,0,none⟩ = some (.bool false):=HB.out.1.r1.cell rfl
   have r1:w3.cell? ⟨w.heap.size + 1,1,none⟩ = some (Ψ ⟨#[]⟩):=HB.out.1.r1.cell rfl
   have r2:w3.cell? ⟨w.heap.size + 1,2,none⟩ = some (I J 0):=HB.out.1.r1.cell rfl
   have r3:w3.cell? ⟨w.heap.size + 1,3,none⟩ = some (I J 0):=HB.out.1.r1.cell rfl
   have q0:w3.cell? ⟨w.heap.size + 1 + 1,0,none⟩ = some (I J 0):=HB.out.1.r2.cell rfl
   have q1:w3.cell? ⟨w.heap.size + 1 + 1,1,none⟩ = some (I J 0):=HB.out.1.r2.cell rfl
   have rf:∀ i,w3.frozen? ⟨w.heap.size + 1,i,none⟩ = false:=fun i=>HB.out.1.r1.fz i
   have qf:∀ i,w3.frozen? ⟨w.heap.size + 1 + 1,i,none⟩ = false:=fun i=>HB.out.1.r2.fz i
   go_wp2
   refine bodyPost_ret (v:=.tuple #[mnV mn0,flV (f1,f2)]) ?_ rfl ?_
   ·simp only [results,hres]
    go_simp
    exact ⟨rfl,rfl⟩
   ·show XPost _ _ _ _ _ _ _
    rw [HX.out]
    exact ⟨HF.out,rfl,fr_res HB.out.1.fr _ _ _ _ _ _⟩
 | ok x=>
   obtain ⟨c2,m2⟩:=x
   have HL:Hid (∀ o o',Calls Tryz.prog 59 #[Φ (some ⟨b,0,none⟩),.agg #[I J 2,I J 0,I J m.place,I J 0],I J pl] ((w2.alloc o).alloc o') fun e w'=>e = Ω (.tuple #[.agg #[.bool m2.isText,Ψ (bs m2.text),I J m2.place,I J m2.num],.agg #[I J 0,I J 0]]) /\ Hid (Fr O2 ((w2.alloc o).alloc o') w' /\ ∃ O' s',(∀ g,O' g -> O2 g \/ ((w2.alloc o).alloc o').heap.size <= g) /\ CA w O O' b s s' c2 h ka kn kc w')):=fun o o'=>(HA2.out o o').lay_ok HDf.out hl
   have HX:=hid hl
   clear hl hpl HDf HA2 HK
   obtain ⟨mt,mx,mp,mn⟩:=m
   simp only at HL y0 y1 y2 y3
   generalize bs mx = bx at *
   obtain ⟨mt2,mx2,mp2,mn2⟩:=m2
   simp only at HL
   have HBX:Hid (∃ bx2,bx2 = bs mx2):=⟨_,rfl⟩
   obtain ⟨bx2,hbx2⟩:=HBX.out
   rw [<- hbx2] at HL
   have HBY:Hid (bx2 = bs mx2):=hbx2
   clear hbx2 HBX
   go_wp2_with fail
   refine (HL.out _ _).mono ?_
   rintro e w3 ⟨rfl,HB0⟩
   obtain ⟨O3,s3,-,hB3⟩:=HB0.out.2
   have HB:=hid hB3
   clear HL y0 y1 y2 y3 x0 x4 hl0 hlg HB0 hB3
   have r0:w3.cell? ⟨w.heap.size + 1,0,none⟩ = some (.bool false):=HB.out.r1.cell rfl
   have r1:w3.cell? ⟨w.heap.size + 1,1,none⟩ = some (Ψ ⟨#[]⟩):=HB.out.r1.cell rfl
   have r2:w3.cell? ⟨w.heap.size + 1,2,none⟩ = some (I J 0):=HB.out.r1.cell rfl
   have r3:w3.cell? ⟨w.heap.size + 1,3,none⟩ = some (I J 0):=HB.out.r1.cell rfl
   have q0:w3.cell? ⟨w.heap.size + 1 + 1,0,none⟩ = some (I J 0):=HB.out.r2.cell rfl
   have q1:w3.cell? ⟨w.heap.size + 1 + 1,1,none⟩ = some (I J 0):=HB.out.r2.cell rfl
   have rf:∀ i,w3.frozen? ⟨w.heap.size + 1,i,none⟩ = false:=fun i=>HB.out.r1.fz i
   have qf:∀ i,w3.frozen? ⟨w.heap.size + 1 + 1,i,none⟩ = false:=fun i=>HB.out.r2.fz i
   go_wp2
   refine bodyPost_ret (v:=.tuple #[mnV ⟨mt2,mx2,mp2,mn2⟩,flV (0,0)]) ?_ rfl ?_
   ·simp only [results,hres]
    unfold mnV flV
    simp only
    rw [<- HBY.out]
    go_simp
   ·show XPost _ _ _ _ _ _ _
    rw [HX.out]
    exact ⟨rfl,(HB.out.done _ _ _ _ _ _).1,O3,s3,HB.out.sv,HB.out.new,(HB.out.done _ _ _ _ _ _).2⟩
set_option maxRecDepth 20000
set_option maxHeartbeats 4000000
theorem defOp_calls (k:Int) (w:World):Calls Tryz.prog 143 #[I J k] w fun e w'=>e = Ω (I J (defOpB k)) /\ w' = w:=by
 unfold defOpB
 by_cases h5:k = 5
 ·subst h5
  go_enter Tryz.func143,Tryz.ntmps143
  go_wp2
  go_ret
  exact ⟨rfl,rfl⟩
 have k5:(k == 5) = false:=by rw [beq_eq_false_iff_ne]; exact h5
 by_cases h6:k = 6
 ·subst h6
  go_enter Tryz.func143,Tryz.ntmps143
  go_wp2
  go_ret
  exact ⟨rfl,rfl⟩
 have k6:(k == 6) = false:=by rw [beq_eq_false_iff_ne]; exact h6
 by_cases h7:k = 7
 ·subst h7
  go_enter Tryz.func143,Tryz.ntmps143
  go_wp2
  go_ret
  exact ⟨rfl,rfl⟩
 have k7:(k == 7) = false:=by rw [beq_eq_false_iff_ne]; exact h7
 by_cases h8:k = 8
 ·subst h8
  go_enter Tryz.func143,Tryz.ntmps143
  go_wp2
  go_ret
  exact ⟨rfl,rfl⟩
 have k8:(k == 8) = false:=by rw [beq_eq_false_iff_ne]; exact h8
 rw [if_neg h5,if_neg h6,if_neg h7,if_neg h8]
 clear h5 h6 h7 h8
 go_enter Tryz.func143,Tryz.ntmps143
 go_wp2
 go_ret
 exact ⟨rfl,rfl⟩
theorem CA.tight {w W:World} {O0 O:Nat -> Prop} {b:Nat} {s0 s:Sl} {c:Ck} {h:Hd} {ka:Option Addr} {kn kc:Nat} (a:CA w O0 O b s0 s c h ka kn kc W):CA w O0 (fun g=>O g /\ g < W.heap.size) b s0 s c h ka kn kc W:=
 ⟨a.ck.tight,a.ok,a.sv,a.fr,⟨a.box.heap,fun hh=>a.box.off hh.1⟩,⟨a.r1.heap,fun hh=>a.r1.off hh.1⟩,⟨a.r2.heap,fun hh=>a.r2.off hh.1⟩,fun g hg=>a.new g hg.1⟩
/-- Where the loop stands: a number, and those that are to come. -/
structure FA (w:World) (O:Nat -> Prop) (b:Nat) (s:Sl) (h:Hd) (ka:Option Addr) (kn kc:Nat) (gm n mc gf gv:Nat) (ms:List Mn) (D:Er (Ck × Mn)) (j:Nat) (c':Ck) (m:Mn) (rest:List Mn) (O':Nat -> Prop) (s':Sl) (W:World):Prop where
 a:CA w O O' b s s' c' h ka kn kc W
 r:RW w O' gm n mc ms W
 f:Lc O' W gf (flL (0,0)) 32
 v:Lc O' W gv (mnL m) 109
 drop:ms.drop (j + 1) = rest
 acc:D = foldB (defOpB h.kind) h.pl c' m rest
 mok:m.isText = false /\ MnOk c'.values.length m
 rok:∀ k ∈ rest,k.isText = false /\ MnOk c'.values.length k
theorem FA.next {w W W':World} {O O':Nat -> Prop} {b:Nat} {s s':Sl} {c':Ck} {h:Hd} {ka:Option Addr} {kn kc gm n mc gf gv j:Nat} {ms rest:List Mn} {D:Er (Ck × Mn)} {m:Mn} (x:FA w O b s h ka kn kc gm n mc gf gv ms D j c' m rest O' s' W) (hb:Below W.heap.size W W'):FA w O b s h ka kn kc gm n mc gf gv ms D j c' m rest O' s' W':=
 ⟨x.a.next hb,x.r.next hb,x.f.next hb,x.v.next hb,x.drop,x.acc,x.mok,x.rok⟩
theorem ckc_fold {O O1:Nat -> Prop} {b:Nat} {s:Sl} {c c1:Ck} (h:Hd) (ka:Option Addr) (kn kc:Nat) (w:World) (m:Mn) (ms:List Mn) (n:Nat) (hn:(m :: ms).length = n) (hn8:n <= 8) (hk:h.kind ≠ 4) (hm:∀ x ∈ m :: ms,x.isText = false /\ MnOk c1.values.length x) (hA:CA w O O1 b s s c h ka kn kc (((w.alloc (Δ #[I J h.kind,I J h.num,Ψ (bs h.text),Γ ka kn kc,I J h.pl] 102)).alloc (Δ #[.bool false,Ψ ⟨#[]⟩,I J 0,I J 0] 109)).alloc (Δ #[I J 0,I J 0] 32)))
 (hC:∀ W,CA w O O1 b s s c h ka kn kc W -> w.heap.size + 3 <= W.heap.size -> Calls Tryz.prog 142 #[Φ (some ⟨b,0,none⟩),Γ ka kn kc] W fun e w'=>∃ gm mc O2 s2,e = Ω (.tuple #[Γ (some ⟨gm,0,none⟩) n mc,.agg #[I J 0,I J 0]]) /\ Hid (CA w O O2 b s s2 c1 h ka kn kc w' /\ RW w O2 gm n mc (m :: ms) w')) :
 Calls Tryz.prog 122 #[Φ (some ⟨b,0,none⟩),exV h ka kn kc] w (XPost O b s w (foldB (defOpB h.kind) h.pl c1 m ms)):=by
 have hres:Tryz.f122.results = #[.cell 4 109,.cell 5 32]:=by kernel_rfl
 have HC:=hid hC
 have HA:=hid hA
 have hq:(h.kind == 4) = false:=by rw [beq_eq_false_iff_ne]; exact hk
 have HM:=hid hm
 have hn1:0 < n:=by rw [<- hn]; simp
 have HN:Hid ((m :: ms).length = n):=hn
 obtain ⟨D,hD⟩:∃ D,D = foldB (defOpB h.kind) h.pl c1 m ms:=⟨_,rfl⟩
 rw [<- hD]
 have HD:=hid hD
 clear hA hC hk hm hn hD
 unfold exV
 go_enter Tryz.func122,Tryz.ntmps122
 go_upto_region 1 with (fail)
 have hs3:w.heap.size + 3 <= (((w.alloc (Δ #[I J h.kind,I J h.num,Ψ (bs h.text),Γ ka kn kc,I J h.pl] 102)).alloc (Δ #[.bool false,Ψ ⟨#[]⟩,I J 0,I J 0] 109)).alloc (Δ #[I J 0,I J 0] 32)).heap.size:=by simp
 generalize (((w.alloc (Δ #[I J h.kind,I J h.num,Ψ (bs h.text),Γ ka kn kc,I J h.pl] 102)).alloc (Δ #[.bool false,Ψ ⟨#[]⟩,I J 0,I J 0] 109)).alloc (Δ #[I J 0,I J 0] 32)) = w1 at *
 have x3:w1.cell? ⟨w.heap.size,3,none⟩ = some (Γ ka kn kc):=HA.out.box.cell rfl
 go_wp2_with fail
 refine (HC.out _ HA.out hs3).mono ?_
 rintro e w2 ⟨gm,mc,O2,s2,rfl,HK⟩
 clear HA HC x3 hs3
 have y0:w2.cell? ⟨gm,0,none⟩ = some (.bool m.isText):=HK.out.2.cell (j:=0) rfl (q:=0) rfl
 have y1:w2.cell? ⟨gm,1,none⟩ = some (Ψ (bs m.text)):=HK.out.2.cell (j:=0) rfl (q:=1) rfl
 have y2:w2.cell? ⟨gm,2,none⟩ = some (I J m.place):=HK.out.2.cell (j:=0) rfl (q:=2) rfl
 have y3:w2.cell? ⟨gm,3,none⟩ = some (I J m.num):=HK.out.2.cell (j:=0) rfl (q:=3) rfl
 have x0:w2.cell? ⟨w.heap.size,0,none⟩ = some (I J h.kind):=HK.out.1.box.cell rfl
 have hl0:w.heap.size < w2.heap.size:=HK.out.1.box.lt
 have hl2:w.heap.size + 1 + 1 < w2.heap.size:=HK.out.1.r2.lt
 have hlg:gm < w2.heap.size:=HK.out.2.lt
 have hmc:=HK.out.2.cap
 have HFA:Hid (FA w O b s h ka kn kc gm n mc w2.heap.size (w2.heap.size + 1) (m :: ms) D 0 c1 m ms (fun g=>O2 g /\ g < w2.heap.size) s2 ((w2.alloc (Δ #[I J 0,I J 0] 32)).alloc (Δ #[.bool m.isText,Ψ (bs m.text),I J m.place,I J m.num] 109))):=by
  have hb:Below w2.heap.size w2 ((w2.alloc (Δ #[I J 0,I J 0] 32)).alloc (Δ #[.bool m.isText,Ψ (bs m.text),I J m.place,I J m.num] 109)):=((Below.refl _ _).alloc (Nat.le_refl _) _).alloc (by simp) _
  have hv:=heap_alloc_new (w2.alloc (Δ #[I J 0,I J 0] 32)) (Δ #[.bool m.isText,Ψ (bs m.text),I J m.place,I J m.num] 109)
  rw [show (w2.alloc (Δ #[I J 0,I J 0] 32)).heap.size = w2.heap.size + 1 by simp] at hv
  exact ⟨HK.out.1.tight.next hb,⟨owned_below HK.out.2.row hb,fun hh=>HK.out.2.off hh.1,HK.out.2.far,HK.out.2.cap⟩,⟨heap_old (heap_alloc_new w2 _),fun hh=>by have:=hh.2; omega⟩,⟨hv,fun hh=>by have:=hh.2; omega⟩,rfl,HD.out,HM.out m (by simp),fun k hk=>HM.out k (by simp [hk])⟩
 have HMC:Hid (n <= mc):=hmc
 have hfar:=HK.out.2.far
 obtain ⟨gf,hgf⟩:∃ g,g = w2.heap.size:=⟨_,rfl⟩
 clear HK HD HM
 have hnn:((n - 1:Nat):Int) = (n:Int) - 1:=by omega
 by_cases hmc1:mc = 1
 ·have hn2:n = 1:=by have:=HMC.out; omega
  subst hmc1
  subst hn2
  clear hmc hgf
  go_wp2_with fail
  go_loopg [41] 0 (fun k iv wr=>∃ (c':Ck) (m':Mn) (O':Nat -> Prop) (s':Sl),iv = I J 0 /\ Hid (FA w O b s h ka kn kc gm 1 1 w2.heap.size (w2.heap.size + 1) (m :: ms) D 0 c' m' [] O' s' wr))
  case atStart=>
   have hms:ms = []:=by
    have:=HN.out
    cases ms with
    | nil=>rfl
    | cons a r=>simp at this
   subst hms
   exact ⟨c1,m,_,s2,rfl,HFA.out⟩
  case round=>
   obtain ⟨c',m',O',s',rfl,HT⟩:=hrel
   clear y0 y1 y2 y3 x0 HFA
   have HDX:Hid (D = .ok (c',m')):=HT.out.acc
   have v0:wr.cell? ⟨w2.heap.size + 1,0,none⟩ = some (.bool m'.isText):=HT.out.v.cell rfl
   have v1:wr.cell? ⟨w2.heap.size + 1,1,none⟩ = some (Ψ (bs m'.text)):=HT.out.v.cell rfl
   have v2:wr.cell? ⟨w2.heap.size + 1,2,none⟩ = some (I J m'.place):=HT.out.v.cell rfl
   have v3:wr.cell? ⟨w2.heap.size + 1,3,none⟩ = some (I J m'.num):=HT.out.v.cell rfl
   have r0:wr.cell? ⟨w.heap.size + 1,0,none⟩ = some (.bool false):=HT.out.a.r1.cell rfl
   have r1:wr.cell? ⟨w.heap.size + 1,1,none⟩ = some (Ψ ⟨#[]⟩):=HT.out.a.r1.cell rfl
   have r2:wr.cell? ⟨w.heap.size + 1,2,none⟩ = some (I J 0):=HT.out.a.r1.cell rfl
   have r3:wr.cell? ⟨w.heap.size + 1,3,none⟩ = some (I J 0):=HT.out.a.r1.cell rfl
   have q0:wr.cell? ⟨w.heap.size + 1 + 1,0,none⟩ = some (I J 0):=HT.out.a.r2.cell rfl
   have q1:wr.cell? ⟨w.heap.size + 1 + 1,1,none⟩ = some (I J 0):=HT.out.a.r2.cell rfl
   have rf:∀ i,wr.frozen? ⟨w.heap.size + 1,i,none⟩ = false:=fun i=>HT.out.a.r1.fz i
   have qf:∀ i,wr.frozen? ⟨w.heap.size + 1 + 1,i,none⟩ = false:=fun i=>HT.out.a.r2.fz i
   obtain ⟨mt2,mx2,mp2,mn2⟩:=m'
   simp only at v0 v1 v2 v3
   obtain ⟨bx2,hbx2⟩:∃ bx2,bx2 = bs mx2:=⟨_,rfl⟩
   rw [<- hbx2] at v1
   have HBY:Hid (bx2 = bs mx2):=hbx2
   clear hbx2
   go_wp2
   refine bodyPost_ret (v:=.tuple #[mnV ⟨mt2,mx2,mp2,mn2⟩,flV (0,0)]) ?_ rfl ?_
   ·simp only [results,hres]
    unfold mnV flV
    simp only
    rw [<- HBY.out]
    go_simp
   ·show XPost _ _ _ _ _ _ _
    rw [HDX.out]
    have hd:=HT.out.a.done (.bool mt2) (.string bx2) (I J mp2) (I J mn2) (I J 0) (I J 0)
    exact ⟨rfl,hd.1,O',s',HT.out.a.sv,HT.out.a.new,hd.2⟩
 ·have hb2:bs m.text = bs m.text:=rfl
  clear hb2 hgf
  go_wp2_with fail
  go_loopg [41] (n - 1) (fun k iv wr=>∃ (c':Ck) (m':Mn) (rest:List Mn) (O':Nat -> Prop) (s':Sl) (j:Nat),iv = I J (j:Int) /\ j + k = n - 1 /\ Hid (FA w O b s h ka kn kc gm n mc w2.heap.size (w2.heap.size + 1) (m :: ms) D j c' m' rest O' s' wr))
  case atStart=>exact ⟨c1,m,ms,_,s2,0,rfl,by omega,HFA.out⟩
  case round=>
   obtain ⟨c',m',rest,O',s',j,rfl,hjk,HT⟩:=hrel
   clear y0 y1 y2 y3 x0 HFA
   by_cases hj:j < n - 1
   ·obtain ⟨k0,rest',hrest⟩:∃ k0 rest',rest = k0 :: rest':=by
     cases hr:rest with
     | nil=>
       have h2:=HT.out.drop
       rw [hr] at h2
       have h3:=congrArg List.length h2
       rw [List.length_drop,HN.out] at h3
       simp at h3
       omega
     | cons k r=>exact ⟨k,r,rfl⟩
    subst hrest
    have hmj:(m :: ms)[j + 1]? = some k0:=by
     have:=congrArg (·[0]?) HT.out.drop
     simpa using this
    have u0:wr.cell? ⟨gm,4 + j * 4,none⟩ = some (.bool k0.isText):=by have:=HT.out.r.cell hmj (q:=0) rfl; rw [show (j + 1) * 4 + 0 = 4 + j * 4 by omega] at this; exact this
    have u1:wr.cell? ⟨gm,4 + j * 4 + 1,none⟩ = some (Ψ (bs k0.text)):=by have:=HT.out.r.cell hmj (q:=1) rfl; rw [show (j + 1) * 4 + 1 = 4 + j * 4 + 1 by omega] at this; exact this
    have u2:wr.cell? ⟨gm,4 + j * 4 + 2,none⟩ = some (I J k0.place):=by have:=HT.out.r.cell hmj (q:=2) rfl; rw [show (j + 1) * 4 + 2 = 4 + j * 4 + 2 by omega] at this; exact this
    have u3:wr.cell? ⟨gm,4 + j * 4 + 3,none⟩ = some (I J k0.num):=by have:=HT.out.r.cell hmj (q:=3) rfl; rw [show (j + 1) * 4 + 3 = 4 + j * 4 + 3 by omega] at this; exact this
    have hrok:=HT.out.rok k0 (by simp)
    have HDI:Hid (DfIn ⟨defOpB h.kind,0,m'.place,k0.place⟩ c'.values.length):=⟨by unfold InR; simp,fun _ _=>HT.out.mok.2.place HT.out.mok.1,fun _ _=>hrok.2.place hrok.1⟩
    have HTn:Hid (∀ o,FA w O b s h ka kn kc gm n mc w2.heap.size (w2.heap.size + 1) (m :: ms) D j c' m' (k0 :: rest') O' s' (wr.alloc o).drew):=fun o=>HT.out.next (((Below.refl _ _).alloc (Nat.le_refl _) o).drew)
    have HSS:Hid (∀ o:Obj,o = Δ #[.bool k0.isText,Ψ (bs k0.text),I J k0.place,I J k0.num] 109 -> (wr.alloc o).drew.cell? ⟨w.heap.size,0,none⟩ = some (I J h.kind) /\ (wr.alloc o).drew.cell? ⟨w.heap.size,4,none⟩ = some (I J h.pl) /\ (wr.alloc o).drew.cell? ⟨w2.heap.size + 1,2,none⟩ = some (I J m'.place) /\ (wr.alloc o).drew.cell? ⟨wr.heap.size,2,none⟩ = some (I J k0.place)):=fun o ho=>
     ⟨(HTn.out o).a.box.cell rfl,(HTn.out o).a.box.cell rfl,(HTn.out o).v.cell rfl,by subst ho; exact blk (heap_alloc_new wr _) rfl⟩
    have HOP:Hid (∀ w,Calls Tryz.prog 143 #[I J h.kind] w fun e w'=>e = Ω (I J (defOpB h.kind)) /\ w' = w):=fun w=>defOp_calls h.kind w
    have hlv:=HT.out.v.lt
    have hlf:=HT.out.f.lt
    have hgm2:gm < wr.heap.size:=HT.out.r.lt
    clear hrok hmj
    cases hl:layB c' ⟨defOpB h.kind,0,m'.place,k0.place⟩ h.pl with
    | error f=>
      have HL:Hid (∀ o,Calls Tryz.prog 59 #[Φ (some ⟨b,0,none⟩),.agg #[I J (defOpB h.kind),I J 0,I J m'.place,I J k0.place],I J h.pl] (wr.alloc o).drew fun e w'=>f.1 ≠ 0 /\ e = Ω (.tuple #[.agg #[.bool false,Ψ ⟨#[]⟩,I J 0,I J 0],.agg #[I J f.1,I J f.2]]) /\ Hid (CE w O O' w' /\ Lc O' w' w2.heap.size (flL (0,0)) 32 /\ Lc O' w' (w2.heap.size + 1) (mnL m') 109)):=fun o=>by
       refine ((HTn.out o).a.lay_err HDI.out hl).mono ?_
       rintro e w' ⟨h1,h2,h3⟩
       exact ⟨h1,h2,h3.out.1,(HTn.out o).f.fr h3.out.2 (fun _ h=>.inl h),(HTn.out o).v.fr h3.out.2 (fun _ h=>.inl h)⟩
      have HDX:Hid (D = .error f):=by
       show D = _
       rw [HT.out.acc]
       simp only [foldB,hl]
      clear hl HDI HTn HT
      obtain ⟨k1,k2,kp,k3⟩:=k0
      obtain ⟨mt,mx,mp,mn⟩:=m'
      obtain ⟨f1,f2⟩:=f
      simp only at HL HSS u0 u1 u2 u3
      generalize h.kind = kd at *
      generalize h.pl = pl at *
      generalize defOpB kd = op at *
      generalize bs k2 = bk at *
      go_wp2_with fail
      have HS0:Hid ((wr.alloc (Δ #[.bool k1,Ψ bk,I J kp,I J k3] 109)).drew.cell? ⟨w.heap.size,0,none⟩ = some (I J kd) /\ (wr.alloc (Δ #[.bool k1,Ψ bk,I J kp,I J k3] 109)).drew.cell? ⟨w.heap.size,4,none⟩ = some (I J pl) /\ (wr.alloc (Δ #[.bool k1,Ψ bk,I J kp,I J k3] 109)).drew.cell? ⟨w2.heap.size + 1,2,none⟩ = some (I J mp) /\ (wr.alloc (Δ #[.bool k1,Ψ bk,I J kp,I J k3] 109)).drew.cell? ⟨wr.heap.size,2,none⟩ = some (I J kp)):=HSS.out _ rfl
      refine wp_region_Y (fun j=>[11,12,13,14,15,16].contains j) (fun W=>W.cell? ⟨w.heap.size,0,none⟩ = some (I J kd) /\ W.cell? ⟨w.heap.size,4,none⟩ = some (I J pl) /\ W.cell? ⟨w2.heap.size + 1,2,none⟩ = some (I J mp) /\ W.cell? ⟨wr.heap.size,2,none⟩ = some (I J kp)) (by kernel_rfl) ?_
      refine wpAnyY_take (i:=0) (v:=Φ (some ⟨b,0,none⟩)) rfl (by kernel_rfl) (by kernel_rfl) (late_of (by kernel_rfl)) (by kernel_rfl) (by kernel_rfl) (fun _ _ _ h=>h) HS0.out (Or.inl ⟨by rfl,by (intro W hW; obtain ⟨_,_,_,_⟩:=hW; go_simp)⟩) ?_
      simp only [Act.put]
      refine wpAnyY_take (i:=1) (v:=Φ (some ⟨w.heap.size,0,none⟩)) rfl (by kernel_rfl) (by kernel_rfl) (late_of (by kernel_rfl)) (by kernel_rfl) (by kernel_rfl) (fun _ _ _ h=>h) HS0.out (Or.inl ⟨by rfl,by (intro W hW; obtain ⟨_,_,_,_⟩:=hW; go_simp)⟩) ?_
      simp only [Act.put]
      refine wpAnyY_take (i:=2) (v:=I J kd) rfl (by kernel_rfl) (by kernel_rfl) (late_of (by kernel_rfl)) (by kernel_rfl) (by kernel_rfl) (fun _ _ _ h=>h) HS0.out (Or.inl ⟨by rfl,by (intro W hW; obtain ⟨_,_,_,_⟩:=hW; go_simp)⟩) ?_
      simp only [Act.put]
      refine wpAnyY_take (i:=4) (v:=Φ (some ⟨w2.heap.size + 1,2,none⟩)) rfl (by kernel_rfl) (by kernel_rfl) (late_of (by kernel_rfl)) (by kernel_rfl) (by kernel_rfl) (fun _ _ _ h=>h) HS0.out (Or.inl ⟨by rfl,by (intro W hW; obtain ⟨_,_,_,_⟩:=hW; go_simp)⟩) ?_
      simp only [Act.put]
      refine wpAnyY_take (i:=5) (v:=I J mp) rfl (by kernel_rfl) (by kernel_rfl) (late_of (by kernel_rfl)) (by kernel_rfl) (by kernel_rfl) (fun _ _ _ h=>h) HS0.out (Or.inl ⟨by rfl,by (intro W hW; obtain ⟨_,_,_,_⟩:=hW; go_simp)⟩) ?_
      simp only [Act.put]
      refine wpAnyY_take (i:=6) (v:=Φ (some ⟨wr.heap.size,2,none⟩)) rfl (by kernel_rfl) (by kernel_rfl) (late_of (by kernel_rfl)) (by kernel_rfl) (by kernel_rfl) (fun _ _ _ h=>h) HS0.out (Or.inl ⟨by rfl,by (intro W hW; obtain ⟨_,_,_,_⟩:=hW; go_simp)⟩) ?_
      simp only [Act.put]
      refine wpAnyY_take (i:=7) (v:=I J kp) rfl (by kernel_rfl) (by kernel_rfl) (late_of (by kernel_rfl)) (by kernel_rfl) (by kernel_rfl) (fun _ _ _ h=>h) HS0.out (Or.inl ⟨by rfl,by (intro W hW; obtain ⟨_,_,_,_⟩:=hW; go_simp)⟩) ?_
      simp only [Act.put]
      refine wpAnyY_take (i:=9) (v:=Φ (some ⟨w.heap.size,4,none⟩)) rfl (by kernel_rfl) (by kernel_rfl) (late_of (by kernel_rfl)) (by kernel_rfl) (by kernel_rfl) (fun _ _ _ h=>h) HS0.out (Or.inl ⟨by rfl,by (intro W hW; obtain ⟨_,_,_,_⟩:=hW; go_simp)⟩) ?_
      simp only [Act.put]
      refine wpAnyY_take (i:=10) (v:=I J pl) rfl (by kernel_rfl) (by kernel_rfl) (late_of (by kernel_rfl)) (by kernel_rfl) (by kernel_rfl) (fun _ _ _ h=>h) HS0.out (Or.inl ⟨by rfl,by (intro W hW; obtain ⟨_,_,_,_⟩:=hW; go_simp)⟩) ?_
      simp only [Act.put]
      refine wpAnyY_one (i:=3) rfl (by kernel_rfl) (fun K hK=>?_)
      go_simp
      refine (HOP.out _).mono ?_
      rintro e w3 ⟨rfl,rfl⟩
      refine hK.out _ _ (fun _=>HS0.out) ?_
      clear hK K HOP
      refine wpAnyY_one (i:=8) rfl (by kernel_rfl) (fun K hK=>?_)
      go_simp
      refine hK.out _ _ (fun _=>HS0.out) ?_
      clear hK K
      refine wpAnyY_one (i:=11) rfl (by kernel_rfl) (fun K hK=>?_)
      go_simp
      refine (HL.out _).mono ?_
      rintro e w4 ⟨hf,rfl,HB⟩
      refine hK.out _ _ (fun h=>absurd h (by decide)) ?_
      have hq2:(f1 == 0) = false:=by rw [beq_eq_false_iff_ne]; exact hf
      have HF:Hid (f1 ≠ 0):=hf
      clear hK K HL hf HS0 HSS u0 u1 u2 u3 hlv hlf hgm2
      refine wpAnyY_one (i:=12) rfl (by kernel_rfl) (fun K hK=>?_)
      go_simp
      refine hK.out _ _ (fun h=>absurd h (by decide)) ?_
      clear hK K
      have v0:w4.cell? ⟨w2.heap.size + 1,0,none⟩ = some (.bool mt):=HB.out.2.2.cell rfl
      have v1:w4.cell? ⟨w2.heap.size + 1,1,none⟩ = some (Ψ (bs mx)):=HB.out.2.2.cell rfl
      have v2:w4.cell? ⟨w2.heap.size + 1,2,none⟩ = some (I J mp):=HB.out.2.2.cell rfl
      have v3:w4.cell? ⟨w2.heap.size + 1,3,none⟩ = some (I J mn):=HB.out.2.2.cell rfl
      have vf:∀ i,w4.frozen? ⟨w2.heap.size + 1,i,none⟩ = false:=fun i=>HB.out.2.2.fz i
      have g0:w4.cell? ⟨w2.heap.size,0,none⟩ = some (I J 0):=HB.out.2.1.cell rfl
      have g1:w4.cell? ⟨w2.heap.size,1,none⟩ = some (I J 0):=HB.out.2.1.cell rfl
      have gff:∀ i,w4.frozen? ⟨w2.heap.size,i,none⟩ = false:=fun i=>HB.out.2.1.fz i
      generalize bs mx = bmx at *
      have r0:w4.cell? ⟨w.heap.size + 1,0,none⟩ = some (.bool false):=HB.out.1.r1.cell rfl
      have r1:w4.cell? ⟨w.heap.size + 1,1,none⟩ = some (Ψ ⟨#[]⟩):=HB.out.1.r1.cell rfl
      have r2:w4.cell? ⟨w.heap.size + 1,2,none⟩ = some (I J 0):=HB.out.1.r1.cell rfl
      have r3:w4.cell? ⟨w.heap.size + 1,3,none⟩ = some (I J 0):=HB.out.1.r1.cell rfl
      have q0:w4.cell? ⟨w.heap.size + 1 + 1,0,none⟩ = some (I J 0):=HB.out.1.r2.cell rfl
      have q1:w4.cell? ⟨w.heap.size + 1 + 1,1,none⟩ = some (I J 0):=HB.out.1.r2.cell rfl
      have rf:∀ i,w4.frozen? ⟨w.heap.size + 1,i,none⟩ = false:=fun i=>HB.out.1.r1.fz i
      have qf:∀ i,w4.frozen? ⟨w.heap.size + 1 + 1,i,none⟩ = false:=fun i=>HB.out.1.r2.fz i
      have hz1:¬ w.heap.size + 1 = w2.heap.size:=by omega
      have hz2:¬ w.heap.size + 1 = w2.heap.size + 1:=by omega
      have hz3:¬ w.heap.size + 1 + 1 = w2.heap.size:=by omega
      have hz4:¬ w.heap.size + 1 + 1 = w2.heap.size + 1:=by omega
      refine wpAnyY_two (i:=13) (j:=14) rfl rfl (by kernel_rfl) (fun K hK=>?_) (fun K hK=>?_)
      ·go_simp
       refine hK.out _ _ (fun h=>absurd h (by decide)) ?_
       clear hK K
       refine wpAnyY_two (i:=14) (j:=15) rfl rfl (by kernel_rfl) (fun K hK=>?_) (fun K hK=>?_)
       ·go_simp
        refine hK.out _ _ (fun h=>absurd h (by decide)) ?_
        clear hK K
        refine wpAnyY_one (i:=15) rfl (by kernel_rfl) (fun K hK=>?_)
        go_simp
        refine hK.out _ _ (fun h=>absurd h (by decide)) ?_
        clear hK K
        refine wpAnyY_one (i:=16) rfl (by kernel_rfl) (fun K hK=>?_)
        go_simp
        refine hK.out _ _ (fun h=>absurd h (by decide)) ?_
        clear hK K
        refine wpAnyY_done (by kernel_rfl) ?_ _
        go_wp2_with fail
        go_region
        go_wp2
        refine bodyPost_ret (v:=.tuple #[mnV mn0,flV (f1,f2)]) ?_ rfl ?_
        ·simp only [results,hres]
         go_simp
         exact ⟨rfl,rfl⟩
        ·show XPost _ _ _ _ _ _ _
         rw [HDX.out]
         exact ⟨HF.out,rfl,(fr_res ((((((HB.out.1.fr.setCell (.inr (by omega)) _ _).setCell (.inr (by omega)) _ _).setCell (.inr (by omega)) _ _).setCell (.inr (by omega)) _ _).setCell (.inr (by omega)) _ _).setCell (.inr (by omega)) _ _) _ _ _ _ _ _).drew⟩
       ·go_simp
        refine hK.out _ _ (fun h=>absurd h (by decide)) ?_
        clear hK K
        refine wpAnyY_one (i:=14) rfl (by kernel_rfl) (fun K hK=>?_)
        go_simp
        refine hK.out _ _ (fun h=>absurd h (by decide)) ?_
        clear hK K
        refine wpAnyY_one (i:=16) rfl (by kernel_rfl) (fun K hK=>?_)
        go_simp
        refine hK.out _ _ (fun h=>absurd h (by decide)) ?_
        clear hK K
        refine wpAnyY_done (by kernel_rfl) ?_ _
        go_wp2_with fail
        go_region
        go_wp2
        refine bodyPost_ret (v:=.tuple #[mnV mn0,flV (f1,f2)]) ?_ rfl ?_
        ·simp only [results,hres]
         go_simp
         exact ⟨rfl,rfl⟩
        ·show XPost _ _ _ _ _ _ _
         rw [HDX.out]
         exact ⟨HF.out,rfl,(fr_res ((((((HB.out.1.fr.setCell (.inr (by omega)) _ _).setCell (.inr (by omega)) _ _).setCell (.inr (by omega)) _ _).setCell (.inr (by omega)) _ _).setCell (.inr (by omega)) _ _).setCell (.inr (by omega)) _ _) _ _ _ _ _ _).drew⟩
      ·go_simp
       refine hK.out _ _ (fun h=>absurd h (by decide)) ?_
       clear hK K
       refine wpAnyY_one (i:=13) rfl (by kernel_rfl) (fun K hK=>?_)
       go_simp
       refine hK.out _ _ (fun h=>absurd h (by decide)) ?_
       clear hK K
       refine wpAnyY_one (i:=15) rfl (by kernel_rfl) (fun K hK=>?_)
       go_simp
       refine hK.out _ _ (fun h=>absurd h (by decide)) ?_
       clear hK K
       refine wpAnyY_one (i:=16) rfl (by kernel_rfl) (fun K hK=>?_)
       go_simp
       refine hK.out _ _ (fun h=>absurd h (by decide)) ?_
       clear hK K
       refine wpAnyY_done (by kernel_rfl) ?_ _
       go_wp2_with fail
       go_region
       go_wp2
       refine bodyPost_ret (v:=.tuple #[mnV mn0,flV (f1,f2)]) ?_ rfl ?_
       ·simp only [results,hres]
        go_simp
        exact ⟨rfl,rfl⟩
       ·show XPost _ _ _ _ _ _ _
        rw [HDX.out]
        exact ⟨HF.out,rfl,(fr_res ((((((HB.out.1.fr.setCell (.inr (by omega)) _ _).setCell (.inr (by omega)) _ _).setCell (.inr (by omega)) _ _).setCell (.inr (by omega)) _ _).setCell (.inr (by omega)) _ _).setCell (.inr (by omega)) _ _) _ _ _ _ _ _).drew⟩
    | ok x=>
      obtain ⟨c2,m2⟩:=x
      obtain ⟨k1',k2',k3',k4',-⟩:=layB_ok HT.out.a.ok hl
      have HL:Hid (∀ o,Calls Tryz.prog 59 #[Φ (some ⟨b,0,none⟩),.agg #[I J (defOpB h.kind),I J 0,I J m'.place,I J k0.place],I J h.pl] (wr.alloc o).drew fun e w'=>e = Ω (.tuple #[.agg #[.bool m2.isText,Ψ (bs m2.text),I J m2.place,I J m2.num],.agg #[I J 0,I J 0]]) /\ Hid (∃ O3 s3,CA w O O3 b s s3 c2 h ka kn kc w' /\ RW w O3 gm n mc (m :: ms) w' /\ Lc O3 w' w2.heap.size (flL (0,0)) 32 /\ Lc O3 w' (w2.heap.size + 1) (mnL m') 109)):=fun o=>by
       refine ((HTn.out o).a.lay_ok HDI.out hl).mono ?_
       rintro e w' ⟨h1,h2⟩
       obtain ⟨hf,O3,s3,hO3,hA3⟩:=h2.out
       exact ⟨h1,O3,s3,hA3,(HTn.out o).r.fr hf hO3,(HTn.out o).f.fr hf hO3,(HTn.out o).v.fr hf hO3⟩
      have HDX:Hid (D = foldB (defOpB h.kind) h.pl c2 m2 rest' /\ (m :: ms).drop (j + 1 + 1) = rest' /\ (m2.isText = false /\ MnOk c2.values.length m2) /\ ∀ k ∈ rest',k.isText = false /\ MnOk c2.values.length k):=by
       refine ⟨?_,?_,⟨k3',k2'⟩,fun k hk=>⟨(HT.out.rok k (by simp [hk])).1,(HT.out.rok k (by simp [hk])).2.more (by omega)⟩⟩
       ·rw [HT.out.acc]
        simp only [foldB,hl]
       ·rw [<- List.drop_drop,HT.out.drop]; rfl
      have HJE:Hid (∀ w4 O3 s3,CA w O O3 b s s3 c2 h ka kn kc w4 -> RW w O3 gm n mc (m :: ms) w4 -> Lc O3 w4 w2.heap.size (flL (0,0)) 32 -> Lc O3 w4 (w2.heap.size + 1) (mnL m') 109 -> FA w O b s h ka kn kc gm n mc w2.heap.size (w2.heap.size + 1) (m :: ms) D (j + 1) c2 m2 rest' O3 s3 ((((((w4.setCell ⟨w2.heap.size + 1,0,none⟩ (.bool m2.isText)).setCell ⟨w2.heap.size + 1,1,none⟩ (Ψ (bs m2.text))).setCell ⟨w2.heap.size + 1,2,none⟩ (I J m2.place)).setCell ⟨w2.heap.size + 1,3,none⟩ (I J m2.num)).setCell ⟨w2.heap.size,0,none⟩ (I J 0)).setCell ⟨w2.heap.size,1,none⟩ (I J 0))):=fun w4 O3 s3 a1 a2 a3 a4=>by
       have hgmv:gm ≠ w2.heap.size + 1:=by omega
       have hgmf:gm ≠ w2.heap.size:=by omega
       exact ⟨(((((a1.set a4.off (by omega) _ _).set a4.off (by omega) _ _).set a4.off (by omega) _ _).set a4.off (by omega) _ _).set a3.off (by omega) _ _).set a3.off (by omega) _ _,
        (((((a2.set hgmv _ _).set hgmv _ _).set hgmv _ _).set hgmv _ _).set hgmf _ _).set hgmf _ _,
        (((((a3.other (by omega) _ _).other (by omega) _ _).other (by omega) _ _).other (by omega) _ _).put 0 _).put 1 _,
        (((((a4.put 0 _).put 1 _).put 2 _).put 3 _).other (by omega) _ _).other (by omega) _ _,
        HDX.out.2.1,HDX.out.1,HDX.out.2.2.1,HDX.out.2.2.2⟩
      clear hl HDI HTn HT k1' k2' k3' k4' HDX
      obtain ⟨k1,k2,kp,k3⟩:=k0
      obtain ⟨mt,mx,mp,mn⟩:=m'
      obtain ⟨mt2,mx2,mp2,mn2⟩:=m2
      simp only at HL HSS u0 u1 u2 u3 HJE
      generalize hkd:h.kind = kd at HL HSS HOP hq ⊢
      generalize hpl:h.pl = pl at HL HSS ⊢
      generalize hop:defOpB kd = op at HL HOP ⊢
      have HKD:Hid (h.kind = kd /\ h.pl = pl /\ defOpB kd = op):=⟨hkd,hpl,hop⟩
      clear hkd hpl hop
      generalize bs k2 = bk at *
      generalize bs mx2 = bx2 at HL HJE ⊢
      go_wp2_with fail
      have HS0:Hid ((wr.alloc (Δ #[.bool k1,Ψ bk,I J kp,I J k3] 109)).drew.cell? ⟨w.heap.size,0,none⟩ = some (I J kd) /\ (wr.alloc (Δ #[.bool k1,Ψ bk,I J kp,I J k3] 109)).drew.cell? ⟨w.heap.size,4,none⟩ = some (I J pl) /\ (wr.alloc (Δ #[.bool k1,Ψ bk,I J kp,I J k3] 109)).drew.cell? ⟨w2.heap.size + 1,2,none⟩ = some (I J mp) /\ (wr.alloc (Δ #[.bool k1,Ψ bk,I J kp,I J k3] 109)).drew.cell? ⟨wr.heap.size,2,none⟩ = some (I J kp)):=HSS.out _ rfl
      refine wp_region_Y (fun j=>[11,12,13,14,15,16].contains j) (fun W=>W.cell? ⟨w.heap.size,0,none⟩ = some (I J kd) /\ W.cell? ⟨w.heap.size,4,none⟩ = some (I J pl) /\ W.cell? ⟨w2.heap.size + 1,2,none⟩ = some (I J mp) /\ W.cell? ⟨wr.heap.size,2,none⟩ = some (I J kp)) (by kernel_rfl) ?_
      refine wpAnyY_take (i:=0) (v:=Φ (some ⟨b,0,none⟩)) rfl (by kernel_rfl) (by kernel_rfl) (late_of (by kernel_rfl)) (by kernel_rfl) (by kernel_rfl) (fun _ _ _ h=>h) HS0.out (Or.inl ⟨by rfl,by (intro W hW; obtain ⟨_,_,_,_⟩:=hW; go_simp)⟩) ?_
      simp only [Act.put]
      refine wpAnyY_take (i:=1) (v:=Φ (some ⟨w.heap.size,0,none⟩)) rfl (by kernel_rfl) (by kernel_rfl) (late_of (by kernel_rfl)) (by kernel_rfl) (by kernel_rfl) (fun _ _ _ h=>h) HS0.out (Or.inl ⟨by rfl,by (intro W hW; obtain ⟨_,_,_,_⟩:=hW; go_simp)⟩) ?_
      simp only [Act.put]
      refine wpAnyY_take (i:=2) (v:=I J kd) rfl (by kernel_rfl) (by kernel_rfl) (late_of (by kernel_rfl)) (by kernel_rfl) (by kernel_rfl) (fun _ _ _ h=>h) HS0.out (Or.inl ⟨by rfl,by (intro W hW; obtain ⟨_,_,_,_⟩:=hW; go_simp)⟩) ?_
      simp only [Act.put]
      refine wpAnyY_take (i:=4) (v:=Φ (some ⟨w2.heap.size + 1,2,none⟩)) rfl (by kernel_rfl) (by kernel_rfl) (late_of (by kernel_rfl)) (by kernel_rfl) (by kernel_rfl) (fun _ _ _ h=>h) HS0.out (Or.inl ⟨by rfl,by (intro W hW; obtain ⟨_,_,_,_⟩:=hW; go_simp)⟩) ?_
      simp only [Act.put]
      refine wpAnyY_take (i:=5) (v:=I J mp) rfl (by kernel_rfl) (by kernel_rfl) (late_of (by kernel_rfl)) (by kernel_rfl) (by kernel_rfl) (fun _ _ _ h=>h) HS0.out (Or.inl ⟨by rfl,by (intro W hW; obtain ⟨_,_,_,_⟩:=hW; go_simp)⟩) ?_
      simp only [Act.put]
      refine wpAnyY_take (i:=6) (v:=Φ (some ⟨wr.heap.size,2,none⟩)) rfl (by kernel_rfl) (by kernel_rfl) (late_of (by kernel_rfl)) (by kernel_rfl) (by kernel_rfl) (fun _ _ _ h=>h) HS0.out (Or.inl ⟨by rfl,by (intro W hW; obtain ⟨_,_,_,_⟩:=hW; go_simp)⟩) ?_
      simp only [Act.put]
      refine wpAnyY_take (i:=7) (v:=I J kp) rfl (by kernel_rfl) (by kernel_rfl) (late_of (by kernel_rfl)) (by kernel_rfl) (by kernel_rfl) (fun _ _ _ h=>h) HS0.out (Or.inl ⟨by rfl,by (intro W hW; obtain ⟨_,_,_,_⟩:=hW; go_simp)⟩) ?_
      simp only [Act.put]
      refine wpAnyY_take (i:=9) (v:=Φ (some ⟨w.heap.size,4,none⟩)) rfl (by kernel_rfl) (by kernel_rfl) (late_of (by kernel_rfl)) (by kernel_rfl) (by kernel_rfl) (fun _ _ _ h=>h) HS0.out (Or.inl ⟨by rfl,by (intro W hW; obtain ⟨_,_,_,_⟩:=hW; go_simp)⟩) ?_
      simp only [Act.put]
      refine wpAnyY_take (i:=10) (v:=I J pl) rfl (by kernel_rfl) (by kernel_rfl) (late_of (by kernel_rfl)) (by kernel_rfl) (by kernel_rfl) (fun _ _ _ h=>h) HS0.out (Or.inl ⟨by rfl,by (intro W hW; obtain ⟨_,_,_,_⟩:=hW; go_simp)⟩) ?_
      simp only [Act.put]
      refine wpAnyY_one (i:=3) rfl (by kernel_rfl) (fun K hK=>?_)
      go_simp
      refine (HOP.out _).mono ?_
      rintro e w3 ⟨rfl,rfl⟩
      refine hK.out _ _ (fun _=>HS0.out) ?_
      clear hK K HOP
      refine wpAnyY_one (i:=8) rfl (by kernel_rfl) (fun K hK=>?_)
      go_simp
      refine hK.out _ _ (fun _=>HS0.out) ?_
      clear hK K
      refine wpAnyY_one (i:=11) rfl (by kernel_rfl) (fun K hK=>?_)
      go_simp
      refine (HL.out _).mono ?_
      rintro e w4 ⟨rfl,HB0⟩
      refine hK.out _ _ (fun h=>absurd h (by decide)) ?_
      obtain ⟨O3,s3,hb1,hb2,hb3,hb4⟩:=HB0.out
      have HB:Hid (CA w O O3 b s s3 c2 h ka kn kc w4 /\ RW w O3 gm n mc (m :: ms) w4 /\ Lc O3 w4 w2.heap.size (flL (0,0)) 32 /\ Lc O3 w4 (w2.heap.size + 1) (mnL ⟨mt,mx,mp,mn⟩) 109):=⟨hb1,hb2,hb3,hb4⟩
      clear hK K HL HB0 HS0 HSS u0 u1 u2 u3 hlv hlf hgm2 hb1 hb2 hb3 hb4
      refine wpAnyY_one (i:=12) rfl (by kernel_rfl) (fun K hK=>?_)
      go_simp
      refine hK.out _ _ (fun h=>absurd h (by decide)) ?_
      clear hK K
      have v0:w4.cell? ⟨w2.heap.size + 1,0,none⟩ = some (.bool mt):=HB.out.2.2.2.cell rfl
      have v1:w4.cell? ⟨w2.heap.size + 1,1,none⟩ = some (Ψ (bs mx)):=HB.out.2.2.2.cell rfl
      have v2:w4.cell? ⟨w2.heap.size + 1,2,none⟩ = some (I J mp):=HB.out.2.2.2.cell rfl
      have v3:w4.cell? ⟨w2.heap.size + 1,3,none⟩ = some (I J mn):=HB.out.2.2.2.cell rfl
      have vf:∀ i,w4.frozen? ⟨w2.heap.size + 1,i,none⟩ = false:=fun i=>HB.out.2.2.2.fz i
      have g0:w4.cell? ⟨w2.heap.size,0,none⟩ = some (I J 0):=HB.out.2.2.1.cell rfl
      have g1:w4.cell? ⟨w2.heap.size,1,none⟩ = some (I J 0):=HB.out.2.2.1.cell rfl
      have gff:∀ i,w4.frozen? ⟨w2.heap.size,i,none⟩ = false:=fun i=>HB.out.2.2.1.fz i
      refine wpAnyY_two (i:=13) (j:=14) rfl rfl (by kernel_rfl) (fun K hK=>?_) (fun K hK=>?_)
      ·go_simp
       refine hK.out _ _ (fun h=>absurd h (by decide)) ?_
       clear hK K
       refine wpAnyY_two (i:=14) (j:=15) rfl rfl (by kernel_rfl) (fun K hK=>?_) (fun K hK=>?_)
       ·go_simp
        refine hK.out _ _ (fun h=>absurd h (by decide)) ?_
        clear hK K
        refine wpAnyY_one (i:=15) rfl (by kernel_rfl) (fun K hK=>?_)
        go_simp
        refine hK.out _ _ (fun h=>absurd h (by decide)) ?_
        clear hK K
        refine wpAnyY_one (i:=16) rfl (by kernel_rfl) (fun K hK=>?_)
        go_simp
        refine hK.out _ _ (fun h=>absurd h (by decide)) ?_
        clear hK K
        refine wpAnyY_done (by kernel_rfl) ?_ _
        go_wp2_with fail
        obtain ⟨rfl,rfl,rfl⟩:=HKD.out
        go_roundg (gk - 1)
        case measure=>omega
        case rel=>exact ⟨c2,⟨mt2,mx2,mp2,mn2⟩,rest',O3,s3,j + 1,by go_num,by omega,HJE.out w4 O3 s3 HB.out.1 HB.out.2.1 HB.out.2.2.1 HB.out.2.2.2⟩
       ·go_simp
        refine hK.out _ _ (fun h=>absurd h (by decide)) ?_
        clear hK K
        refine wpAnyY_one (i:=14) rfl (by kernel_rfl) (fun K hK=>?_)
        go_simp
        refine hK.out _ _ (fun h=>absurd h (by decide)) ?_
        clear hK K
        refine wpAnyY_one (i:=16) rfl (by kernel_rfl) (fun K hK=>?_)
        go_simp
        refine hK.out _ _ (fun h=>absurd h (by decide)) ?_
        clear hK K
        refine wpAnyY_done (by kernel_rfl) ?_ _
        go_wp2_with fail
        obtain ⟨rfl,rfl,rfl⟩:=HKD.out
        go_roundg (gk - 1)
        case measure=>omega
        case rel=>exact ⟨c2,⟨mt2,mx2,mp2,mn2⟩,rest',O3,s3,j + 1,by go_num,by omega,HJE.out w4 O3 s3 HB.out.1 HB.out.2.1 HB.out.2.2.1 HB.out.2.2.2⟩
      ·go_simp
       refine hK.out _ _ (fun h=>absurd h (by decide)) ?_
       clear hK K
       refine wpAnyY_one (i:=13) rfl (by kernel_rfl) (fun K hK=>?_)
       go_simp
       refine hK.out _ _ (fun h=>absurd h (by decide)) ?_
       clear hK K
       refine wpAnyY_one (i:=15) rfl (by kernel_rfl) (fun K hK=>?_)
       go_simp
       refine hK.out _ _ (fun h=>absurd h (by decide)) ?_
       clear hK K
       refine wpAnyY_one (i:=16) rfl (by kernel_rfl) (fun K hK=>?_)
       go_simp
       refine hK.out _ _ (fun h=>absurd h (by decide)) ?_
       clear hK K
       refine wpAnyY_done (by kernel_rfl) ?_ _
       go_wp2_with fail
       obtain ⟨rfl,rfl,rfl⟩:=HKD.out
       go_roundg (gk - 1)
       case measure=>omega
       case rel=>exact ⟨c2,⟨mt2,mx2,mp2,mn2⟩,rest',O3,s3,j + 1,by go_num,by omega,HJE.out w4 O3 s3 HB.out.1 HB.out.2.1 HB.out.2.2.1 HB.out.2.2.2⟩
   ·have hre:rest = []:=by
     rw [<- HT.out.drop]
     exact List.drop_eq_nil_of_le (by rw [HN.out]; omega)
    subst hre
    have HDX:Hid (D = .ok (c',m')):=HT.out.acc
    have v0:wr.cell? ⟨w2.heap.size + 1,0,none⟩ = some (.bool m'.isText):=HT.out.v.cell rfl
    have v1:wr.cell? ⟨w2.heap.size + 1,1,none⟩ = some (Ψ (bs m'.text)):=HT.out.v.cell rfl
    have v2:wr.cell? ⟨w2.heap.size + 1,2,none⟩ = some (I J m'.place):=HT.out.v.cell rfl
    have v3:wr.cell? ⟨w2.heap.size + 1,3,none⟩ = some (I J m'.num):=HT.out.v.cell rfl
    have r0:wr.cell? ⟨w.heap.size + 1,0,none⟩ = some (.bool false):=HT.out.a.r1.cell rfl
    have r1:wr.cell? ⟨w.heap.size + 1,1,none⟩ = some (Ψ ⟨#[]⟩):=HT.out.a.r1.cell rfl
    have r2:wr.cell? ⟨w.heap.size + 1,2,none⟩ = some (I J 0):=HT.out.a.r1.cell rfl
    have r3:wr.cell? ⟨w.heap.size + 1,3,none⟩ = some (I J 0):=HT.out.a.r1.cell rfl
    have q0:wr.cell? ⟨w.heap.size + 1 + 1,0,none⟩ = some (I J 0):=HT.out.a.r2.cell rfl
    have q1:wr.cell? ⟨w.heap.size + 1 + 1,1,none⟩ = some (I J 0):=HT.out.a.r2.cell rfl
    have rf:∀ i,wr.frozen? ⟨w.heap.size + 1,i,none⟩ = false:=fun i=>HT.out.a.r1.fz i
    have qf:∀ i,wr.frozen? ⟨w.heap.size + 1 + 1,i,none⟩ = false:=fun i=>HT.out.a.r2.fz i
    obtain ⟨mt2,mx2,mp2,mn2⟩:=m'
    simp only at v0 v1 v2 v3
    obtain ⟨bx2,hbx2⟩:∃ bx2,bx2 = bs mx2:=⟨_,rfl⟩
    rw [<- hbx2] at v1
    have HBY:Hid (bx2 = bs mx2):=hbx2
    clear hbx2
    go_wp2
    refine bodyPost_ret (v:=.tuple #[mnV ⟨mt2,mx2,mp2,mn2⟩,flV (0,0)]) ?_ rfl ?_
    ·simp only [results,hres]
     unfold mnV flV
     simp only
     rw [<- HBY.out]
     go_simp
    ·show XPost _ _ _ _ _ _ _
     rw [HDX.out]
     have hd:=HT.out.a.done (.bool mt2) (.string bx2) (I J mp2) (I J mn2) (I J 0) (I J 0)
     exact ⟨rfl,hd.1,O',s',HT.out.a.sv,HT.out.a.new,hd.2⟩
end Go.Proofs.YtlaodgdlkkmmeaaGreat
