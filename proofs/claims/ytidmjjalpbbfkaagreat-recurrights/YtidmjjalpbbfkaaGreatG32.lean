/-
  An expression of others: where compound stands. An expression is asked: expr. An expression that must be of a kind: asked; what is asked of a number, of a text.
-/
import Derived.Deep.LoopGhost
import Derived.BigRegion
import Derived.Test.YtidmjjalpbbfkaaGreatCkQ
import Derived.Test.YtidmjjalpbbfkaaGreatG18
import Derived.Test.YtidmjjalpbbfkaaGreatG15
import Derived.Test.YtidmjjalpbbfkaaGreatG00
namespace Go.Proofs.YtidmjjalpbbfkaaGreat
open Go.RowKit Go.Deep Go.Maps
theorem foAt_short {o:Bool} {S:Nat -> Prop} {w:World}:∀ {F:Fo} {ao:Option Addr} {n:Nat},FoAt o S w F ao n -> shortF F
 | .nil,_,_,_=>trivial
 | .node _ _ h k r,_,_,hh=>by
   obtain ⟨g,off,ka,kn,kc,m,_,_,_,_,hok,_,_,h1,h2⟩:=hh
   exact ⟨hok.text,foAt_short h1,foAt_short h2⟩
theorem calls_err {O:Nat -> Prop} {b:Nat} {s:Sl} {w:World} {K:Nat} {args:Array Value} {r:Er (Ck × Mn)} {f:Int × Int} (h:Calls Tryz.prog K args w (XPost O b s w r)) (hr:r = .error f) :
 Calls Tryz.prog K args w fun e w'=>f.1 ≠ 0 /\ e = .returned (.tuple #[.agg #[.bool false,.string ⟨#[]⟩,.int .i64 0,.int .i64 0],.agg #[.int .i64 f.1,.int .i64 f.2]]) /\ Fr O w w':=by
 subst hr; exact h
theorem calls_okm {O:Nat -> Prop} {b:Nat} {s:Sl} {w:World} {K:Nat} {args:Array Value} {r:Er (Ck × Mn)} {c':Ck} {m:Mn} (h:Calls Tryz.prog K args w (XPost O b s w r)) (hr:r = .ok (c',m)) :
 Calls Tryz.prog K args w fun e w'=>e = .returned (.tuple #[.agg #[.bool m.isText,.string (bs m.text),.int .i64 m.place,.int .i64 m.num],.agg #[.int .i64 0,.int .i64 0]]) /\ Fr O w w' /\ ∃ O' s',s'.sv = s.sv /\ (∀ g,O' g -> O g \/ w.heap.size <= g) /\ CkAt O' b s' c' w':=by
 subst hr; exact h
/-- A block of the call's own, beside the checker's. -/
structure Lc (O:Nat -> Prop) (W:World) (g:Nat) (cs:List Value) (ty:TypeId):Prop where
 heap:W.heap[g]? = some (.cells cs.toArray ty (0,0))
 off:¬ O g
theorem Lc.next {O:Nat -> Prop} {W W':World} {g:Nat} {cs:List Value} {ty:TypeId} (h:Lc O W g cs ty) (hb:Below W.heap.size W W'):Lc O W' g cs ty:=⟨by rw [hb.block _ (lt_block h.heap)]; exact h.heap,h.off⟩
theorem Lc.lt {O:Nat -> Prop} {W:World} {g:Nat} {cs:List Value} {ty:TypeId} (h:Lc O W g cs ty):g < W.heap.size:=lt_block h.heap
theorem Lc.fr {O O':Nat -> Prop} {W W':World} {g:Nat} {cs:List Value} {ty:TypeId} (h:Lc O W g cs ty) (hf:Fr O W W') (hO:∀ g,O' g -> O g \/ W.heap.size <= g):Lc O' W' g cs ty:=
 ⟨hf.heap h.heap h.off,fun ho=>by rcases hO g ho with h1 | h1; exact h.off h1; have:=h.lt; omega⟩
theorem Lc.cell {O:Nat -> Prop} {W:World} {g:Nat} {cs:List Value} {ty:TypeId} (h:Lc O W g cs ty) {i:Nat} {u:Value} (hi:cs[i]? = some u):W.cell? ⟨g,i,none⟩ = some u:=blk h.heap (by simpa using hi)
theorem Lc.fz {O:Nat -> Prop} {W:World} {g:Nat} {cs:List Value} {ty:TypeId} (h:Lc O W g cs ty) (i:Nat):W.frozen? ⟨g,i,none⟩ = false:=blkf i h.heap
theorem Lc.other {O:Nat -> Prop} {W:World} {g k:Nat} {cs:List Value} {ty:TypeId} (h:Lc O W g cs ty) (hk:g ≠ k) (i:Nat) (u:Value):Lc O (W.setCell ⟨k,i,none⟩ u) g cs ty:=⟨heap_other h.heap hk,h.off⟩
theorem Lc.put {O:Nat -> Prop} {W:World} {g:Nat} {cs:List Value} {ty:TypeId} (h:Lc O W g cs ty) (i:Nat) (u:Value):Lc O (W.setCell ⟨g,i,none⟩ u) g (cs.set i u) ty:=⟨heap_put h.heap (by simp),h.off⟩
theorem Lc.new {O:Nat -> Prop} {W:World} {cs:List Value} {ty:TypeId} (h:¬ O W.heap.size):Lc O (W.alloc (.cells cs.toArray ty)) W.heap.size cs ty:=⟨heap_alloc_new W _,h⟩
theorem ck_set {O:Nat -> Prop} {b:Nat} {s:Sl} {c:Ck} {W:World} (h:CkAt O b s c W) {g:Nat} (hg:¬ O g) (i:Nat) (u:Value):CkAt O b s c (W.setCell ⟨g,i,none⟩ u):=
 h.keep fun _ _ ho=>heap_other rfl (fun e=>hg (e ▸ ho))
def mnL (m:Mn):List Value:=[.bool m.isText,.string (bs m.text),.int .i64 m.place,.int .i64 m.num]
def flL (f:Int × Int):List Value:=[.int .i64 f.1,.int .i64 f.2]
def exL (h:Hd) (ka:Option Addr) (kn kc:Nat):List Value:=[.int .i64 h.kind,.int .i64 h.num,.string (bs h.text),.slice ka kn kc,.int .i64 h.pl]
/-- Where a call stands that has an expression in its box, and two results. -/
structure CA (w:World) (O0 O:Nat -> Prop) (b:Nat) (s0 s:Sl) (c:Ck) (h:Hd) (ka:Option Addr) (kn kc:Nat) (W:World):Prop where
 ck:CkAt O b s c W
 ok:CkOk c
 sv:s.sv = s0.sv
 fr:Fr O0 w W
 box:Lc O W w.heap.size (exL h ka kn kc) 125
 r1:Lc O W (w.heap.size + 1) (mnL mn0) 135
 r2:Lc O W (w.heap.size + 1 + 1) (flL (0,0)) 42
 new:∀ g,O g -> O0 g \/ w.heap.size <= g
section
variable {w W W':World} {O0 O O':Nat -> Prop} {b:Nat} {s0 s s':Sl} {c c':Ck} {h:Hd} {ka:Option Addr} {kn kc:Nat}
theorem CA.next (a:CA w O0 O b s0 s c h ka kn kc W) (hb:Below W.heap.size W W'):CA w O0 O b s0 s c h ka kn kc W':=
 ⟨a.ck.below hb,a.ok,a.sv,a.fr.then_below hb,a.box.next hb,a.r1.next hb,a.r2.next hb,a.new⟩
theorem CA.go (a:CA w O0 O b s0 s c h ka kn kc W) (hf:Fr O W W') (hO:∀ g,O' g -> O g \/ W.heap.size <= g) (hs:s'.sv = s.sv) (hck:CkAt O' b s' c' W') (hok:CkOk c'):CA w O0 O' b s0 s' c' h ka kn kc W':=by
 have hsz:=a.fr.size
 exact ⟨hck,hok,hs.trans a.sv,a.fr.trans hf a.new,a.box.fr hf hO,a.r1.fr hf hO,a.r2.fr hf hO,fun g hg=>by rcases hO g hg with h1 | h1; exact a.new g h1; exact .inr (by omega)⟩
theorem CA.start (hck:CkAt O0 b s0 c w) (hok:CkOk c) (h:Hd) (ka:Option Addr) (kn kc:Nat):CA w O0 (fun g=>O0 g /\ g < w.heap.size) b s0 s0 c h ka kn kc (((w.alloc (.cells #[.int .i64 h.kind,.int .i64 h.num,.string (bs h.text),.slice ka kn kc,.int .i64 h.pl] 125)).alloc (.cells #[.bool false,.string ⟨#[]⟩,.int .i64 0,.int .i64 0] 135)).alloc (.cells #[.int .i64 0,.int .i64 0] 42)):=by
 obtain ⟨h1,h2,h3⟩:=heap_new3 w (.cells #[.int .i64 h.kind,.int .i64 h.num,.string (bs h.text),.slice ka kn kc,.int .i64 h.pl] 125) (.cells #[.bool false,.string ⟨#[]⟩,.int .i64 0,.int .i64 0] 135) (.cells #[.int .i64 0,.int .i64 0] 42)
 exact ⟨((hck.tight.alloc _).alloc _).alloc _,hok,rfl,(((Fr.refl O0 w).alloc _).alloc _).alloc _,⟨h1,fun hh=>by have:=hh.2; omega⟩,⟨h2,fun hh=>by have:=hh.2; omega⟩,⟨h3,fun hh=>by have:=hh.2; omega⟩,fun g hg=>.inl hg.1⟩
/-- The end of such a call: the two results are stored. -/
theorem CA.done (a:CA w O0 O b s0 s c h ka kn kc W) (x1 x2 x3 x4 x5 x6:Value):Fr O0 w ((((((W.setCell ⟨w.heap.size + 1,0,none⟩ x1).setCell ⟨w.heap.size + 1,1,none⟩ x2).setCell ⟨w.heap.size + 1,2,none⟩ x3).setCell ⟨w.heap.size + 1,3,none⟩ x4).setCell ⟨w.heap.size + 1 + 1,0,none⟩ x5).setCell ⟨w.heap.size + 1 + 1,1,none⟩ x6) /\
 CkAt O b s c ((((((W.setCell ⟨w.heap.size + 1,0,none⟩ x1).setCell ⟨w.heap.size + 1,1,none⟩ x2).setCell ⟨w.heap.size + 1,2,none⟩ x3).setCell ⟨w.heap.size + 1,3,none⟩ x4).setCell ⟨w.heap.size + 1 + 1,0,none⟩ x5).setCell ⟨w.heap.size + 1 + 1,1,none⟩ x6):=
 ⟨fr_res a.fr _ _ _ _ _ _,ck_set (ck_set (ck_set (ck_set (ck_set (ck_set a.ck a.r1.off _ _) a.r1.off _ _) a.r1.off _ _) a.r1.off _ _) a.r2.off _ _) a.r2.off _ _⟩
end
section
variable {w W:World} {O0 O:Nat -> Prop} {b:Nat} {s0 s:Sl} {c:Ck} {h:Hd} {ka:Option Addr} {kn kc:Nat}
/-- What is left of where a call stands, behind a fault. -/
structure CE (w:World) (O0 O:Nat -> Prop) (W:World):Prop where
 fr:Fr O0 w W
 r1:Lc O W (w.heap.size + 1) (mnL mn0) 135
 r2:Lc O W (w.heap.size + 1 + 1) (flL (0,0)) 42
theorem CA.lay_err (a:CA w O0 O b s0 s c h ka kn kc W) {d:Df} (hd:DfIn d c.values.length) {p:Int} {f:Int × Int} (hl:layB c d p = .error f) :
 Calls Tryz.prog 77 #[.pointer (some ⟨b,0,none⟩),.agg #[.int .i64 d.op,.int .i64 d.num,.int .i64 d.a,.int .i64 d.b],.int .i64 p] W fun e w'=>f.1 ≠ 0 /\ e = .returned (.tuple #[.agg #[.bool false,.string ⟨#[]⟩,.int .i64 0,.int .i64 0],.agg #[.int .i64 f.1,.int .i64 f.2]]) /\ Hid (CE w O0 O w' /\ Fr O W w'):=by
 refine (calls_err (lay_calls W a.ck a.ok d hd p) hl).mono ?_
 rintro e w' ⟨h1,h2,h3⟩
 exact ⟨h1,h2,⟨a.fr.trans h3 a.new,a.r1.fr h3 (fun _ h=>.inl h),a.r2.fr h3 (fun _ h=>.inl h)⟩,h3⟩
theorem CA.lay_ok (a:CA w O0 O b s0 s c h ka kn kc W) {d:Df} (hd:DfIn d c.values.length) {p:Int} {c':Ck} {m:Mn} (hl:layB c d p = .ok (c',m)) :
 Calls Tryz.prog 77 #[.pointer (some ⟨b,0,none⟩),.agg #[.int .i64 d.op,.int .i64 d.num,.int .i64 d.a,.int .i64 d.b],.int .i64 p] W fun e w'=>e = .returned (.tuple #[.agg #[.bool m.isText,.string (bs m.text),.int .i64 m.place,.int .i64 m.num],.agg #[.int .i64 0,.int .i64 0]]) /\ Hid (Fr O W w' /\ ∃ O' s',(∀ g,O' g -> O g \/ W.heap.size <= g) /\ CA w O0 O' b s0 s' c' h ka kn kc w'):=by
 refine (calls_okm (lay_calls W a.ck a.ok d hd p) hl).mono ?_
 rintro e w' ⟨h1,h2,O',s',h3,h4,h5⟩
 exact ⟨h1,h2,O',s',h4,a.go h2 h4 h3 h5 (layB_ok a.ok hl).1⟩
end
end Go.Proofs.YtidmjjalpbbfkaaGreat
namespace Go.Proofs.YtidmjjalpbbfkaaGreat
open Go.RowKit Go.Deep Go.Maps
set_option maxRecDepth 20000
set_option maxHeartbeats 4000000
theorem ex_num {O O1:Nat -> Prop} {b:Nat} {s:Sl} {c:Ck} (h:Hd) (ka:Option Addr) (kn kc:Nat) (w:World) (hk:h.kind = 1) (hnum:InR h.num) (hA:CA w O O1 b s s c h ka kn kc (((w.alloc (.cells #[.int .i64 h.kind,.int .i64 h.num,.string (bs h.text),.slice ka kn kc,.int .i64 h.pl] 125)).alloc (.cells #[.bool false,.string ⟨#[]⟩,.int .i64 0,.int .i64 0] 135)).alloc (.cells #[.int .i64 0,.int .i64 0] 42))) :
 Calls Tryz.prog 102 #[.pointer (some ⟨b,0,none⟩),exV h ka kn kc] w (XPost O b s w (layB c ⟨1,h.num,0,0⟩ h.pl)):=by
 have hres:Tryz.f102.results = #[.cell 4 135,.cell 5 42]:=by kernel_rfl
 have HA:Hid (CA w O O1 b s s c h ka kn kc (((w.alloc (.cells #[.int .i64 h.kind,.int .i64 h.num,.string (bs h.text),.slice ka kn kc,.int .i64 h.pl] 125)).alloc (.cells #[.bool false,.string ⟨#[]⟩,.int .i64 0,.int .i64 0] 135)).alloc (.cells #[.int .i64 0,.int .i64 0] 42))):=hA
 have hq:(h.kind == 1) = true:=by rw [beq_iff_eq]; exact hk
 have HDI:Hid (DfIn ⟨1,h.num,0,0⟩ c.values.length):=⟨hnum,fun h1 _=>by simp at h1,fun h1 _=>by simp at h1⟩
 clear hA hk hnum
 unfold exV
 go_enter Tryz.func102,Tryz.ntmps102
 go_upto_region 1 with (fail)
 generalize (((w.alloc (.cells #[.int .i64 h.kind,.int .i64 h.num,.string (bs h.text),.slice ka kn kc,.int .i64 h.pl] 125)).alloc (.cells #[.bool false,.string ⟨#[]⟩,.int .i64 0,.int .i64 0] 135)).alloc (.cells #[.int .i64 0,.int .i64 0] 42)) = w1 at *
 have x0:w1.cell? ⟨w.heap.size,0,none⟩ = some (.int .i64 h.kind):=HA.out.box.cell rfl
 have x1:w1.cell? ⟨w.heap.size,1,none⟩ = some (.int .i64 h.num):=HA.out.box.cell rfl
 have x4:w1.cell? ⟨w.heap.size,4,none⟩ = some (.int .i64 h.pl):=HA.out.box.cell rfl
 cases hl:layB c ⟨1,h.num,0,0⟩ h.pl with
 | error f=>
   have HL:Hid (Calls Tryz.prog 77 #[.pointer (some ⟨b,0,none⟩),.agg #[.int .i64 1,.int .i64 h.num,.int .i64 0,.int .i64 0],.int .i64 h.pl] w1 fun e w'=>f.1 ≠ 0 /\ e = .returned (.tuple #[.agg #[.bool false,.string ⟨#[]⟩,.int .i64 0,.int .i64 0],.agg #[.int .i64 f.1,.int .i64 f.2]]) /\ Hid (CE w O O1 w' /\ Fr O1 w1 w')):=HA.out.lay_err HDI.out hl
   have HX:Hid (layB c ⟨1,h.num,0,0⟩ h.pl = .error f):=hl
   clear hl HDI HA
   obtain ⟨f1,f2⟩:=f
   simp only at HL
   generalize h.kind = kd at *
   go_wp2_with fail
   refine HL.out.mono ?_
   rintro e w3 ⟨hf,rfl,HB⟩
   have HF:Hid (f1 ≠ 0):=hf
   clear hf HL x0 x1 x4
   have r0:w3.cell? ⟨w.heap.size + 1,0,none⟩ = some (.bool false):=HB.out.1.r1.cell rfl
   have r1:w3.cell? ⟨w.heap.size + 1,1,none⟩ = some (.string ⟨#[]⟩):=HB.out.1.r1.cell rfl
   have r2:w3.cell? ⟨w.heap.size + 1,2,none⟩ = some (.int .i64 0):=HB.out.1.r1.cell rfl
   have r3:w3.cell? ⟨w.heap.size + 1,3,none⟩ = some (.int .i64 0):=HB.out.1.r1.cell rfl
   have q0:w3.cell? ⟨w.heap.size + 1 + 1,0,none⟩ = some (.int .i64 0):=HB.out.1.r2.cell rfl
   have q1:w3.cell? ⟨w.heap.size + 1 + 1,1,none⟩ = some (.int .i64 0):=HB.out.1.r2.cell rfl
   have rf:∀ i,w3.frozen? ⟨w.heap.size + 1,i,none⟩ = false:=fun i=>HB.out.1.r1.fz i
   have qf:∀ i,w3.frozen? ⟨w.heap.size + 1 + 1,i,none⟩ = false:=fun i=>HB.out.1.r2.fz i
   go_wp2
   refine bodyPost_ret (v:=.tuple #[mnV mn0,flV (f1,f2)]) ?_ rfl ?_
   ·simp only [results,hres]
    go_simp
    exact ⟨rfl,rfl⟩
   ·show XPost _ _ _ _ _ _ _
    rw [HX.out]
    exact ⟨HF.out,rfl,fr_res HB.out.1.fr _ _ _ _ _ _⟩
 | ok x=>
   obtain ⟨c2,m2⟩:=x
   have HL:Hid (Calls Tryz.prog 77 #[.pointer (some ⟨b,0,none⟩),.agg #[.int .i64 1,.int .i64 h.num,.int .i64 0,.int .i64 0],.int .i64 h.pl] w1 fun e w'=>e = .returned (.tuple #[.agg #[.bool m2.isText,.string (bs m2.text),.int .i64 m2.place,.int .i64 m2.num],.agg #[.int .i64 0,.int .i64 0]]) /\ Hid (Fr O1 w1 w' /\ ∃ O' s',(∀ g,O' g -> O1 g \/ w1.heap.size <= g) /\ CA w O O' b s s' c2 h ka kn kc w')):=HA.out.lay_ok HDI.out hl
   have HX:Hid (layB c ⟨1,h.num,0,0⟩ h.pl = .ok (c2,m2)):=hl
   clear hl HDI HA
   obtain ⟨mt2,mx2,mp2,mn2⟩:=m2
   simp only at HL
   obtain ⟨bx2,hbx2⟩:∃ bx2,bx2 = bs mx2:=⟨_,rfl⟩
   rw [<- hbx2] at HL
   have HBY:Hid (bx2 = bs mx2):=hbx2
   clear hbx2
   go_wp2_with fail
   refine HL.out.mono ?_
   rintro e w3 ⟨rfl,HB0⟩
   obtain ⟨O3,s3,-,hB3⟩:=HB0.out.2
   have HB:Hid (CA w O O3 b s s3 c2 h ka kn kc w3):=hB3
   clear HL x0 x1 x4 HB0 hB3
   have r0:w3.cell? ⟨w.heap.size + 1,0,none⟩ = some (.bool false):=HB.out.r1.cell rfl
   have r1:w3.cell? ⟨w.heap.size + 1,1,none⟩ = some (.string ⟨#[]⟩):=HB.out.r1.cell rfl
   have r2:w3.cell? ⟨w.heap.size + 1,2,none⟩ = some (.int .i64 0):=HB.out.r1.cell rfl
   have r3:w3.cell? ⟨w.heap.size + 1,3,none⟩ = some (.int .i64 0):=HB.out.r1.cell rfl
   have q0:w3.cell? ⟨w.heap.size + 1 + 1,0,none⟩ = some (.int .i64 0):=HB.out.r2.cell rfl
   have q1:w3.cell? ⟨w.heap.size + 1 + 1,1,none⟩ = some (.int .i64 0):=HB.out.r2.cell rfl
   have rf:∀ i,w3.frozen? ⟨w.heap.size + 1,i,none⟩ = false:=fun i=>HB.out.r1.fz i
   have qf:∀ i,w3.frozen? ⟨w.heap.size + 1 + 1,i,none⟩ = false:=fun i=>HB.out.r2.fz i
   go_wp2
   refine bodyPost_ret (v:=.tuple #[mnV ⟨mt2,mx2,mp2,mn2⟩,flV (0,0)]) ?_ rfl ?_
   ·simp only [results,hres]
    unfold mnV flV
    simp only
    rw [<- HBY.out]
    go_simp
   ·show XPost _ _ _ _ _ _ _
    rw [HX.out]
    exact ⟨rfl,(HB.out.done _ _ _ _ _ _).1,O3,s3,HB.out.sv,HB.out.new,(HB.out.done _ _ _ _ _ _).2⟩
theorem ex_text {O O1:Nat -> Prop} {b:Nat} {s:Sl} {c:Ck} (h:Hd) (ka:Option Addr) (kn kc:Nat) (w:World) (hk:h.kind = 3) (hA:CA w O O1 b s s c h ka kn kc (((w.alloc (.cells #[.int .i64 h.kind,.int .i64 h.num,.string (bs h.text),.slice ka kn kc,.int .i64 h.pl] 125)).alloc (.cells #[.bool false,.string ⟨#[]⟩,.int .i64 0,.int .i64 0] 135)).alloc (.cells #[.int .i64 0,.int .i64 0] 42))) :
 Calls Tryz.prog 102 #[.pointer (some ⟨b,0,none⟩),exV h ka kn kc] w (XPost O b s w (.ok (c,⟨true,h.text,0,0⟩))):=by
 have hres:Tryz.f102.results = #[.cell 4 135,.cell 5 42]:=by kernel_rfl
 have HA:Hid (CA w O O1 b s s c h ka kn kc (((w.alloc (.cells #[.int .i64 h.kind,.int .i64 h.num,.string (bs h.text),.slice ka kn kc,.int .i64 h.pl] 125)).alloc (.cells #[.bool false,.string ⟨#[]⟩,.int .i64 0,.int .i64 0] 135)).alloc (.cells #[.int .i64 0,.int .i64 0] 42))):=hA
 have hq:(h.kind == 3) = true:=by rw [beq_iff_eq]; exact hk
 have hq1:(h.kind == 1) = false:=by rw [beq_eq_false_iff_ne]; omega
 clear hA hk
 unfold exV
 go_enter Tryz.func102,Tryz.ntmps102
 go_upto_region 1 with (fail)
 generalize (((w.alloc (.cells #[.int .i64 h.kind,.int .i64 h.num,.string (bs h.text),.slice ka kn kc,.int .i64 h.pl] 125)).alloc (.cells #[.bool false,.string ⟨#[]⟩,.int .i64 0,.int .i64 0] 135)).alloc (.cells #[.int .i64 0,.int .i64 0] 42)) = w1 at *
 have x0:w1.cell? ⟨w.heap.size,0,none⟩ = some (.int .i64 h.kind):=HA.out.box.cell rfl
 have x2:w1.cell? ⟨w.heap.size,2,none⟩ = some (.string (bs h.text)):=HA.out.box.cell rfl
 have r0:w1.cell? ⟨w.heap.size + 1,0,none⟩ = some (.bool false):=HA.out.r1.cell rfl
 have r1:w1.cell? ⟨w.heap.size + 1,1,none⟩ = some (.string ⟨#[]⟩):=HA.out.r1.cell rfl
 have r2:w1.cell? ⟨w.heap.size + 1,2,none⟩ = some (.int .i64 0):=HA.out.r1.cell rfl
 have r3:w1.cell? ⟨w.heap.size + 1,3,none⟩ = some (.int .i64 0):=HA.out.r1.cell rfl
 have q0:w1.cell? ⟨w.heap.size + 1 + 1,0,none⟩ = some (.int .i64 0):=HA.out.r2.cell rfl
 have q1:w1.cell? ⟨w.heap.size + 1 + 1,1,none⟩ = some (.int .i64 0):=HA.out.r2.cell rfl
 have rf:∀ i,w1.frozen? ⟨w.heap.size + 1,i,none⟩ = false:=fun i=>HA.out.r1.fz i
 have qf:∀ i,w1.frozen? ⟨w.heap.size + 1 + 1,i,none⟩ = false:=fun i=>HA.out.r2.fz i
 generalize h.kind = kd at *
 obtain ⟨bx2,hbx2⟩:∃ bx2,bx2 = bs h.text:=⟨_,rfl⟩
 rw [<- hbx2] at x2
 have HBY:Hid (bx2 = bs h.text):=hbx2
 clear hbx2
 go_wp2
 refine bodyPost_ret (v:=.tuple #[mnV ⟨true,h.text,0,0⟩,flV (0,0)]) ?_ rfl ?_
 ·simp only [results,hres]
  unfold mnV flV
  simp only
  rw [<- HBY.out]
  go_simp
 ·exact ⟨rfl,(HA.out.done _ _ _ _ _ _).1,O1,s,rfl,HA.out.new,(HA.out.done _ _ _ _ _ _).2⟩
theorem exprC_calls {B:Nat} {O:Nat -> Prop} {b:Nat} {s:Sl} {c:Ck} (h:Hd) (k:Fo) (ka:Option Addr) (kn kc:Nat) (w:World) (hck:CkAt O b s c w) (hok:CkOk c) (_:∀ g,O g -> B <= g) (_:B <= w.heap.size)
 (hE:ExAt false (fun g=>g < B) w (h,k) ka kn) (hr:okE h k):Calls Tryz.prog 102 #[.pointer (some ⟨b,0,none⟩),exV h ka kn kc] w (XPost O b s w (askE c (h,k))):=by
 have hA:=CA.start hck hok h ka kn kc
 show Calls _ _ _ _ (XPost O b s w (exprC c h k (askF k c)))
 unfold exprC
 rcases hr.2.2 with h1 | h3
 ·rw [if_pos h1]; exact ex_num h ka kn kc w h1 hE.hd.num hA
 ·rw [if_neg (by omega),if_pos h3]; exact ex_text h ka kn kc w h3 hA
end Go.Proofs.YtidmjjalpbbfkaaGreat
namespace Go.Proofs.YtidmjjalpbbfkaaGreat
open Go.RowKit Go.Deep Go.Maps
set_option maxRecDepth 20000
set_option maxHeartbeats 4000000
theorem numQ_calls (least:Int) (m:Mn) (g:Nat) (w:World) (hg:w.cell? ⟨g,0,none⟩ = some (.int .i64 least)) :
 Calls Tryz.prog 130 #[mnV m,.pointer (some ⟨g,0,none⟩)] w fun e w'=>e = .returned (.int .i64 (numFrom least m)) /\ Below w.heap.size w w':=by
 have hlt:=World.block_lt_of_cell? w _ hg
 unfold mnV numFrom
 obtain ⟨mt,mx,mp,mn⟩:=m
 simp only
 have HB:Hid (∀ o,Below w.heap.size w (w.alloc o)):=fun o=>(Below.refl _ _).alloc (Nat.le_refl _) o
 have hlt':g < w.heap.size:=hlt
 clear hlt
 generalize bs mx = bx at *
 cases mt with
 | true=>
   go_enter Tryz.func130,Tryz.ntmps130
   go_wp2
   go_ret
   exact ⟨rfl,HB.out _⟩
 | false=>
   by_cases hl:mn < least
   ·have hd:decide (mn < least) = true:=by simpa using hl
    rw [if_neg (by simp),if_pos hl]
    clear hl
    go_enter Tryz.func130,Tryz.ntmps130
    go_wp2
    go_ret
    exact ⟨rfl,HB.out _⟩
   ·have hd:decide (mn < least) = false:=by simpa using hl
    rw [if_neg (by simp),if_neg hl]
    clear hl
    go_enter Tryz.func130,Tryz.ntmps130
    go_wp2
    go_ret
    exact ⟨rfl,HB.out _⟩
theorem numberFrom_calls (least:Int) (w:World):Calls Tryz.prog 109 #[.int .i64 least] w fun e w'=>e = .returned (.func (.func 130) #[] #[.pointer (some ⟨w.heap.size,0,none⟩)]) /\ w' = w.alloc (.cells #[.int .i64 least] 3):=by
 go_enter Tryz.func109,Tryz.ntmps109
 go_wp2
 go_ret
 exact ⟨rfl,rfl⟩
theorem textOf_calls (F:Nat) (first caps:Array Value) (w:World):Calls Tryz.prog 104 #[.func (.func F) first caps] w fun e w'=>e = .returned (.func (.func 127) #[] #[.pointer (some ⟨w.heap.size,0,none⟩)]) /\ w' = w.alloc (.cells #[.func (.func F) first caps] 57):=by
 go_enter Tryz.func104,Tryz.ntmps104
 go_wp2
 go_ret
 exact ⟨rfl,rfl⟩
theorem asked_126 {B:Nat} {O:Nat -> Prop} {b:Nat} {s:Sl} {c:Ck} (h:Hd) (k:Fo) (ka:Option Addr) (kn kc g:Nat) (q:Mn -> Int) (G:(Nat -> Prop) -> World -> Prop) (w:World) (hck:CkAt O b s c w) (hok:CkOk c) (hlow:∀ g,O g -> B <= g) (hB:B <= w.heap.size)
 (hE:ExAt false (fun g=>g < B) w (h,k) ka kn) (hr:okE h k) (hG:G O w) (hGf:∀ O O' W W',G O W -> Fr O W W' -> (∀ g,O' g -> O g \/ W.heap.size <= g) -> G O' W')
 (hQ:∀ O' s' c' m W,CkAt O' b s' c' W -> CkOk c' -> Sm c c' -> MnOk c'.values.length m -> G O' W -> Calls Tryz.prog 130 #[mnV m,.pointer (some ⟨g,0,none⟩)] W fun e w'=>e = .returned (.int .i64 (q m)) /\ Below W.heap.size W w') :
 Calls Tryz.prog 103 #[.pointer (some ⟨b,0,none⟩),exV h ka kn kc,.func (.func 130) #[] #[.pointer (some ⟨g,0,none⟩)]] w (XPost O b s w (askQ q c (h,k))):=by
 have hres:Tryz.f103.results = #[.cell 6 135,.cell 7 42]:=by kernel_rfl
 have hA:=CA.start hck hok h ka kn kc
 have hC:∀ W,CA w O (fun g=>O g /\ g < w.heap.size) b s s c h ka kn kc W -> Calls Tryz.prog 102 #[.pointer (some ⟨b,0,none⟩),exV h ka kn kc] W (XPost (fun g=>O g /\ g < w.heap.size) b s W (askE c (h,k))):=fun W hW=>
  exprC_calls h k ka kn kc W hW.ck hW.ok (fun g hg=>hlow g hg.1) (Nat.le_trans hB hW.fr.size) ⟨hE.hd,hE.few,foAt_keep (fun g hg hgB=>hW.fr.block g hg (fun ho=>by have:=hlow g ho; omega)) hE.kids⟩ hr
 have hG1:∀ W,CA w O (fun g=>O g /\ g < w.heap.size) b s s c h ka kn kc W -> G (fun g=>O g /\ g < w.heap.size) W:=fun W hW=>hGf _ _ w W hG hW.fr (fun g hg=>.inl hg.1)
 have hokE:∀ c' m,askE c (h,k) = .ok (c',m) -> CkOk c' /\ MnOk c'.values.length m /\ Sm c c':=fun c' m he=>askE_ok hok hr hE.hd.text (foAt_short hE.kids) he
 generalize hO1:(fun g=>O g /\ g < w.heap.size) = O1 at hA hC hG1
 clear hO1 hck hok hlow hB hE hr hG
 unfold exV at hC ⊢
 have HA:Hid (CA w O O1 b s s c h ka kn kc (((w.alloc (.cells #[.int .i64 h.kind,.int .i64 h.num,.string (bs h.text),.slice ka kn kc,.int .i64 h.pl] 125)).alloc (.cells #[.bool false,.string ⟨#[]⟩,.int .i64 0,.int .i64 0] 135)).alloc (.cells #[.int .i64 0,.int .i64 0] 42))):=hA
 clear hA
 go_enter Tryz.func103,Tryz.ntmps103
 go_upto_region 1 with (fail)
 generalize (((w.alloc (.cells #[.int .i64 h.kind,.int .i64 h.num,.string (bs h.text),.slice ka kn kc,.int .i64 h.pl] 125)).alloc (.cells #[.bool false,.string ⟨#[]⟩,.int .i64 0,.int .i64 0] 135)).alloc (.cells #[.int .i64 0,.int .i64 0] 42)) = w1 at *
 have x0:w1.cell? ⟨w.heap.size,0,none⟩ = some (.int .i64 h.kind):=HA.out.box.cell rfl
 have x1:w1.cell? ⟨w.heap.size,1,none⟩ = some (.int .i64 h.num):=HA.out.box.cell rfl
 have x2:w1.cell? ⟨w.heap.size,2,none⟩ = some (.string (bs h.text)):=HA.out.box.cell rfl
 have x3:w1.cell? ⟨w.heap.size,3,none⟩ = some (.slice ka kn kc):=HA.out.box.cell rfl
 have x4:w1.cell? ⟨w.heap.size,4,none⟩ = some (.int .i64 h.pl):=HA.out.box.cell rfl
 have HC0:=hC w1 HA.out
 have HG1:Hid (G O1 w1):=hG1 w1 HA.out
 have HGF:Hid (∀ O O' W W',G O W -> Fr O W W' -> (∀ g,O' g -> O g \/ W.heap.size <= g) -> G O' W'):=hGf
 have HQ:Hid (∀ O' s' c' m W,CkAt O' b s' c' W -> CkOk c' -> Sm c c' -> MnOk c'.values.length m -> G O' W -> Calls Tryz.prog 130 #[mnV m,.pointer (some ⟨g,0,none⟩)] W fun e w'=>e = .returned (.int .i64 (q m)) /\ Below W.heap.size W w'):=hQ
 have HOK:Hid (∀ c' m,askE c (h,k) = .ok (c',m) -> CkOk c' /\ MnOk c'.values.length m /\ Sm c c'):=hokE
 clear hC hG1 hGf hQ hokE
 cases hl:askE c (h,k) with
 | error f=>
   have HL:Hid (Calls Tryz.prog 102 #[.pointer (some ⟨b,0,none⟩),.agg #[.int .i64 h.kind,.int .i64 h.num,.string (bs h.text),.slice ka kn kc,.int .i64 h.pl]] w1 fun e w'=>f.1 ≠ 0 /\ e = .returned (.tuple #[.agg #[.bool false,.string ⟨#[]⟩,.int .i64 0,.int .i64 0],.agg #[.int .i64 f.1,.int .i64 f.2]]) /\ Hid (CE w O O1 w')):=by
    refine (calls_err HC0 hl).mono ?_
    rintro e w' ⟨h1,h2,h3⟩
    exact ⟨h1,h2,HA.out.fr.trans h3 HA.out.new,HA.out.r1.fr h3 (fun _ h=>.inl h),HA.out.r2.fr h3 (fun _ h=>.inl h)⟩
   have HX:Hid (askQ q c (h,k) = .error f):=by show _ = _; simp only [askQ,hl]
   clear hl HA HC0 HG1 HGF HQ HOK
   obtain ⟨f1,f2⟩:=f
   simp only at HL
   generalize bs h.text = tx at *
   go_wp2_with fail
   refine HL.out.mono ?_
   rintro e w3 ⟨hf,rfl,HB⟩
   have HF:Hid (f1 ≠ 0):=hf
   have hq:(f1 == 0) = false:=by rw [beq_eq_false_iff_ne]; exact hf
   clear hf HL x0 x1 x2 x3 x4
   have r0:w3.cell? ⟨w.heap.size + 1,0,none⟩ = some (.bool false):=HB.out.r1.cell rfl
   have r1:w3.cell? ⟨w.heap.size + 1,1,none⟩ = some (.string ⟨#[]⟩):=HB.out.r1.cell rfl
   have r2:w3.cell? ⟨w.heap.size + 1,2,none⟩ = some (.int .i64 0):=HB.out.r1.cell rfl
   have r3:w3.cell? ⟨w.heap.size + 1,3,none⟩ = some (.int .i64 0):=HB.out.r1.cell rfl
   have q0:w3.cell? ⟨w.heap.size + 1 + 1,0,none⟩ = some (.int .i64 0):=HB.out.r2.cell rfl
   have q1:w3.cell? ⟨w.heap.size + 1 + 1,1,none⟩ = some (.int .i64 0):=HB.out.r2.cell rfl
   have rf:∀ i,w3.frozen? ⟨w.heap.size + 1,i,none⟩ = false:=fun i=>HB.out.r1.fz i
   have qf:∀ i,w3.frozen? ⟨w.heap.size + 1 + 1,i,none⟩ = false:=fun i=>HB.out.r2.fz i
   have hl1:w.heap.size + 1 < w3.heap.size:=HB.out.r1.lt
   have hl2:w.heap.size + 1 + 1 < w3.heap.size:=HB.out.r2.lt
   have hl0:w.heap.size < w3.heap.size:=by omega
   have hn0:¬ w.heap.size = w3.heap.size:=by omega
   have hn1:¬ w.heap.size + 1 = w3.heap.size:=by omega
   have hn2:¬ w.heap.size + 1 + 1 = w3.heap.size:=by omega
   have hn3:¬ w.heap.size + 1 = w3.heap.size + 1:=by omega
   have hn4:¬ w.heap.size + 1 + 1 = w3.heap.size + 1:=by omega
   go_wp2_with fail
   go_region
   go_wp2
   refine bodyPost_ret (v:=.tuple #[mnV mn0,flV (f1,f2)]) ?_ rfl ?_
   ·simp only [results,hres]
    go_simp
    exact ⟨rfl,rfl⟩
   ·show XPost _ _ _ _ _ _ _
    rw [HX.out]
    exact ⟨HF.out,rfl,(((fr_res HB.out.fr _ _ _ _ _ _).alloc _).alloc _).drew⟩
 | ok x=>
   obtain ⟨c2,m2⟩:=x
   obtain ⟨k1,k2,k3⟩:=HOK.out c2 m2 hl
   have HL:Hid (Calls Tryz.prog 102 #[.pointer (some ⟨b,0,none⟩),.agg #[.int .i64 h.kind,.int .i64 h.num,.string (bs h.text),.slice ka kn kc,.int .i64 h.pl]] w1 fun e w'=>e = .returned (.tuple #[.agg #[.bool m2.isText,.string (bs m2.text),.int .i64 m2.place,.int .i64 m2.num],.agg #[.int .i64 0,.int .i64 0]]) /\ Hid (∃ O' s',CA w O O' b s s' c2 h ka kn kc w' /\ G O' w')):=by
    refine (calls_okm HC0 hl).mono ?_
    rintro e w' ⟨h1,h2,O',s',h3,h4,h5⟩
    exact ⟨h1,O',s',HA.out.go h2 h4 h3 h5 k1,HGF.out _ _ _ _ HG1.out h2 h4⟩
   have HX:Hid (askQ q c (h,k) = if q m2 = 0 then .ok (c2,m2) else .error (q m2,h.pl)):=by show _ = _; simp only [askQ,hl]
   have HQ2:Hid (∀ O' s' W,CA w O O' b s s' c2 h ka kn kc W -> G O' W -> Calls Tryz.prog 130 #[mnV m2,.pointer (some ⟨g,0,none⟩)] W fun e w'=>e = .returned (.int .i64 (q m2)) /\ Below W.heap.size W w'):=fun O' s' W hW hGW=>HQ.out O' s' c2 m2 W hW.ck k1 k3 k2 hGW
   clear hl HA HC0 HG1 HQ HOK k1 k2 k3
   obtain ⟨z,hz⟩:∃ z,z = q m2:=⟨_,rfl⟩
   rw [<- hz] at HX
   have HZ:Hid (z = q m2):=hz
   rw [<- hz] at HQ2
   clear hz HZ
   unfold mnV at HQ2
   obtain ⟨mt2,mx2,mp2,mn2⟩:=m2
   simp only at HL HQ2
   obtain ⟨bx2,hbx2⟩:∃ bx2,bx2 = bs mx2:=⟨_,rfl⟩
   rw [<- hbx2] at HL HQ2
   have HBY:Hid (bx2 = bs mx2):=hbx2
   clear hbx2
   generalize bs h.text = tx at x2 HL ⊢
   go_wp2_with fail
   refine HL.out.mono ?_
   rintro e w3 ⟨rfl,HB0⟩
   obtain ⟨O3,s3,hB3,hG3⟩:=HB0.out
   have HB:Hid (CA w O O3 b s s3 c2 h ka kn kc w3):=hB3
   have HQ3:Hid (∀ o o',Calls Tryz.prog 130 #[.agg #[.bool mt2,.string bx2,.int .i64 mp2,.int .i64 mn2],.pointer (some ⟨g,0,none⟩)] ((w3.alloc o).alloc o') fun e w'=>e = .returned (.int .i64 z) /\ Below ((w3.alloc o).alloc o').heap.size ((w3.alloc o).alloc o') w'):=fun o o'=>by
    have hb:Below w3.heap.size w3 ((w3.alloc o).alloc o'):=((Below.refl _ _).alloc (Nat.le_refl _) o).alloc (by simp) o'
    exact HQ2.out O3 s3 _ (hB3.next hb) (HGF.out O3 O3 w3 _ hG3 (Fr.of_below hb) (fun _ h=>.inl h))
   clear HL x0 x1 x2 x3 x4 HB0 hB3 hG3 HQ2 HGF
   go_wp2_with fail
   refine (HQ3.out _ _).mono ?_
   rintro e w4 ⟨rfl,hb4⟩
   have hnw:=heap_alloc_new w3 (.cells #[.bool mt2,.string bx2,.int .i64 mp2,.int .i64 mn2] 135)
   have HB4:Hid (CA w O O3 b s s3 c2 h ka kn kc w4 /\ w4.heap[w3.heap.size]? = some (.cells #[.bool mt2,.string bx2,.int .i64 mp2,.int .i64 mn2] 135 (0,0))):=by
    refine ⟨((HB.out.next ((Below.refl _ _).alloc (Nat.le_refl _) _)).next ((Below.refl _ _).alloc (Nat.le_refl _) _)).next hb4,?_⟩
    rw [hb4.block _ (by simp; omega)]
    exact heap_old hnw
   have hl3:w.heap.size + 1 + 1 < w3.heap.size:=HB.out.r2.lt
   clear hb4 HB HQ3 hnw
   have y0:w4.cell? ⟨w3.heap.size,0,none⟩ = some (.bool mt2):=blk HB4.out.2 rfl
   have y1:w4.cell? ⟨w3.heap.size,1,none⟩ = some (.string bx2):=blk HB4.out.2 rfl
   have y2:w4.cell? ⟨w3.heap.size,2,none⟩ = some (.int .i64 mp2):=blk HB4.out.2 rfl
   have y3:w4.cell? ⟨w3.heap.size,3,none⟩ = some (.int .i64 mn2):=blk HB4.out.2 rfl
   have x4:w4.cell? ⟨w.heap.size,4,none⟩ = some (.int .i64 h.pl):=HB4.out.1.box.cell rfl
   have r0:w4.cell? ⟨w.heap.size + 1,0,none⟩ = some (.bool false):=HB4.out.1.r1.cell rfl
   have r1:w4.cell? ⟨w.heap.size + 1,1,none⟩ = some (.string ⟨#[]⟩):=HB4.out.1.r1.cell rfl
   have r2:w4.cell? ⟨w.heap.size + 1,2,none⟩ = some (.int .i64 0):=HB4.out.1.r1.cell rfl
   have r3:w4.cell? ⟨w.heap.size + 1,3,none⟩ = some (.int .i64 0):=HB4.out.1.r1.cell rfl
   have q0:w4.cell? ⟨w.heap.size + 1 + 1,0,none⟩ = some (.int .i64 0):=HB4.out.1.r2.cell rfl
   have q1:w4.cell? ⟨w.heap.size + 1 + 1,1,none⟩ = some (.int .i64 0):=HB4.out.1.r2.cell rfl
   have rf:∀ i,w4.frozen? ⟨w.heap.size + 1,i,none⟩ = false:=fun i=>HB4.out.1.r1.fz i
   have qf:∀ i,w4.frozen? ⟨w.heap.size + 1 + 1,i,none⟩ = false:=fun i=>HB4.out.1.r2.fz i
   by_cases hz0:z = 0
   ·subst hz0
    rw [if_pos rfl] at HX
    go_wp2
    refine bodyPost_ret (v:=.tuple #[mnV ⟨mt2,mx2,mp2,mn2⟩,flV (0,0)]) ?_ rfl ?_
    ·simp only [results,hres]
     unfold mnV flV
     simp only
     rw [<- HBY.out]
     go_simp
    ·show XPost _ _ _ _ _ _ _
     rw [HX.out]
     have hd:=HB4.out.1.done (.bool mt2) (.string bx2) (.int .i64 mp2) (.int .i64 mn2) (.int .i64 0) (.int .i64 0)
     exact ⟨rfl,hd.1,O3,s3,HB4.out.1.sv,HB4.out.1.new,hd.2⟩
   ·have hq:(z == 0) = false:=by rw [beq_eq_false_iff_ne]; exact hz0
    rw [if_neg hz0] at HX
    have HZ:Hid (z ≠ 0):=hz0
    clear hz0
    have hw0:¬ w.heap.size = w.heap.size + 1:=by omega
    have hw1:¬ w.heap.size = w.heap.size + 1 + 1:=by omega
    generalize hpl:h.pl = pl at *
    have HS1:Hid (∀ (W:World) (i:Nat) (u:Value),W.cell? ⟨w.heap.size,4,none⟩ = some (.int .i64 pl) -> (W.setCell ⟨w.heap.size + 1,i,none⟩ u).cell? ⟨w.heap.size,4,none⟩ = some (.int .i64 pl)):=fun W i u hW=>by
     rw [World.cell?_of_block (w:=W) (a:=⟨w.heap.size,4,none⟩) (heap_other rfl hw0)]; exact hW
    have HS2:Hid (∀ (W:World) (i:Nat) (u:Value),W.cell? ⟨w.heap.size,4,none⟩ = some (.int .i64 pl) -> (W.setCell ⟨w.heap.size + 1 + 1,i,none⟩ u).cell? ⟨w.heap.size,4,none⟩ = some (.int .i64 pl)):=fun W i u hW=>by
     rw [World.cell?_of_block (w:=W) (a:=⟨w.heap.size,4,none⟩) (heap_other rfl hw1)]; exact hW
    have r6d:Hid (∀ W:World,W.cell? ⟨w.heap.size,4,none⟩ = some (.int .i64 pl) -> W.drew.cell? ⟨w.heap.size,4,none⟩ = some (.int .i64 pl)):=fun W h=>h
    go_wp2_with fail
    go_region_held3 (fun W=>W.cell? ⟨w.heap.size,4,none⟩ = some (.int .i64 pl)) (((try with_reducible refine r6d.out _ ?_); repeat (first | with_reducible exact x4 | with_reducible refine HS1.out _ _ _ ?_ | with_reducible refine HS2.out _ _ _ ?_))) (fail)
    rename_i hh
    clear hh HS1 HS2 r6d
    go_wp2
    refine bodyPost_ret (v:=.tuple #[mnV mn0,flV (z,pl)]) ?_ rfl ?_
    ·simp only [results,hres]
     go_simp
     exact ⟨rfl,rfl⟩
    ·show XPost _ _ _ _ _ _ _
     rw [HX.out]
     exact ⟨HZ.out,rfl,(fr_res HB4.out.1.fr _ _ _ _ _ _).drew⟩
end Go.Proofs.YtidmjjalpbbfkaaGreat
