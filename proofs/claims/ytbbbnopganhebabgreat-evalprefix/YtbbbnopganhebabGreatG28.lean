/-
  An expression of others: where compound stands. An expression is asked: expr. An expression that must be of a kind: asked; what is asked of a number, of a text.
-/
import Derived.Deep.LoopGhost
import Derived.BigRegion
import Derived.Test.YtbbbnopganhebabGreatCkQ
import Derived.Test.YtbbbnopganhebabGreatG17
import Derived.Test.YtbbbnopganhebabGreatG14
import Derived.Test.YtbbbnopganhebabGreatG00
namespace Go.Proofs.YtbbbnopganhebabGreat
open Go.RowKit Go.Deep Go.Maps
open Go.Value renaming int->I
open Go.IntKind renaming i64->J
theorem foAt_short {o:Bool} {S:Nat -> Prop} {w:World}:∀ {F:Fo} {ao:Option Addr} {n:Nat},FoAt o S w F ao n -> shortF F
 | .nil,_,_,_=>trivial
 | .node _ _ h k r,_,_,hh=>by
   obtain ⟨g,off,ka,kn,kc,m,_,_,_,_,hok,_,_,h1,h2⟩:=hh
   exact ⟨hok.text,foAt_short h1,foAt_short h2⟩
theorem calls_err {O:Nat -> Prop} {b:Nat} {s:Sl} {w:World} {K:Nat} {args:Array Value} {r:Er (Ck × Mn)} {f:Int × Int} (h:Calls Tryz.prog K args w (XPost O b s w r)) (hr:r = .error f) :
 Calls Tryz.prog K args w fun e w'=>f.1 ≠ 0 /\ e = .returned (.tuple #[.agg #[.bool false,.string ⟨#[]⟩,I J 0,I J 0],.agg #[I J f.1,I J f.2]]) /\ Fr O w w':=by
 subst hr; exact h
theorem calls_okm {O:Nat -> Prop} {b:Nat} {s:Sl} {w:World} {K:Nat} {args:Array Value} {r:Er (Ck × Mn)} {c':Ck} {m:Mn} (h:Calls Tryz.prog K args w (XPost O b s w r)) (hr:r = .ok (c',m)) :
 Calls Tryz.prog K args w fun e w'=>e = .returned (.tuple #[.agg #[.bool m.isText,.string (bs m.text),I J m.place,I J m.num],.agg #[I J 0,I J 0]]) /\ Fr O w w' /\ ∃ O' s',s'.sv = s.sv /\ (∀ g,O' g -> O g \/ w.heap.size <= g) /\ CkAt O' b s' c' w':=by
 subst hr; exact h
/-- A block of the call's own, beside the checker's. -/
structure Lc (O:Nat -> Prop) (W:World) (g:Nat) (cs:List Value) (ty:TypeId):Prop where
 heap:W.heap[g]? = some (.cells cs.toArray ty (0,0))
 off:¬ O g
theorem Lc.next {O:Nat -> Prop} {W W':World} {g:Nat} {cs:List Value} {ty:TypeId} (h:Lc O W g cs ty) (hb:Below W.heap.size W W'):Lc O W' g cs ty:=⟨by rw [hb.block _ (lt_block h.heap)]; exact h.heap,h.off⟩
theorem Lc.lt {O:Nat -> Prop} {W:World} {g:Nat} {cs:List Value} {ty:TypeId} (h:Lc O W g cs ty):g < W.heap.size:=lt_block h.heap
theorem Lc.fr {O O':Nat -> Prop} {W W':World} {g:Nat} {cs:List Value} {ty:TypeId} (h:Lc O W g cs ty) (hf:Fr O W W') (hO:∀ g,O' g -> O g \/ W.heap.size <= g):Lc O' W' g cs ty:=
 ⟨hf.heap h.heap h.off,fun ho=>by rcases hO g ho with h1 | h1; exact h.off h1; have:=h.lt; omega⟩
theorem Lc.cell {O:Nat -> Prop} {W:World} {g:Nat} {cs:List Value} {ty:TypeId} (h:Lc O W g cs ty) {i:Nat} {u:Value} (hi:cs[i]? = some u):W.cell? ⟨g,i,none⟩ = some u:=blk h.heap (by simpa using hi)
theorem Lc.fz {O:Nat -> Prop} {W:World} {g:Nat} {cs:List Value} {ty:TypeId} (h:Lc O W g cs ty) (i:Nat):W.frozen? ⟨g,i,none⟩ = false:=blkf i h.heap
theorem Lc.other {O:Nat -> Prop} {W:World} {g k:Nat} {cs:List Value} {ty:TypeId} (h:Lc O W g cs ty) (hk:g ≠ k) (i:Nat) (u:Value):Lc O (W.setCell ⟨k,i,none⟩ u) g cs ty:=⟨heap_other h.heap hk,h.off⟩
theorem Lc.put {O:Nat -> Prop} {W:World} {g:Nat} {cs:List Value} {ty:TypeId} (h:Lc O W g cs ty) (i:Nat) (u:Value):Lc O (W.setCell ⟨g,i,none⟩ u) g (cs.set i u) ty:=⟨heap_put h.heap (by simp),h.off⟩
theorem Lc.alloc {O:Nat -> Prop} {W:World} {g:Nat} {cs:List Value} {ty:TypeId} (h:Lc O W g cs ty) (o:Obj):Lc O (W.alloc o) g cs ty:=h.next ((Below.refl _ _).alloc (Nat.le_refl _) o)
theorem Lc.new {O:Nat -> Prop} {W:World} {cs:List Value} {ty:TypeId} (h:¬ O W.heap.size):Lc O (W.alloc (.cells cs.toArray ty)) W.heap.size cs ty:=⟨heap_alloc_new W _,h⟩
theorem ck_set {O:Nat -> Prop} {b:Nat} {s:Sl} {c:Ck} {W:World} (h:CkAt O b s c W) {g:Nat} (hg:¬ O g) (i:Nat) (u:Value):CkAt O b s c (W.setCell ⟨g,i,none⟩ u):=
 h.keep fun _ _ ho=>heap_other rfl (fun e=>hg (e ▸ ho))
def mnL (m:Mn):List Value:=[.bool m.isText,.string (bs m.text),I J m.place,I J m.num]
def flL (f:Int × Int):List Value:=[I J f.1,I J f.2]
def exL (h:Hd) (ka:Option Addr) (kn kc:Nat):List Value:=[I J h.kind,I J h.num,.string (bs h.text),.slice ka kn kc,I J h.pl]
/-- Where a call stands that has an expression in its box, and two results. -/
structure CA (w:World) (O0 O:Nat -> Prop) (b:Nat) (s0 s:Sl) (c:Ck) (h:Hd) (ka:Option Addr) (kn kc:Nat) (W:World):Prop where
 ck:CkAt O b s c W
 ok:CkOk c
 sv:s.sv = s0.sv
 fr:Fr O0 w W
 box:Lc O W w.heap.size (exL h ka kn kc) 173
 r1:Lc O W (w.heap.size + 1) (mnL mn0) 183
 r2:Lc O W (w.heap.size + 1 + 1) (flL (0,0)) 87
 new:∀ g,O g -> O0 g \/ w.heap.size <= g
section
variable {w W W':World} {O0 O O':Nat -> Prop} {b:Nat} {s0 s s':Sl} {c c':Ck} {h:Hd} {ka:Option Addr} {kn kc:Nat}
theorem CA.next (a:CA w O0 O b s0 s c h ka kn kc W) (hb:Below W.heap.size W W'):CA w O0 O b s0 s c h ka kn kc W':=
 ⟨a.ck.below hb,a.ok,a.sv,a.fr.then_below hb,a.box.next hb,a.r1.next hb,a.r2.next hb,a.new⟩
theorem CA.go (a:CA w O0 O b s0 s c h ka kn kc W) (hf:Fr O W W') (hO:∀ g,O' g -> O g \/ W.heap.size <= g) (hs:s'.sv = s.sv) (hck:CkAt O' b s' c' W') (hok:CkOk c'):CA w O0 O' b s0 s' c' h ka kn kc W':=by
 have hsz:=a.fr.size
 exact ⟨hck,hok,hs.trans a.sv,a.fr.trans hf a.new,a.box.fr hf hO,a.r1.fr hf hO,a.r2.fr hf hO,fun g hg=>by rcases hO g hg with h1 | h1; exact a.new g h1; exact .inr (by omega)⟩
theorem CA.start (hck:CkAt O0 b s0 c w) (hok:CkOk c) (h:Hd) (ka:Option Addr) (kn kc:Nat):CA w O0 (fun g=>O0 g /\ g < w.heap.size) b s0 s0 c h ka kn kc (((w.alloc (.cells #[I J h.kind,I J h.num,.string (bs h.text),.slice ka kn kc,I J h.pl] 173)).alloc (.cells #[.bool false,.string ⟨#[]⟩,I J 0,I J 0] 183)).alloc (.cells #[I J 0,I J 0] 87)):=by
 obtain ⟨h1,h2,h3⟩:=heap_new3 w (.cells #[I J h.kind,I J h.num,.string (bs h.text),.slice ka kn kc,I J h.pl] 173) (.cells #[.bool false,.string ⟨#[]⟩,I J 0,I J 0] 183) (.cells #[I J 0,I J 0] 87)
 exact ⟨((hck.tight.alloc _).alloc _).alloc _,hok,rfl,(((Fr.refl O0 w).alloc _).alloc _).alloc _,⟨h1,fun hh=>by have:=hh.2; omega⟩,⟨h2,fun hh=>by have:=hh.2; omega⟩,⟨h3,fun hh=>by have:=hh.2; omega⟩,fun g hg=>.inl hg.1⟩
/-- The end of such a call: the two results are stored. -/
theorem CA.done (a:CA w O0 O b s0 s c h ka kn kc W) (x1 x2 x3 x4 x5 x6:Value):Fr O0 w ((((((W.setCell ⟨w.heap.size + 1,0,none⟩ x1).setCell ⟨w.heap.size + 1,1,none⟩ x2).setCell ⟨w.heap.size + 1,2,none⟩ x3).setCell ⟨w.heap.size + 1,3,none⟩ x4).setCell ⟨w.heap.size + 1 + 1,0,none⟩ x5).setCell ⟨w.heap.size + 1 + 1,1,none⟩ x6) /\
 CkAt O b s c ((((((W.setCell ⟨w.heap.size + 1,0,none⟩ x1).setCell ⟨w.heap.size + 1,1,none⟩ x2).setCell ⟨w.heap.size + 1,2,none⟩ x3).setCell ⟨w.heap.size + 1,3,none⟩ x4).setCell ⟨w.heap.size + 1 + 1,0,none⟩ x5).setCell ⟨w.heap.size + 1 + 1,1,none⟩ x6):=
 ⟨fr_res a.fr _ _ _ _ _ _,ck_set (ck_set (ck_set (ck_set (ck_set (ck_set a.ck a.r1.off _ _) a.r1.off _ _) a.r1.off _ _) a.r1.off _ _) a.r2.off _ _) a.r2.off _ _⟩
end
section
variable {w W:World} {O0 O:Nat -> Prop} {b:Nat} {s0 s:Sl} {c:Ck} {h:Hd} {ka:Option Addr} {kn kc:Nat}
/-- What is left of where a call stands, behind a fault. -/
structure CE (w:World) (O0 O:Nat -> Prop) (W:World):Prop where
 fr:Fr O0 w W
 r1:Lc O W (w.heap.size + 1) (mnL mn0) 183
 r2:Lc O W (w.heap.size + 1 + 1) (flL (0,0)) 87
end
set_option maxRecDepth 20000
set_option maxHeartbeats 4000000
/-- A call whose two results are handed on. -/
theorem CA.any {w W:World} {O0 O:Nat -> Prop} {b:Nat} {s0 s:Sl} {c:Ck} {h:Hd} {ka:Option Addr} {kn kc K:Nat} {args:Array Value} {r:Er (Ck × Mn)} (a:CA w O0 O b s0 s c h ka kn kc W) (hC:Calls Tryz.prog K args W (XPost O b s W r)) :
 Calls Tryz.prog K args W fun e w'=>∃ (mt:Bool) (mx:ByteArray) (mp mm f1 f2:Int),e = .returned (.tuple #[.agg #[.bool mt,.string mx,I J mp,I J mm],.agg #[I J f1,I J f2]]) /\
  Hid (Lc (fun _=>False) w' (w.heap.size + 1) (mnL mn0) 183 /\ Lc (fun _=>False) w' (w.heap.size + 1 + 1) (flL (0,0)) 87 /\ ∀ x1 x2 x3 x4 x5 x6:Value,XPost O0 b s0 w r (.returned (.tuple #[.agg #[.bool mt,.string mx,I J mp,I J mm],.agg #[I J f1,I J f2]])) ((((((w'.setCell ⟨w.heap.size + 1,0,none⟩ x1).setCell ⟨w.heap.size + 1,1,none⟩ x2).setCell ⟨w.heap.size + 1,2,none⟩ x3).setCell ⟨w.heap.size + 1,3,none⟩ x4).setCell ⟨w.heap.size + 1 + 1,0,none⟩ x5).setCell ⟨w.heap.size + 1 + 1,1,none⟩ x6)):=by
 refine hC.mono ?_
 intro e w' hx
 match r,hx with
 | .error f,⟨hf,he,hfr⟩=>
   exact ⟨false,bs mn0.text,0,0,f.1,f.2,he,⟨hfr.heap a.r1.heap a.r1.off,fun h=>h⟩,⟨hfr.heap a.r2.heap a.r2.off,fun h=>h⟩,fun _ _ _ _ _ _=>⟨hf,rfl,fr_res (a.fr.trans hfr a.new) _ _ _ _ _ _⟩⟩
 | .ok (c',m),⟨he,hfr,O',s',hs,hO,hck⟩=>
   have h1:=a.r1.fr hfr hO
   have h2:=a.r2.fr hfr hO
   have hsz:=a.fr.size
   exact ⟨m.isText,bs m.text,m.place,m.num,0,0,he,⟨h1.heap,fun h=>h⟩,⟨h2.heap,fun h=>h⟩,fun _ _ _ _ _ _=>⟨rfl,fr_res (a.fr.trans hfr a.new) _ _ _ _ _ _,O',s',hs.trans a.sv,fun g hg=>by rcases hO g hg with h3 | h3; exact a.new g h3; exact .inr (by omega),ck_set (ck_set (ck_set (ck_set (ck_set (ck_set hck h1.off _ _) h1.off _ _) h1.off _ _) h1.off _ _) h2.off _ _) h2.off _ _⟩⟩
theorem ex_num {O O1:Nat -> Prop} {b:Nat} {s:Sl} {c:Ck} (h:Hd) (ka:Option Addr) (kn kc:Nat) (w:World) (hk:h.kind = 1) (hnum:InR h.num) (hA:CA w O O1 b s s c h ka kn kc (((w.alloc (.cells #[I J h.kind,I J h.num,.string (bs h.text),.slice ka kn kc,I J h.pl] 173)).alloc (.cells #[.bool false,.string ⟨#[]⟩,I J 0,I J 0] 183)).alloc (.cells #[I J 0,I J 0] 87))) :
 Calls Tryz.prog 130 #[.pointer (some ⟨b,0,none⟩),exV h ka kn kc] w (XPost O b s w (layB c ⟨1,h.num,0,0⟩ h.pl)):=by
 have hres:Tryz.f130.results = #[.cell 4 183,.cell 5 87]:=by kernel_rfl
 have hq:(h.kind == 1) = true:=by rw [beq_iff_eq]; exact hk
 have HL:=hA.any (lay_calls _ hA.ck hA.ok ⟨1,h.num,0,0⟩ ⟨hnum,fun h1 _=>by simp at h1,fun h1 _=>by simp at h1⟩ h.pl)
 have x0:(((w.alloc (.cells #[I J h.kind,I J h.num,.string (bs h.text),.slice ka kn kc,I J h.pl] 173)).alloc (.cells #[.bool false,.string ⟨#[]⟩,I J 0,I J 0] 183)).alloc (.cells #[I J 0,I J 0] 87)).cell? ⟨w.heap.size,0,none⟩ = some (I J h.kind):=hA.box.cell rfl
 have x1:(((w.alloc (.cells #[I J h.kind,I J h.num,.string (bs h.text),.slice ka kn kc,I J h.pl] 173)).alloc (.cells #[.bool false,.string ⟨#[]⟩,I J 0,I J 0] 183)).alloc (.cells #[I J 0,I J 0] 87)).cell? ⟨w.heap.size,1,none⟩ = some (I J h.num):=hA.box.cell rfl
 have x4:(((w.alloc (.cells #[I J h.kind,I J h.num,.string (bs h.text),.slice ka kn kc,I J h.pl] 173)).alloc (.cells #[.bool false,.string ⟨#[]⟩,I J 0,I J 0] 183)).alloc (.cells #[I J 0,I J 0] 87)).cell? ⟨w.heap.size,4,none⟩ = some (I J h.pl):=hA.box.cell rfl
 unfold dfV at HL
 clear hA hk hnum
 unfold exV
 go_enter Tryz.func130,Tryz.ntmps130
 go_upto_region 1 with (fail)
 generalize (((w.alloc (.cells #[I J h.kind,I J h.num,.string (bs h.text),.slice ka kn kc,I J h.pl] 173)).alloc (.cells #[.bool false,.string ⟨#[]⟩,I J 0,I J 0] 183)).alloc (.cells #[I J 0,I J 0] 87)) = w1 at *
 go_wp2_with fail
 refine HL.mono ?_
 rintro e w3 ⟨mt,mx,mp,mm,f1,f2,rfl,HB⟩
 clear HL x0 x1 x4
 have r0:w3.cell? ⟨w.heap.size + 1,0,none⟩ = some (.bool false):=HB.out.1.cell rfl
 have r1:w3.cell? ⟨w.heap.size + 1,1,none⟩ = some (.string ⟨#[]⟩):=HB.out.1.cell rfl
 have r2:w3.cell? ⟨w.heap.size + 1,2,none⟩ = some (I J 0):=HB.out.1.cell rfl
 have r3:w3.cell? ⟨w.heap.size + 1,3,none⟩ = some (I J 0):=HB.out.1.cell rfl
 have q0:w3.cell? ⟨w.heap.size + 1 + 1,0,none⟩ = some (I J 0):=HB.out.2.1.cell rfl
 have q1:w3.cell? ⟨w.heap.size + 1 + 1,1,none⟩ = some (I J 0):=HB.out.2.1.cell rfl
 have rf:∀ i,w3.frozen? ⟨w.heap.size + 1,i,none⟩ = false:=fun i=>HB.out.1.fz i
 have qf:∀ i,w3.frozen? ⟨w.heap.size + 1 + 1,i,none⟩ = false:=fun i=>HB.out.2.1.fz i
 go_wp2
 refine bodyPost_ret (v:=.tuple #[.agg #[.bool mt,.string mx,I J mp,I J mm],.agg #[I J f1,I J f2]]) ?_ rfl ?_
 ·simp only [results,hres]
  go_simp
 ·exact HB.out.2.2 _ _ _ _ _ _
theorem ex_text {O O1:Nat -> Prop} {b:Nat} {s:Sl} {c:Ck} (h:Hd) (ka:Option Addr) (kn kc:Nat) (w:World) (hk:h.kind = 3) (hA:CA w O O1 b s s c h ka kn kc (((w.alloc (.cells #[I J h.kind,I J h.num,.string (bs h.text),.slice ka kn kc,I J h.pl] 173)).alloc (.cells #[.bool false,.string ⟨#[]⟩,I J 0,I J 0] 183)).alloc (.cells #[I J 0,I J 0] 87))) :
 Calls Tryz.prog 130 #[.pointer (some ⟨b,0,none⟩),exV h ka kn kc] w (XPost O b s w (.ok (c,⟨true,h.text,0,0⟩))):=by
 have hres:Tryz.f130.results = #[.cell 4 183,.cell 5 87]:=by kernel_rfl
 have HA:Hid (CA w O O1 b s s c h ka kn kc (((w.alloc (.cells #[I J h.kind,I J h.num,.string (bs h.text),.slice ka kn kc,I J h.pl] 173)).alloc (.cells #[.bool false,.string ⟨#[]⟩,I J 0,I J 0] 183)).alloc (.cells #[I J 0,I J 0] 87))):=hA
 have hq:(h.kind == 3) = true:=by rw [beq_iff_eq]; exact hk
 have hq1:(h.kind == 1) = false:=by rw [beq_eq_false_iff_ne]; omega
 clear hA hk
 unfold exV
 go_enter Tryz.func130,Tryz.ntmps130
 go_upto_region 1 with (fail)
 generalize (((w.alloc (.cells #[I J h.kind,I J h.num,.string (bs h.text),.slice ka kn kc,I J h.pl] 173)).alloc (.cells #[.bool false,.string ⟨#[]⟩,I J 0,I J 0] 183)).alloc (.cells #[I J 0,I J 0] 87)) = w1 at *
 have x0:w1.cell? ⟨w.heap.size,0,none⟩ = some (I J h.kind):=HA.out.box.cell rfl
 have x2:w1.cell? ⟨w.heap.size,2,none⟩ = some (.string (bs h.text)):=HA.out.box.cell rfl
 have r0:w1.cell? ⟨w.heap.size + 1,0,none⟩ = some (.bool false):=HA.out.r1.cell rfl
 have r1:w1.cell? ⟨w.heap.size + 1,1,none⟩ = some (.string ⟨#[]⟩):=HA.out.r1.cell rfl
 have r2:w1.cell? ⟨w.heap.size + 1,2,none⟩ = some (I J 0):=HA.out.r1.cell rfl
 have r3:w1.cell? ⟨w.heap.size + 1,3,none⟩ = some (I J 0):=HA.out.r1.cell rfl
 have q0:w1.cell? ⟨w.heap.size + 1 + 1,0,none⟩ = some (I J 0):=HA.out.r2.cell rfl
 have q1:w1.cell? ⟨w.heap.size + 1 + 1,1,none⟩ = some (I J 0):=HA.out.r2.cell rfl
 have rf:∀ i,w1.frozen? ⟨w.heap.size + 1,i,none⟩ = false:=fun i=>HA.out.r1.fz i
 have qf:∀ i,w1.frozen? ⟨w.heap.size + 1 + 1,i,none⟩ = false:=fun i=>HA.out.r2.fz i
 generalize h.kind = kd at *
 obtain ⟨bx2,hbx2⟩:∃ bx2,bx2 = bs h.text:=⟨_,rfl⟩
 rw [<- hbx2] at x2
 have HBY:Hid (bx2 = bs h.text):=hbx2
 clear hbx2
 go_wp2
 refine bodyPost_ret (v:=.tuple #[mnV ⟨true,h.text,0,0⟩,flV (0,0)]) ?_ rfl ?_
 ·simp only [results,hres]
  unfold mnV flV
  simp only
  rw [<- HBY.out]
  go_simp
 ·exact ⟨rfl,(HA.out.done _ _ _ _ _ _).1,O1,s,rfl,HA.out.new,(HA.out.done _ _ _ _ _ _).2⟩
/-- What the Kids are, where there is one number. -/
def KP1 (O:Nat -> Prop) (b:Nat) (s:Sl) (w:World) (r:Er (Ck × Mn)) (e:Ending) (w':World):Prop:=
 match r with
 | .error f=>f.1 ≠ 0 /\ e = .returned (.tuple #[.slice none 0 0,flV f]) /\ Fr O w w'
 | .ok (c',m)=>∃ mg mc O' s',e = .returned (.tuple #[.slice (some ⟨mg,0,none⟩) 1 mc,flV (0,0)]) /\ Fr O w w' /\ s'.sv = s.sv /\ (∀ g,O' g -> O g \/ w.heap.size <= g) /\ CkAt O' b s' c' w' /\
  w'.cell? ⟨mg,0,none⟩ = some (.bool m.isText) /\ w'.cell? ⟨mg,1,none⟩ = some (.string (bs m.text)) /\ w'.cell? ⟨mg,2,none⟩ = some (I J m.place) /\ w'.cell? ⟨mg,3,none⟩ = some (I J m.num)
theorem info215:(Tryz.prog.info? 183).map (fun i=>(i.zero,i.size,i.bytes)) = some (some (.agg #[.bool false,.string ByteArray.empty,I J 0,I J 0]),4,40):=by kernel_rfl
theorem mnL_one (m:Mn):∀ u ∈ mnL m,u.oneCell' = true:=by
 intro u hu
 simp [mnL] at hu
 rcases hu with rfl | rfl | rfl | rfl <;> rfl
/-- Where kids stands: the checker, the fault's cell, the list. -/
structure Kd (w:World) (O0 O:Nat -> Prop) (b:Nat) (s0 s:Sl) (c:Ck) (v:Value) (n:Nat) (l:List Value) (W:World):Prop where
 ck:CkAt O b s c W
 sv:s.sv = s0.sv
 fr:Fr O0 w W
 res:Lc O W w.heap.size (flL (0,0)) 87
 row:W.ownsRow (w.heap.size + 1) 183 4 v n l
 off:∀ g,v.ownBlock = some g -> ¬ O g
 new:∀ g,O g -> O0 g \/ w.heap.size <= g
section
variable {w W W':World} {O0 O:Nat -> Prop} {b:Nat} {s0 s:Sl} {c:Ck} {v:Value} {n:Nat} {l:List Value}
theorem Kd.next (a:Kd w O0 O b s0 s c v n l W) (hb:Below W.heap.size W W'):Kd w O0 O b s0 s c v n l W':=
 ⟨a.ck.below hb,a.sv,a.fr.then_below hb,a.res.next hb,owned_below a.row hb,a.off,a.new⟩
theorem Kd.app (a:Kd w O0 O b s0 s c v n l W) {v':Value} {m:Nat} {l':List Value} (ho:W'.ownsRow (w.heap.size + 1) 183 4 v' m l') (hg:W.grownBy W' v.ownBlock) (hn:∀ g,v'.ownBlock = some g -> some g = v.ownBlock \/ W.heap.size <= g):Kd w O0 (fun g=>O g /\ g < W.heap.size) b s0 s c v' m l' W':=by
 refine ⟨a.ck.tight.keep fun g hg2 hO=>hg.block g hg2 (fun e=>a.off g e.symm hO.1),a.sv,a.fr.grown hg fun k e=>.inr (by have:=(a.row.lt k e).1; omega),⟨?_,fun h=>a.res.off h.1⟩,ho,fun g e hO=>?_,fun g hO=>a.new g hO.1⟩
 ·rw [hg.block _ a.res.lt (fun e=>by have:=(a.row.lt _ e.symm).1; omega)]
  exact a.res.heap
 ·rcases hn g e with h1 | h1
  ·exact a.off g h1.symm hO.1
  ·have:=hO.2; omega
end
theorem kids1_calls {B:Nat} {O:Nat -> Prop} {b:Nat} {s:Sl} {c:Ck} (b0 o0:Nat) (h1:Hd) (ka:Option Addr) (kc:Nat) (w:World) (hck:CkAt O b s c w) (hok:CkOk c) (hlow:∀ g,O g -> B <= g) (hF:FoAt false (fun g=>g < B) w (.node b0 o0 h1 .nil .nil) ka 1) (hk1:h1.kind = 1) :
 Calls Tryz.prog 165 #[.pointer (some ⟨b,0,none⟩),.slice ka 1 kc] w (KP1 O b s w (layB c ⟨1,h1.num,0,0⟩ h1.pl)):=by
 have hres:Tryz.f165.results = #[.tmp 4,.cell 5 87]:=by kernel_rfl
 obtain ⟨g,off,ka1,kn1,kc1,m0,-,rfl,hgB,-,hhd,-,hcl,-,-⟩:=hF
 have hgO:¬ O g:=fun ho=>by have:=hlow g ho; omega
 have HC:Hid (∀ W,Fr O w W -> W.cell? ⟨g,off,none⟩ = some (I J h1.kind) /\ W.cell? ⟨g,off + 1,none⟩ = some (I J h1.num) /\ W.cell? ⟨g,off + 2,none⟩ = some (.string (bs h1.text)) /\ W.cell? ⟨g,off + 3,none⟩ = some (.slice ka1 kn1 kc1) /\ W.cell? ⟨g,off + 4,none⟩ = some (I J h1.pl) /\ g < W.heap.size):=fun W hW=>by
  have hgl:g < w.heap.size:=World.block_lt_of_cell? w _ (hcl 0 _ rfl)
  have hc:=hcl.of_heap (hW.block g hgl hgO)
  exact ⟨hc 0 _ rfl,hc 1 _ rfl,hc 2 _ rfl,hc 3 _ rfl,hc 4 _ rfl,Nat.lt_of_lt_of_le hgl hW.size⟩
 have HX:Hid (∀ W O' s',CkAt O' b s' c W -> Calls Tryz.prog 130 #[.pointer (some ⟨b,0,none⟩),.agg #[I J h1.kind,I J h1.num,.string (bs h1.text),.slice ka1 kn1 kc1,I J h1.pl]] W (XPost O' b s' W (layB c ⟨1,h1.num,0,0⟩ h1.pl))):=fun W O' s' hW=>ex_num h1 ka1 kn1 kc1 W hk1 hhd.num (CA.start hW hok h1 ka1 kn1 kc1)
 have HK0:Hid (CkAt (fun g=>O g /\ g < w.heap.size) b s c w):=hck.tight
 have HOk:Hid (∀ c' m,layB c ⟨1,h1.num,0,0⟩ h1.pl = .ok (c',m) -> m.isText = false):=fun c' m he=>(layB_ok hok he).2.2.1
 obtain ⟨R,hR⟩:∃ R,layB c ⟨1,h1.num,0,0⟩ h1.pl = R:=⟨_,rfl⟩
 rw [hR] at HX HOk ⊢
 obtain ⟨i0,hi,hz0,hz1,hz2⟩:=info_parts info215
 clear hck hok hlow hhd hcl hgB hgO hR hk1
 go_enter Tryz.func165,Tryz.ntmps165
 go_wp2_with (at_make; refine wpList_make_own _ rfl _ _ 232 rfl (w.heap.size + 1) 183 i0 _ 4 Tryz.underlying232 hi hz0 hz1 .i64 .i64 _ 1 rfl rfl rfl (by rw [hz2]; omega) (by unfold maxLen; omega) (by simp) ?_; intro w2 hr hg)
 have HKd:Hid (Kd w O (fun g=>O g /\ g < w.heap.size) b s s c (.slice (some ⟨w.heap.size + 1,0,none⟩) 0 1) 0 [] w2):=by
  have hb2:Below (w.alloc (.cells #[I J 0,I J 0] 87)).heap.size (w.alloc (.cells #[I J 0,I J 0] 87)) w2:=⟨hg.os,hg.tape,hg.output,hg.size,fun k hk=>hg.block k hk (by simp)⟩
  exact ⟨(HK0.out.alloc _).below hb2,rfl,((Fr.refl O w).alloc _).then_below hb2,(Lc.new (cs:=flL (0,0)) (fun hh=>by have:=hh.2; omega)).next hb2,by have:=hr; simpa using this,fun g e hh=>by cases e; have:w.heap.size + 1 < w.heap.size:=hh.2; omega,fun g hh=>.inl hh.1⟩
 clear hr hg HK0
 go_wp2
 go_loopw [6,8,9,10,18] (fun kv _ _ _ iv wr=>(iv = I J 0 /\ kv = .slice (some ⟨w.heap.size + 1,0,none⟩) 0 1 /\ Hid (Kd w O (fun g=>O g /\ g < w.heap.size) b s s c (.slice (some ⟨w.heap.size + 1,0,none⟩) 0 1) 0 [] wr)) \/ (iv = I J 1 /\ ∃ (mg mc:Nat),kv = .slice (some ⟨mg,0,none⟩) 1 mc /\ Hid (∃ c1 m O' s',R = .ok (c1,m) /\ Kd w O O' b s s' c1 (.slice (some ⟨mg,0,none⟩) 1 mc) 1 (mnL m) wr))) (fun _ _ _ _ i _=>1 - (intOf i).toNat)
 case atStart=>exact .inl ⟨rfl,rfl,HKd.out⟩
 case round=>
  clear HKd
  rcases hrel with ⟨rfl,rfl,HKd⟩ | ⟨rfl,mg,mc,rfl,HKe⟩
  ·obtain ⟨x0,x1,x2,x3,x4,hgl⟩:=HC.out wr HKd.out.fr
   have HX1:=HX.out (wr.alloc (.cells #[I J h1.kind,I J h1.num,.string (bs h1.text),.slice ka1 kn1 kc1,I J h1.pl] 173)) _ _ (HKd.out.ck.alloc _)
   have hKa:=HKd.out.next ((Below.refl _ _).alloc (Nat.le_refl _) (.cells #[I J h1.kind,I J h1.num,.string (bs h1.text),.slice ka1 kn1 kc1,I J h1.pl] 173))
   cases R with
   | error f=>
     obtain ⟨f1,f2⟩:=f
     have HX2:=calls_err HX1 rfl
     clear HX1 HX
     go_wp2_with fail
     refine HX2.mono ?_
     rintro e w3 ⟨hf,rfl,hfr⟩
     have HR:Hid (Lc (fun g=>O g /\ g < w.heap.size) ((w3.alloc (.cells #[.bool false,.string ⟨#[]⟩,I J 0,I J 0] 183)).alloc (.cells #[I J f1,I J f2] 87)) w.heap.size (flL (0,0)) 87 /\ Fr O w ((w3.alloc (.cells #[.bool false,.string ⟨#[]⟩,I J 0,I J 0] 183)).alloc (.cells #[I J f1,I J f2] 87)) /\ f1 ≠ 0):=⟨((hKa.res.fr hfr (fun _ h=>.inl h)).alloc _).alloc _,((hKa.fr.trans hfr hKa.new).alloc _).alloc _,hf⟩
     have kf:(f1 != 0) = true:=by simpa using hf
     have q0:=HR.out.1.cell (i:=0) rfl
     have q1:=HR.out.1.cell (i:=1) rfl
     have qf:=fun i=>HR.out.1.fz i
     clear HX2 hf hfr hKa HKd x0 x1 x2 x3 x4
     go_wp2_with fail
     go_region
     all_goals (
      go_wp2
      refine bodyPost_ret (v:=.tuple #[.slice none 0 0,.agg #[I J f1,I J f2]]) ?_ rfl ?_
      ·simp only [results,hres]
       go_simp
      ·exact ⟨HR.out.2.2,rfl,((HR.out.2.1.setCell (.inr (Nat.le_refl _)) _ _).setCell (.inr (Nat.le_refl _)) _ _).then_below (Below.refl _ _).drew⟩)
   | ok x=>
     obtain ⟨c1,m⟩:=x
     have HX2:=calls_okm HX1 rfl
     clear HX1 HX
     obtain ⟨mt,mx,mp,mm⟩:=m
     simp only at HX2
     obtain ⟨bx,hbx⟩:∃ bx,bx = bs mx:=⟨_,rfl⟩
     rw [<- hbx] at HX2
     have HBX:Hid (bx = bs mx):=hbx
     clear hbx
     go_wp2_with fail
     refine HX2.mono ?_
     rintro e w3 ⟨rfl,hfr,O',s',hs,hO,hck⟩
     have HK3:Hid (Kd w O O' b s s' c1 (.slice (some ⟨w.heap.size + 1,0,none⟩) 0 1) 0 [] w3):=by
      have hsz:=hKa.fr.size
      have hlt:=own_lt hKa.row (g:=w.heap.size + 1) rfl
      refine ⟨hck,hs.trans hKa.sv,hKa.fr.trans hfr hKa.new,hKa.res.fr hfr hO,owned_of_block hKa.row fun g _ hv hb=>hfr.block g (lt_block hb) (hKa.off g hv),fun g e ho=>?_,fun g hg=>?_⟩
      ·cases e
       rcases hO _ ho with h1 | h1
       ·exact hKa.off _ rfl h1
       ·exact absurd h1 (Nat.not_le.2 hlt.1)
      ·rcases hO g hg with h1 | h1
       ·exact hKa.new g h1
       ·exact .inr (Nat.le_trans hsz h1)
     have HK4:Hid (Kd w O O' b s s' c1 (.slice (some ⟨w.heap.size + 1,0,none⟩) 0 1) 0 [] (((w3.alloc (.cells #[.bool mt,.string bx,I J mp,I J mm] 183)).alloc (.cells #[I J 0,I J 0] 87)).alloc (.cells #[.bool mt,.string bx,I J mp,I J mm] 183))):=((HK3.out.next ((Below.refl _ _).alloc (Nat.le_refl _) _)).next ((Below.refl _ _).alloc (Nat.le_refl _) _)).next ((Below.refl _ _).alloc (Nat.le_refl _) _)
     have HNw:Hid (∀ (i:Nat) (u:Value),(mnL ⟨mt,mx,mp,mm⟩)[i]? = some u -> (((w3.alloc (.cells #[.bool mt,.string bx,I J mp,I J mm] 183)).alloc (.cells #[I J 0,I J 0] 87)).alloc (.cells #[.bool mt,.string bx,I J mp,I J mm] 183)).cell? ((⟨((w3.alloc (.cells #[.bool mt,.string bx,I J mp,I J mm] 183)).alloc (.cells #[I J 0,I J 0] 87)).heap.size,0,none⟩:Addr).add i) = some u):=by
      have:=cells_new ((w3.alloc (.cells #[.bool mt,.string bx,I J mp,I J mm] 183)).alloc (.cells #[I J 0,I J 0] 87)) (mnL ⟨mt,mx,mp,mm⟩) 183
      unfold mnL at this ⊢
      simp only [<- HBX.out] at this ⊢
      exact this
     have hsz2:((w3.alloc (.cells #[.bool mt,.string bx,I J mp,I J mm] 183)).alloc (.cells #[I J 0,I J 0] 87)).heap.size = w3.heap.size + 1 + 1:=by simp
     rw [hsz2] at HNw
     clear HX2 hfr hs hO hck hKa HKd x0 x1 x2 x3 x4 HK3 hsz2
     go_wp2_with (at_builtin; refine wpList_append_fresh rfl _ _ 232 rfl (w.heap.size + 1) 183 i0 _ 4 40 Tryz.underlying232 hi hz0 hz1 hz2 rfl (by decide) (.slice (some ⟨w.heap.size + 1,0,none⟩) 0 1) 0 [] rfl HK4.out.row ⟨w3.heap.size + 1 + 1,0,none⟩ 1 1 (mnL ⟨mt,mx,mp,mm⟩) rfl rfl HNw.out (mnL_one _) (by unfold maxLen; omega) (by omega) (Nat.le_of_lt (Nat.lt_of_le_of_lt (Nat.le_refl _) (own_lt HK4.out.row rfl).1)) ?_)
     intro v' w5 ho hg hn
     have HK5:=HK4.out.app ho hg (by simpa using hn)
     obtain ⟨mg,mc,rfl⟩:∃ mg mc,v' = .slice (some ⟨mg,0,none⟩) 1 mc:=by
      rcases ho.2 with ⟨_,h0⟩ | ⟨q,cap,cur,hv,_⟩
      ·cases h0
      ·exact ⟨q,cap,hv⟩
     have HK6:Hid (Kd w O (fun g=>O' g /\ g < (((w3.alloc (.cells #[.bool mt,.string bx,I J mp,I J mm] 183)).alloc (.cells #[I J 0,I J 0] 87)).alloc (.cells #[.bool mt,.string bx,I J mp,I J mm] 183)).heap.size) b s s' c1 (.slice (some ⟨mg,0,none⟩) 1 mc) 1 (mnL ⟨mt,mx,mp,mm⟩) w5):=HK5
     clear ho hg hn HK4 HNw HK5
     go_wp2
     go_roundw
     case rel=>exact .inr ⟨rfl,mg,mc,rfl,c1,_,_,s',rfl,HK6.out⟩
     case measure=>simp [intOf]
  ·obtain ⟨c1,m,O',s',rfl,hK⟩:=HKe.out
   have HK:Hid (Kd w O O' b s s' c1 (.slice (some ⟨mg,0,none⟩) 1 mc) 1 (mnL m) wr):=hK
   have hmt:=HOk.out c1 m rfl
   clear HKe hK HX HOk HC
   go_wp2
   go_loopw [11,12,39] (fun _ _ iv wr=>(iv = I J 0 \/ iv = I J 1) /\ Hid (Kd w O O' b s s' c1 (.slice (some ⟨mg,0,none⟩) 1 mc) 1 (mnL m) wr)) (fun _ _ i _=>1 - (intOf i).toNat)
   case atStart=>exact ⟨.inl rfl,HK.out⟩
   case round=>
    clear HK
    obtain ⟨hi2,HK⟩:=hrel
    have y0:wr.cell? ⟨mg,0,none⟩ = some (.bool m.isText):=by rw [HK.out.row.cellAt 0 (by omega)]; rfl
    have y1:wr.cell? ⟨mg,1,none⟩ = some (.string (bs m.text)):=by rw [HK.out.row.cellAt 1 (by omega)]; rfl
    have y2:wr.cell? ⟨mg,2,none⟩ = some (I J m.place):=by rw [HK.out.row.cellAt 2 (by omega)]; rfl
    have y3:wr.cell? ⟨mg,3,none⟩ = some (I J m.num):=by rw [HK.out.row.cellAt 3 (by omega)]; rfl
    have hml:mg < wr.heap.size:=World.block_lt_of_cell? wr _ y0
    rcases hi2 with rfl | rfl
    ·rw [hmt] at y0
     generalize bs m.text = bx at *
     go_wp2
     go_roundw
     case rel=>exact ⟨.inr rfl,HK.out.next ((Below.refl _ _).alloc (Nat.le_refl _) _)⟩
     case measure=>simp [intOf]
    ·have q0:=HK.out.res.cell (i:=0) rfl
     have q1:=HK.out.res.cell (i:=1) rfl
     have qf:=fun i=>HK.out.res.fz i
     have hmw:mg ≠ w.heap.size:=by have:=(HK.out.row.lt mg rfl).1; omega
     have HY:Hid (∀ x1 x2:Value,((wr.setCell ⟨w.heap.size,0,none⟩ x1).setCell ⟨w.heap.size,1,none⟩ x2).cell? ⟨mg,0,none⟩ = some (.bool m.isText) /\ ((wr.setCell ⟨w.heap.size,0,none⟩ x1).setCell ⟨w.heap.size,1,none⟩ x2).cell? ⟨mg,1,none⟩ = some (.string (bs m.text)) /\ ((wr.setCell ⟨w.heap.size,0,none⟩ x1).setCell ⟨w.heap.size,1,none⟩ x2).cell? ⟨mg,2,none⟩ = some (I J m.place) /\ ((wr.setCell ⟨w.heap.size,0,none⟩ x1).setCell ⟨w.heap.size,1,none⟩ x2).cell? ⟨mg,3,none⟩ = some (I J m.num)):=fun x1 x2=>by
      have he:∀ i,((wr.setCell ⟨w.heap.size,0,none⟩ x1).setCell ⟨w.heap.size,1,none⟩ x2).cell? ⟨mg,i,none⟩ = wr.cell? ⟨mg,i,none⟩:=fun i=>World.cell?_of_block (w:=wr) (a:=⟨mg,i,none⟩) (heap_other (heap_other rfl hmw) hmw)
      rw [he,he,he,he]
      exact ⟨y0,y1,y2,y3⟩
     clear y0 y1 y2 y3 hml
     go_wp2
     refine bodyPost_ret (v:=.tuple #[.slice (some ⟨mg,0,none⟩) 1 mc,.agg #[I J 0,I J 0]]) ?_ rfl ?_
     ·simp only [results,hres]
      go_simp
     ·exact ⟨mg,mc,O',s',rfl,(HK.out.fr.setCell (.inr (Nat.le_refl _)) _ _).setCell (.inr (Nat.le_refl _)) _ _,HK.out.sv,HK.out.new,ck_set (ck_set HK.out.ck HK.out.res.off _ _) HK.out.res.off _ _,HY.out _ _⟩
def negR (c:Ck) (h h1:Hd):Er (Ck × Mn):=
 match layB c ⟨1,h1.num,0,0⟩ h1.pl with
 | .error f=>.error f
 | .ok (c1,m)=>layB c1 ⟨2,0,m.place,0⟩ h.pl
theorem compN_calls {B:Nat} {O:Nat -> Prop} {b:Nat} {s:Sl} {c:Ck} (h:Hd) (b0 o0:Nat) (h1:Hd) (ka:Option Addr) (kc:Nat) (w:World) (hck:CkAt O b s c w) (hok:CkOk c) (hlow:∀ g,O g -> B <= g) (hF:FoAt false (fun g=>g < B) w (.node b0 o0 h1 .nil .nil) ka 1) (hk4:h.kind = 4) (hk1:h1.kind = 1) :
 Calls Tryz.prog 154 #[.pointer (some ⟨b,0,none⟩),exV h ka 1 kc] w (XPost O b s w (negR c h h1)):=by
 have hres:Tryz.f154.results = #[.cell 4 183,.cell 5 87]:=by kernel_rfl
 have hA:=CA.start hck hok h ka 1 kc
 have hFA:=foAt_keep (fun g hg hgB=>hA.fr.block g hg (fun ho=>by have:=hlow g ho; omega)) hF
 have HKk:=kids1_calls b0 o0 h1 ka kc _ hA.ck hA.ok (fun g hg=>hlow g hg.1) hFA hk1
 have HA:Hid (CA w O (fun g=>O g /\ g < w.heap.size) b s s c h ka 1 kc (((w.alloc (.cells #[I J h.kind,I J h.num,.string (bs h.text),.slice ka 1 kc,I J h.pl] 173)).alloc (.cells #[.bool false,.string ⟨#[]⟩,I J 0,I J 0] 183)).alloc (.cells #[I J 0,I J 0] 87))):=hA
 have x3:(((w.alloc (.cells #[I J h.kind,I J h.num,.string (bs h.text),.slice ka 1 kc,I J h.pl] 173)).alloc (.cells #[.bool false,.string ⟨#[]⟩,I J 0,I J 0] 183)).alloc (.cells #[I J 0,I J 0] 87)).cell? ⟨w.heap.size,3,none⟩ = some (.slice ka 1 kc):=hA.box.cell rfl
 have HD:Hid (∀ c' m,layB c ⟨1,h1.num,0,0⟩ h1.pl = .ok (c',m) -> CkOk c' /\ DfIn ⟨2,0,m.place,0⟩ c'.values.length):=fun c' m he=>by
  obtain ⟨q1,q2,q3,-⟩:=layB_ok hok he
  exact ⟨q1,⟨by unfold InR; simp,fun _ _=>q2.place q3,fun h3 _=>by simp at h3⟩⟩
 have kk:(h.kind == 4) = true:=by rw [beq_iff_eq]; exact hk4
 unfold exV
 clear hA hFA hck hok hlow hF hk4 hk1
 go_enter Tryz.func154,Tryz.ntmps154
 go_upto_region 1 with (fail)
 generalize (((w.alloc (.cells #[I J h.kind,I J h.num,.string (bs h.text),.slice ka 1 kc,I J h.pl] 173)).alloc (.cells #[.bool false,.string ⟨#[]⟩,I J 0,I J 0] 183)).alloc (.cells #[I J 0,I J 0] 87)) = w1 at *
 cases hl:layB c ⟨1,h1.num,0,0⟩ h1.pl with
 | error f=>
   rw [hl] at HKk
   obtain ⟨f1,f2⟩:=f
   have HN:Hid (negR c h h1 = .error (f1,f2)):=by show _ = _; unfold negR; rw [hl]
   go_wp2_with fail
   refine HKk.mono ?_
   rintro e w2 ⟨hf,rfl,hfr⟩
   unfold flV
   simp only
   have HR:Hid (Lc (fun g=>O g /\ g < w.heap.size) (w2.alloc (.cells #[I J f1,I J f2] 87)) (w.heap.size + 1) (mnL mn0) 183 /\ Lc (fun g=>O g /\ g < w.heap.size) (w2.alloc (.cells #[I J f1,I J f2] 87)) (w.heap.size + 1 + 1) (flL (0,0)) 87 /\ Fr O w (w2.alloc (.cells #[I J f1,I J f2] 87)) /\ f1 ≠ 0):=⟨(HA.out.r1.fr hfr (fun _ h=>.inl h)).alloc _,(HA.out.r2.fr hfr (fun _ h=>.inl h)).alloc _,(HA.out.fr.trans hfr HA.out.new).alloc _,hf⟩
   have kf:(f1 != 0) = true:=by simpa using hf
   have r0:=HR.out.1.cell (i:=0) rfl
   have r1:=HR.out.1.cell (i:=1) rfl
   have r2:=HR.out.1.cell (i:=2) rfl
   have r3:=HR.out.1.cell (i:=3) rfl
   have rf:=fun i=>HR.out.1.fz i
   have q0:=HR.out.2.1.cell (i:=0) rfl
   have q1:=HR.out.2.1.cell (i:=1) rfl
   have qf:=fun i=>HR.out.2.1.fz i
   have hl1:w.heap.size + 1 + 1 < w2.heap.size:=(HA.out.r2.fr hfr (fun _ h=>.inl h):Lc (fun g=>O g /\ g < w.heap.size) w2 _ _ _).lt
   clear hf hfr HA x3 HD hl HKk
   generalize negR c h h1 = RN at *
   go_wp2_with fail
   go_region
   all_goals (
    go_wp2
    refine bodyPost_ret (v:=.tuple #[mnV mn0,flV (f1,f2)]) ?_ rfl ?_
    ·simp only [results,hres]
     go_simp
     exact ⟨rfl,rfl⟩
    ·rw [HN.out]
     exact ⟨HR.out.2.2.2,rfl,(fr_res HR.out.2.2.1 _ _ _ _ _ _).then_below (Below.refl _ _).drew⟩)
 | ok x=>
   obtain ⟨c1,m⟩:=x
   rw [hl] at HKk
   obtain ⟨hok1,hdf⟩:=HD.out c1 m hl
   have HN:Hid (negR c h h1 = layB c1 ⟨2,0,m.place,0⟩ h.pl):=by show _ = _; unfold negR; rw [hl]
   go_wp2_with fail
   refine HKk.mono ?_
   rintro e w2 ⟨mg,mc,O',s',rfl,hfr,hs,hO,hck,y0,y1,y2,y3⟩
   have hA2:=(HA.out.go hfr hO hs hck hok1).next (((Below.refl _ _).alloc (Nat.le_refl _) (.cells #[I J 0,I J 0] 87)).alloc (by simp) (.cells #[.bool m.isText,.string (bs m.text),I J m.place,I J m.num] 183))
   have HL:=hA2.any (lay_calls _ hA2.ck hA2.ok ⟨2,0,m.place,0⟩ hdf h.pl)
   have x0:((w2.alloc (.cells #[I J 0,I J 0] 87)).alloc (.cells #[.bool m.isText,.string (bs m.text),I J m.place,I J m.num] 183)).cell? ⟨w.heap.size,0,none⟩ = some (I J h.kind):=hA2.box.cell rfl
   have x4:((w2.alloc (.cells #[I J 0,I J 0] 87)).alloc (.cells #[.bool m.isText,.string (bs m.text),I J m.place,I J m.num] 183)).cell? ⟨w.heap.size,4,none⟩ = some (I J h.pl):=hA2.box.cell rfl
   have hml:mg < w2.heap.size:=World.block_lt_of_cell? w2 _ y0
   unfold dfV at HL
   rw [<- HN.out] at HL
   generalize negR c h h1 = RN at *
   unfold flV
   simp only
   clear HN hA2 hfr hs hO hck hdf hok1 hl HD HA x3 HKk
   obtain ⟨bx,hbx⟩:∃ bx,bx = bs m.text:=⟨_,rfl⟩
   rw [<- hbx] at HL y1 x0 x4
   clear hbx
   go_wp2_with fail
   refine HL.mono ?_
   rintro e w3 ⟨mt,mx,mp,mm,f1,f2,rfl,HB⟩
   clear HL x0 x4 y0 y1 y2 y3
   have r0:w3.cell? ⟨w.heap.size + 1,0,none⟩ = some (.bool false):=HB.out.1.cell rfl
   have r1:w3.cell? ⟨w.heap.size + 1,1,none⟩ = some (.string ⟨#[]⟩):=HB.out.1.cell rfl
   have r2:w3.cell? ⟨w.heap.size + 1,2,none⟩ = some (I J 0):=HB.out.1.cell rfl
   have r3:w3.cell? ⟨w.heap.size + 1,3,none⟩ = some (I J 0):=HB.out.1.cell rfl
   have q0:w3.cell? ⟨w.heap.size + 1 + 1,0,none⟩ = some (I J 0):=HB.out.2.1.cell rfl
   have q1:w3.cell? ⟨w.heap.size + 1 + 1,1,none⟩ = some (I J 0):=HB.out.2.1.cell rfl
   have rf:∀ i,w3.frozen? ⟨w.heap.size + 1,i,none⟩ = false:=fun i=>HB.out.1.fz i
   have qf:∀ i,w3.frozen? ⟨w.heap.size + 1 + 1,i,none⟩ = false:=fun i=>HB.out.2.1.fz i
   go_wp2
   refine bodyPost_ret (v:=.tuple #[.agg #[.bool mt,.string mx,I J mp,I J mm],.agg #[I J f1,I J f2]]) ?_ rfl ?_
   ·simp only [results,hres]
    go_simp
   ·exact HB.out.2.2 _ _ _ _ _ _
theorem askF_one {b0 o0:Nat} {h1:Hd} {c:Ck} (hk:h1.kind = 1):askF (.node b0 o0 h1 .nil .nil) c = match layB c ⟨1,h1.num,0,0⟩ h1.pl with
 | .error f=>.error f
 | .ok (c1,m)=>.ok (c1,[m]):=by
 simp only [askF,exprC,if_pos hk]
 cases layB c ⟨1,h1.num,0,0⟩ h1.pl with
 | error f=>rfl
 | ok x=>rfl
theorem neg_eq {b0 o0:Nat} {h h1:Hd} {c:Ck} (hok:CkOk c) (h4:h.kind = 4) (hk:h1.kind = 1):exprC c h (.node b0 o0 h1 .nil .nil) (askF (.node b0 o0 h1 .nil .nil) c) = negR c h h1:=by
 unfold exprC negR
 rw [if_neg (by omega),if_neg (by omega),if_neg (by omega),askF_one hk]
 cases hl:layB c ⟨1,h1.num,0,0⟩ h1.pl with
 | error f=>rfl
 | ok x=>
   obtain ⟨c1,m⟩:=x
   have ht:=(layB_ok hok hl).2.2.1
   simp [compB,txtAt,ht,h4]
theorem ex_neg {B:Nat} {O:Nat -> Prop} {b:Nat} {s:Sl} {c:Ck} (h:Hd) (b0 o0:Nat) (h1:Hd) (ka:Option Addr) (kc:Nat) (w:World) (hck:CkAt O b s c w) (hok:CkOk c) (hlow:∀ g,O g -> B <= g) (hF:FoAt false (fun g=>g < B) w (.node b0 o0 h1 .nil .nil) ka 1) (hk4:h.kind = 4) (hk1:h1.kind = 1) :
 Calls Tryz.prog 130 #[.pointer (some ⟨b,0,none⟩),exV h ka 1 kc] w (XPost O b s w (negR c h h1)):=by
 have hres:Tryz.f130.results = #[.cell 4 183,.cell 5 87]:=by kernel_rfl
 have hA:=CA.start hck hok h ka 1 kc
 have hFA:=foAt_keep (fun g hg hgB=>hA.fr.block g hg (fun ho=>by have:=hlow g ho; omega)) hF
 have HL:=hA.any (compN_calls h b0 o0 h1 ka kc _ hA.ck hA.ok (fun g hg=>hlow g hg.1) hFA hk4 hk1)
 have x0:(((w.alloc (.cells #[I J h.kind,I J h.num,.string (bs h.text),.slice ka 1 kc,I J h.pl] 173)).alloc (.cells #[.bool false,.string ⟨#[]⟩,I J 0,I J 0] 183)).alloc (.cells #[I J 0,I J 0] 87)).cell? ⟨w.heap.size,0,none⟩ = some (I J h.kind):=hA.box.cell rfl
 have x1:(((w.alloc (.cells #[I J h.kind,I J h.num,.string (bs h.text),.slice ka 1 kc,I J h.pl] 173)).alloc (.cells #[.bool false,.string ⟨#[]⟩,I J 0,I J 0] 183)).alloc (.cells #[I J 0,I J 0] 87)).cell? ⟨w.heap.size,1,none⟩ = some (I J h.num):=hA.box.cell rfl
 have x2:(((w.alloc (.cells #[I J h.kind,I J h.num,.string (bs h.text),.slice ka 1 kc,I J h.pl] 173)).alloc (.cells #[.bool false,.string ⟨#[]⟩,I J 0,I J 0] 183)).alloc (.cells #[I J 0,I J 0] 87)).cell? ⟨w.heap.size,2,none⟩ = some (.string (bs h.text)):=hA.box.cell rfl
 have x3:(((w.alloc (.cells #[I J h.kind,I J h.num,.string (bs h.text),.slice ka 1 kc,I J h.pl] 173)).alloc (.cells #[.bool false,.string ⟨#[]⟩,I J 0,I J 0] 183)).alloc (.cells #[I J 0,I J 0] 87)).cell? ⟨w.heap.size,3,none⟩ = some (.slice ka 1 kc):=hA.box.cell rfl
 have x4:(((w.alloc (.cells #[I J h.kind,I J h.num,.string (bs h.text),.slice ka 1 kc,I J h.pl] 173)).alloc (.cells #[.bool false,.string ⟨#[]⟩,I J 0,I J 0] 183)).alloc (.cells #[I J 0,I J 0] 87)).cell? ⟨w.heap.size,4,none⟩ = some (I J h.pl):=hA.box.cell rfl
 have q1':(h.kind == 1) = false:=by rw [beq_eq_false_iff_ne]; omega
 have q2':(h.kind == 2) = false:=by rw [beq_eq_false_iff_ne]; omega
 have q3':(h.kind == 3) = false:=by rw [beq_eq_false_iff_ne]; omega
 unfold exV at HL ⊢
 clear hA hFA hck hok hlow hF hk4 hk1
 go_enter Tryz.func130,Tryz.ntmps130
 go_upto_region 1 with (fail)
 generalize (((w.alloc (.cells #[I J h.kind,I J h.num,.string (bs h.text),.slice ka 1 kc,I J h.pl] 173)).alloc (.cells #[.bool false,.string ⟨#[]⟩,I J 0,I J 0] 183)).alloc (.cells #[I J 0,I J 0] 87)) = w1 at *
 generalize bs h.text = bx at *
 generalize h.kind = kd at *
 go_wp2_with fail
 refine HL.mono ?_
 rintro e w3 ⟨mt,mx,mp,mm,f1,f2,rfl,HB⟩
 clear HL x0 x1 x2 x3 x4
 have r0:w3.cell? ⟨w.heap.size + 1,0,none⟩ = some (.bool false):=HB.out.1.cell rfl
 have r1:w3.cell? ⟨w.heap.size + 1,1,none⟩ = some (.string ⟨#[]⟩):=HB.out.1.cell rfl
 have r2:w3.cell? ⟨w.heap.size + 1,2,none⟩ = some (I J 0):=HB.out.1.cell rfl
 have r3:w3.cell? ⟨w.heap.size + 1,3,none⟩ = some (I J 0):=HB.out.1.cell rfl
 have q0:w3.cell? ⟨w.heap.size + 1 + 1,0,none⟩ = some (I J 0):=HB.out.2.1.cell rfl
 have q1:w3.cell? ⟨w.heap.size + 1 + 1,1,none⟩ = some (I J 0):=HB.out.2.1.cell rfl
 have rf:∀ i,w3.frozen? ⟨w.heap.size + 1,i,none⟩ = false:=fun i=>HB.out.1.fz i
 have qf:∀ i,w3.frozen? ⟨w.heap.size + 1 + 1,i,none⟩ = false:=fun i=>HB.out.2.1.fz i
 go_wp2
 refine bodyPost_ret (v:=.tuple #[.agg #[.bool mt,.string mx,I J mp,I J mm],.agg #[I J f1,I J f2]]) ?_ rfl ?_
 ·simp only [results,hres]
  go_simp
 ·exact HB.out.2.2 _ _ _ _ _ _
theorem exprC_calls {B:Nat} {O:Nat -> Prop} {b:Nat} {s:Sl} {c:Ck} (h:Hd) (k:Fo) (ka:Option Addr) (kn kc:Nat) (w:World) (hck:CkAt O b s c w) (hok:CkOk c) (hlow:∀ g,O g -> B <= g) (_:B <= w.heap.size)
 (hE:ExAt false (fun g=>g < B) w (h,k) ka kn) (hr:okE h k):Calls Tryz.prog 130 #[.pointer (some ⟨b,0,none⟩),exV h ka kn kc] w (XPost O b s w (askE c (h,k))):=by
 have hA:=CA.start hck hok h ka kn kc
 show Calls _ _ _ _ (XPost O b s w (exprC c h k (askF k c)))
 rcases hr.2.2 with h1 | h3 | ⟨h4,ho⟩
 ·unfold exprC
  rw [if_pos h1]; exact ex_num h ka kn kc w h1 hE.hd.num hA
 ·unfold exprC
  rw [if_neg (by omega),if_pos h3]; exact ex_text h ka kn kc w h3 hA
 ·match k,ho,hE with
  | .node b0 o0 h1 .nil .nil,ho,hE=>
    have hk:h1.kind = 1:=by simpa [oneN] using ho
    have hn:kn = 1:=foAt_len hE.kids
    subst hn
    rw [neg_eq hok h4 hk]
    exact ex_neg h b0 o0 h1 ka kc w hck hok hlow hE.kids h4 hk
set_option maxRecDepth 20000
set_option maxHeartbeats 4000000
theorem numQ_calls (least:Int) (m:Mn) (g:Nat) (w:World) (hg:w.cell? ⟨g,0,none⟩ = some (I J least)) :
 Calls Tryz.prog 158 #[mnV m,.pointer (some ⟨g,0,none⟩)] w fun e w'=>e = .returned (I J (numFrom least m)) /\ Below w.heap.size w w':=by
 have hlt:=World.block_lt_of_cell? w _ hg
 unfold mnV numFrom
 obtain ⟨mt,mx,mp,mn⟩:=m
 simp only
 have HB:Hid (∀ o,Below w.heap.size w (w.alloc o)):=fun o=>(Below.refl _ _).alloc (Nat.le_refl _) o
 have hlt':g < w.heap.size:=hlt
 clear hlt
 generalize bs mx = bx at *
 cases mt with
 | true=>
   go_enter Tryz.func158,Tryz.ntmps158
   go_wp2
   go_ret
   exact ⟨rfl,HB.out _⟩
 | false=>
   by_cases hl:mn < least
   ·have hd:decide (mn < least) = true:=by simpa using hl
    rw [if_neg (by simp),if_pos hl]
    clear hl
    go_enter Tryz.func158,Tryz.ntmps158
    go_wp2
    go_ret
    exact ⟨rfl,HB.out _⟩
   ·have hd:decide (mn < least) = false:=by simpa using hl
    rw [if_neg (by simp),if_neg hl]
    clear hl
    go_enter Tryz.func158,Tryz.ntmps158
    go_wp2
    go_ret
    exact ⟨rfl,HB.out _⟩
theorem numberFrom_calls (least:Int) (w:World):Calls Tryz.prog 137 #[I J least] w fun e w'=>e = .returned (.func (.func 158) #[] #[.pointer (some ⟨w.heap.size,0,none⟩)]) /\ w' = w.alloc (.cells #[I J least] 3):=by
 go_enter Tryz.func137,Tryz.ntmps137
 go_wp2
 go_ret
 exact ⟨rfl,rfl⟩
theorem textOf_calls (F:Nat) (first caps:Array Value) (w:World):Calls Tryz.prog 132 #[.func (.func F) first caps] w fun e w'=>e = .returned (.func (.func 155) #[] #[.pointer (some ⟨w.heap.size,0,none⟩)]) /\ w' = w.alloc (.cells #[.func (.func F) first caps] 186):=by
 go_enter Tryz.func132,Tryz.ntmps132
 go_wp2
 go_ret
 exact ⟨rfl,rfl⟩
theorem asked_126 {B:Nat} {O:Nat -> Prop} {b:Nat} {s:Sl} {c:Ck} (h:Hd) (k:Fo) (ka:Option Addr) (kn kc g:Nat) (q:Mn -> Int) (G:(Nat -> Prop) -> World -> Prop) (w:World) (hck:CkAt O b s c w) (hok:CkOk c) (hlow:∀ g,O g -> B <= g) (hB:B <= w.heap.size)
 (hE:ExAt false (fun g=>g < B) w (h,k) ka kn) (hr:okE h k) (hG:G O w) (hGf:∀ O O' W W',G O W -> Fr O W W' -> (∀ g,O' g -> O g \/ W.heap.size <= g) -> G O' W')
 (hQ:∀ O' s' c' m W,CkAt O' b s' c' W -> CkOk c' -> Sm c c' -> MnOk c'.values.length m -> G O' W -> Calls Tryz.prog 158 #[mnV m,.pointer (some ⟨g,0,none⟩)] W fun e w'=>e = .returned (I J (q m)) /\ Below W.heap.size W w') :
 Calls Tryz.prog 131 #[.pointer (some ⟨b,0,none⟩),exV h ka kn kc,.func (.func 158) #[] #[.pointer (some ⟨g,0,none⟩)]] w (XPost O b s w (askQ q c (h,k))):=by
 have hres:Tryz.f131.results = #[.cell 6 183,.cell 7 87]:=by kernel_rfl
 have hA:=CA.start hck hok h ka kn kc
 have hC:∀ W,CA w O (fun g=>O g /\ g < w.heap.size) b s s c h ka kn kc W -> Calls Tryz.prog 130 #[.pointer (some ⟨b,0,none⟩),exV h ka kn kc] W (XPost (fun g=>O g /\ g < w.heap.size) b s W (askE c (h,k))):=fun W hW=>
  exprC_calls h k ka kn kc W hW.ck hW.ok (fun g hg=>hlow g hg.1) (Nat.le_trans hB hW.fr.size) ⟨hE.hd,hE.few,foAt_keep (fun g hg hgB=>hW.fr.block g hg (fun ho=>by have:=hlow g ho; omega)) hE.kids⟩ hr
 have hG1:∀ W,CA w O (fun g=>O g /\ g < w.heap.size) b s s c h ka kn kc W -> G (fun g=>O g /\ g < w.heap.size) W:=fun W hW=>hGf _ _ w W hG hW.fr (fun g hg=>.inl hg.1)
 have hokE:∀ c' m,askE c (h,k) = .ok (c',m) -> CkOk c' /\ MnOk c'.values.length m /\ Sm c c':=fun c' m he=>askE_ok hok hr hE.hd.text (foAt_short hE.kids) he
 generalize hO1:(fun g=>O g /\ g < w.heap.size) = O1 at hA hC hG1
 clear hO1 hck hok hlow hB hE hr hG
 unfold exV at hC ⊢
 have HA:Hid (CA w O O1 b s s c h ka kn kc (((w.alloc (.cells #[I J h.kind,I J h.num,.string (bs h.text),.slice ka kn kc,I J h.pl] 173)).alloc (.cells #[.bool false,.string ⟨#[]⟩,I J 0,I J 0] 183)).alloc (.cells #[I J 0,I J 0] 87))):=hA
 clear hA
 go_enter Tryz.func131,Tryz.ntmps131
 go_upto_region 1 with (fail)
 generalize (((w.alloc (.cells #[I J h.kind,I J h.num,.string (bs h.text),.slice ka kn kc,I J h.pl] 173)).alloc (.cells #[.bool false,.string ⟨#[]⟩,I J 0,I J 0] 183)).alloc (.cells #[I J 0,I J 0] 87)) = w1 at *
 have x0:w1.cell? ⟨w.heap.size,0,none⟩ = some (I J h.kind):=HA.out.box.cell rfl
 have x1:w1.cell? ⟨w.heap.size,1,none⟩ = some (I J h.num):=HA.out.box.cell rfl
 have x2:w1.cell? ⟨w.heap.size,2,none⟩ = some (.string (bs h.text)):=HA.out.box.cell rfl
 have x3:w1.cell? ⟨w.heap.size,3,none⟩ = some (.slice ka kn kc):=HA.out.box.cell rfl
 have x4:w1.cell? ⟨w.heap.size,4,none⟩ = some (I J h.pl):=HA.out.box.cell rfl
 have HC0:=hC w1 HA.out
 have HG1:Hid (G O1 w1):=hG1 w1 HA.out
 have HGF:Hid (∀ O O' W W',G O W -> Fr O W W' -> (∀ g,O' g -> O g \/ W.heap.size <= g) -> G O' W'):=hGf
 have HQ:Hid (∀ O' s' c' m W,CkAt O' b s' c' W -> CkOk c' -> Sm c c' -> MnOk c'.values.length m -> G O' W -> Calls Tryz.prog 158 #[mnV m,.pointer (some ⟨g,0,none⟩)] W fun e w'=>e = .returned (I J (q m)) /\ Below W.heap.size W w'):=hQ
 have HOK:Hid (∀ c' m,askE c (h,k) = .ok (c',m) -> CkOk c' /\ MnOk c'.values.length m /\ Sm c c'):=hokE
 clear hC hG1 hGf hQ hokE
 cases hl:askE c (h,k) with
 | error f=>
   have HL:Hid (Calls Tryz.prog 130 #[.pointer (some ⟨b,0,none⟩),.agg #[I J h.kind,I J h.num,.string (bs h.text),.slice ka kn kc,I J h.pl]] w1 fun e w'=>f.1 ≠ 0 /\ e = .returned (.tuple #[.agg #[.bool false,.string ⟨#[]⟩,I J 0,I J 0],.agg #[I J f.1,I J f.2]]) /\ Hid (CE w O O1 w')):=by
    refine (calls_err HC0 hl).mono ?_
    rintro e w' ⟨h1,h2,h3⟩
    exact ⟨h1,h2,HA.out.fr.trans h3 HA.out.new,HA.out.r1.fr h3 (fun _ h=>.inl h),HA.out.r2.fr h3 (fun _ h=>.inl h)⟩
   have HX:Hid (askQ q c (h,k) = .error f):=by show _ = _; simp only [askQ,hl]
   clear hl HA HC0 HG1 HGF HQ HOK
   obtain ⟨f1,f2⟩:=f
   simp only at HL
   generalize bs h.text = tx at *
   go_wp2_with fail
   refine HL.out.mono ?_
   rintro e w3 ⟨hf,rfl,HB⟩
   have HF:Hid (f1 ≠ 0):=hf
   have hq:(f1 == 0) = false:=by rw [beq_eq_false_iff_ne]; exact hf
   clear hf HL x0 x1 x2 x3 x4
   have r0:w3.cell? ⟨w.heap.size + 1,0,none⟩ = some (.bool false):=HB.out.r1.cell rfl
   have r1:w3.cell? ⟨w.heap.size + 1,1,none⟩ = some (.string ⟨#[]⟩):=HB.out.r1.cell rfl
   have r2:w3.cell? ⟨w.heap.size + 1,2,none⟩ = some (I J 0):=HB.out.r1.cell rfl
   have r3:w3.cell? ⟨w.heap.size + 1,3,none⟩ = some (I J 0):=HB.out.r1.cell rfl
   have q0:w3.cell? ⟨w.heap.size + 1 + 1,0,none⟩ = some (I J 0):=HB.out.r2.cell rfl
   have q1:w3.cell? ⟨w.heap.size + 1 + 1,1,none⟩ = some (I J 0):=HB.out.r2.cell rfl
   have rf:∀ i,w3.frozen? ⟨w.heap.size + 1,i,none⟩ = false:=fun i=>HB.out.r1.fz i
   have qf:∀ i,w3.frozen? ⟨w.heap.size + 1 + 1,i,none⟩ = false:=fun i=>HB.out.r2.fz i
   have hl1:w.heap.size + 1 < w3.heap.size:=HB.out.r1.lt
   have hl2:w.heap.size + 1 + 1 < w3.heap.size:=HB.out.r2.lt
   have hl0:w.heap.size < w3.heap.size:=by omega
   have hn0:¬ w.heap.size = w3.heap.size:=by omega
   have hn1:¬ w.heap.size + 1 = w3.heap.size:=by omega
   have hn2:¬ w.heap.size + 1 + 1 = w3.heap.size:=by omega
   have hn3:¬ w.heap.size + 1 = w3.heap.size + 1:=by omega
   have hn4:¬ w.heap.size + 1 + 1 = w3.heap.size + 1:=by omega
   go_wp2_with fail
   go_region
   go_wp2
   refine bodyPost_ret (v:=.tuple #[mnV mn0,flV (f1,f2)]) ?_ rfl ?_
   ·simp only [results,hres]
    go_simp
    exact ⟨rfl,rfl⟩
   ·show XPost _ _ _ _ _ _ _
    rw [HX.out]
    exact ⟨HF.out,rfl,(((fr_res HB.out.fr _ _ _ _ _ _).alloc _).alloc _).drew⟩
 | ok x=>
   obtain ⟨c2,m2⟩:=x
   obtain ⟨k1,k2,k3⟩:=HOK.out c2 m2 hl
   have HL:Hid (Calls Tryz.prog 130 #[.pointer (some ⟨b,0,none⟩),.agg #[I J h.kind,I J h.num,.string (bs h.text),.slice ka kn kc,I J h.pl]] w1 fun e w'=>e = .returned (.tuple #[.agg #[.bool m2.isText,.string (bs m2.text),I J m2.place,I J m2.num],.agg #[I J 0,I J 0]]) /\ Hid (∃ O' s',CA w O O' b s s' c2 h ka kn kc w' /\ G O' w')):=by
    refine (calls_okm HC0 hl).mono ?_
    rintro e w' ⟨h1,h2,O',s',h3,h4,h5⟩
    exact ⟨h1,O',s',HA.out.go h2 h4 h3 h5 k1,HGF.out _ _ _ _ HG1.out h2 h4⟩
   have HX:Hid (askQ q c (h,k) = if q m2 = 0 then .ok (c2,m2) else .error (q m2,h.pl)):=by show _ = _; simp only [askQ,hl]
   have HQ2:Hid (∀ O' s' W,CA w O O' b s s' c2 h ka kn kc W -> G O' W -> Calls Tryz.prog 158 #[mnV m2,.pointer (some ⟨g,0,none⟩)] W fun e w'=>e = .returned (I J (q m2)) /\ Below W.heap.size W w'):=fun O' s' W hW hGW=>HQ.out O' s' c2 m2 W hW.ck k1 k3 k2 hGW
   clear hl HA HC0 HG1 HQ HOK k1 k2 k3
   obtain ⟨z,hz⟩:∃ z,z = q m2:=⟨_,rfl⟩
   rw [<- hz] at HX
   have HZ:Hid (z = q m2):=hz
   rw [<- hz] at HQ2
   clear hz HZ
   unfold mnV at HQ2
   obtain ⟨mt2,mx2,mp2,mn2⟩:=m2
   simp only at HL HQ2
   obtain ⟨bx2,hbx2⟩:∃ bx2,bx2 = bs mx2:=⟨_,rfl⟩
   rw [<- hbx2] at HL HQ2
   have HBY:Hid (bx2 = bs mx2):=hbx2
   clear hbx2
   generalize bs h.text = tx at x2 HL ⊢
   go_wp2_with fail
   refine HL.out.mono ?_
   rintro e w3 ⟨rfl,HB0⟩
   obtain ⟨O3,s3,hB3,hG3⟩:=HB0.out
   have HB:Hid (CA w O O3 b s s3 c2 h ka kn kc w3):=hB3
   have HQ3:Hid (∀ o o',Calls Tryz.prog 158 #[.agg #[.bool mt2,.string bx2,I J mp2,I J mn2],.pointer (some ⟨g,0,none⟩)] ((w3.alloc o).alloc o') fun e w'=>e = .returned (I J z) /\ Below ((w3.alloc o).alloc o').heap.size ((w3.alloc o).alloc o') w'):=fun o o'=>by
    have hb:Below w3.heap.size w3 ((w3.alloc o).alloc o'):=((Below.refl _ _).alloc (Nat.le_refl _) o).alloc (by simp) o'
    exact HQ2.out O3 s3 _ (hB3.next hb) (HGF.out O3 O3 w3 _ hG3 (Fr.of_below hb) (fun _ h=>.inl h))
   clear HL x0 x1 x2 x3 x4 HB0 hB3 hG3 HQ2 HGF
   go_wp2_with fail
   refine (HQ3.out _ _).mono ?_
   rintro e w4 ⟨rfl,hb4⟩
   have hnw:=heap_alloc_new w3 (.cells #[.bool mt2,.string bx2,I J mp2,I J mn2] 183)
   have HB4:Hid (CA w O O3 b s s3 c2 h ka kn kc w4 /\ w4.heap[w3.heap.size]? = some (.cells #[.bool mt2,.string bx2,I J mp2,I J mn2] 183 (0,0))):=by
    refine ⟨((HB.out.next ((Below.refl _ _).alloc (Nat.le_refl _) _)).next ((Below.refl _ _).alloc (Nat.le_refl _) _)).next hb4,?_⟩
    rw [hb4.block _ (by simp; omega)]
    exact heap_old hnw
   have hl3:w.heap.size + 1 + 1 < w3.heap.size:=HB.out.r2.lt
   clear hb4 HB HQ3 hnw
   have y0:w4.cell? ⟨w3.heap.size,0,none⟩ = some (.bool mt2):=blk HB4.out.2 rfl
   have y1:w4.cell? ⟨w3.heap.size,1,none⟩ = some (.string bx2):=blk HB4.out.2 rfl
   have y2:w4.cell? ⟨w3.heap.size,2,none⟩ = some (I J mp2):=blk HB4.out.2 rfl
   have y3:w4.cell? ⟨w3.heap.size,3,none⟩ = some (I J mn2):=blk HB4.out.2 rfl
   have x4:w4.cell? ⟨w.heap.size,4,none⟩ = some (I J h.pl):=HB4.out.1.box.cell rfl
   have r0:w4.cell? ⟨w.heap.size + 1,0,none⟩ = some (.bool false):=HB4.out.1.r1.cell rfl
   have r1:w4.cell? ⟨w.heap.size + 1,1,none⟩ = some (.string ⟨#[]⟩):=HB4.out.1.r1.cell rfl
   have r2:w4.cell? ⟨w.heap.size + 1,2,none⟩ = some (I J 0):=HB4.out.1.r1.cell rfl
   have r3:w4.cell? ⟨w.heap.size + 1,3,none⟩ = some (I J 0):=HB4.out.1.r1.cell rfl
   have q0:w4.cell? ⟨w.heap.size + 1 + 1,0,none⟩ = some (I J 0):=HB4.out.1.r2.cell rfl
   have q1:w4.cell? ⟨w.heap.size + 1 + 1,1,none⟩ = some (I J 0):=HB4.out.1.r2.cell rfl
   have rf:∀ i,w4.frozen? ⟨w.heap.size + 1,i,none⟩ = false:=fun i=>HB4.out.1.r1.fz i
   have qf:∀ i,w4.frozen? ⟨w.heap.size + 1 + 1,i,none⟩ = false:=fun i=>HB4.out.1.r2.fz i
   by_cases hz0:z = 0
   ·subst hz0
    rw [if_pos rfl] at HX
    go_wp2
    refine bodyPost_ret (v:=.tuple #[mnV ⟨mt2,mx2,mp2,mn2⟩,flV (0,0)]) ?_ rfl ?_
    ·simp only [results,hres]
     unfold mnV flV
     simp only
     rw [<- HBY.out]
     go_simp
    ·show XPost _ _ _ _ _ _ _
     rw [HX.out]
     have hd:=HB4.out.1.done (.bool mt2) (.string bx2) (I J mp2) (I J mn2) (I J 0) (I J 0)
     exact ⟨rfl,hd.1,O3,s3,HB4.out.1.sv,HB4.out.1.new,hd.2⟩
   ·have hq:(z == 0) = false:=by rw [beq_eq_false_iff_ne]; exact hz0
    rw [if_neg hz0] at HX
    have HZ:Hid (z ≠ 0):=hz0
    clear hz0
    have hw0:¬ w.heap.size = w.heap.size + 1:=by omega
    have hw1:¬ w.heap.size = w.heap.size + 1 + 1:=by omega
    generalize hpl:h.pl = pl at *
    have HS1:Hid (∀ (W:World) (i:Nat) (u:Value),W.cell? ⟨w.heap.size,4,none⟩ = some (I J pl) -> (W.setCell ⟨w.heap.size + 1,i,none⟩ u).cell? ⟨w.heap.size,4,none⟩ = some (I J pl)):=fun W i u hW=>by
     rw [World.cell?_of_block (w:=W) (a:=⟨w.heap.size,4,none⟩) (heap_other rfl hw0)]; exact hW
    have HS2:Hid (∀ (W:World) (i:Nat) (u:Value),W.cell? ⟨w.heap.size,4,none⟩ = some (I J pl) -> (W.setCell ⟨w.heap.size + 1 + 1,i,none⟩ u).cell? ⟨w.heap.size,4,none⟩ = some (I J pl)):=fun W i u hW=>by
     rw [World.cell?_of_block (w:=W) (a:=⟨w.heap.size,4,none⟩) (heap_other rfl hw1)]; exact hW
    have r6d:Hid (∀ W:World,W.cell? ⟨w.heap.size,4,none⟩ = some (I J pl) -> W.drew.cell? ⟨w.heap.size,4,none⟩ = some (I J pl)):=fun W h=>h
    go_wp2_with fail
    go_region_held3 (fun W=>W.cell? ⟨w.heap.size,4,none⟩ = some (I J pl)) (((try with_reducible refine r6d.out _ ?_); repeat (first | with_reducible exact x4 | with_reducible refine HS1.out _ _ _ ?_ | with_reducible refine HS2.out _ _ _ ?_))) (fail)
    rename_i hh
    clear hh HS1 HS2 r6d
    go_wp2
    refine bodyPost_ret (v:=.tuple #[mnV mn0,flV (z,pl)]) ?_ rfl ?_
    ·simp only [results,hres]
     go_simp
     exact ⟨rfl,rfl⟩
    ·show XPost _ _ _ _ _ _ _
     rw [HX.out]
     exact ⟨HZ.out,rfl,(fr_res HB4.out.1.fr _ _ _ _ _ _).drew⟩
end Go.Proofs.YtbbbnopganhebabGreat
