/-
  What lay leaves where there are too many: the checker stands as it was. And what follows.
-/
import Derived.BigRegion
import Derived.Test.YtbbbnopganhebabGreatG43
namespace Go.Proofs.YtbbbnopganhebabGreat
open Go.RowKit Go.Deep Go.Maps
open Go.Value renaming int->I
open Go.IntKind renaming i64->J
set_option maxRecDepth 20000
set_option maxHeartbeats 2000000
theorem LS.zeroOk {w W:World} {O0 O:Nat -> Prop} {b:Nat} {s0 s:Sl} {c c1:Ck} {m:Mn} {L:List Lo} (h:LS w O0 O b s0 s (some c) L W) (hl:zeroB c = .ok (c1,m)) :
 Calls Tryz.prog 100 #[.pointer (some ⟨b,0,none⟩),.agg #[I J 1,I J 0,I J 0,I J 0],I J c.pl] W fun e w'=>e = .returned (.tuple #[.agg #[.bool m.isText,.string (bs m.text),I J m.place,I J m.num],.agg #[I J 0,I J 0]]) /\ Hid (∃ O' s',LS w O0 O' b s0 s' (some c1) L w'):=by
 refine (h.zero c.pl rfl).mono ?_
 rintro e w' ⟨m',f',oc,O',s',rfl,hh⟩
 obtain ⟨h1,h2⟩:=hh.out
 rw [hl] at h1
 obtain ⟨rfl,rfl,rfl⟩:=h1
 exact ⟨rfl,O',s',h2⟩
/-- A store into a cell of the checker's block that is no row's. -/
theorem LS.putC {w W:World} {O0 O:Nat -> Prop} {b:Nat} {s0 s:Sl} {c c':Ck} {L:List Lo} (h:LS w O0 O b s0 s (some c) L W) {i:Nat} {u:Value} (hc:(ckCells c s).setIfInBounds i u = ckCells c' s) (h1:c'.defs = c.defs) (h2:c'.subst = c.subst) (h3:c'.pieces = c.pieces) (h4:c'.values = c.values) (h5:c'.names = c.names) (h6:c'.letters = c.letters) :
 LS w O0 O b s0 s (some c') L (W.setCell ⟨b,i,none⟩ u):=by
 obtain ⟨k1,k2,k3⟩:=h.ck c rfl
 refine ⟨fun c2 hc2=>?_,h.fr.setCell (h.new b k1.inB) i u,h.new,fun g hg=>by have:=h.tight g hg; simpa [World.setCell] using this,fun x hx=>⟨(h.loc x hx).1.other (fun e=>(h.loc x hx).1.off (by rw [e]; exact k1.inB)) i u,(h.loc x hx).2⟩,h.nd⟩
 cases hc2
 exact ⟨k1.put hc h1 h2 h3 h4 h5,⟨by rw [h4]; exact k2.vals,by rw [h1,h4]; exact k2.same,by rw [h4]; exact k2.few,by rw [h5,h4]; exact k2.names,by rw [h6,h2]; exact k2.alpha,by rw [h2]; exact k2.sub,by rw [h3]; exact k2.pcs⟩,k3⟩
theorem LS.done {w W:World} {O0 O:Nat -> Prop} {b:Nat} {s0 s:Sl} {c:Ck} {L:List Lo} (h:LS w O0 O b s0 s (some c) L W):TPost O0 b w (.ok c) (.returned (flV (0,0))) W:=
 ⟨rfl,h.fr,O,s,h.new,(h.ck c rfl).1⟩
def leastB (c:Ck):Er Ck:=
 match zeroB c with
 | .error f=>.error f
 | .ok (c2,m)=>.ok { c2 with least:=m.place }
def clipZ (c:Ck):Er Ck:=
 match zeroB c with
 | .error f=>.error f
 | .ok (c1,m)=>.ok { c1 with front:=m.place,back:=m.place }
def endZ (c:Ck):Er Ck:=
 match clipZ c with
 | .error f=>.error f
 | .ok c1=>leastB c1
theorem zeroB_keep {c c1:Ck} {m:Mn} (h:zeroB c = .ok (c1,m)):c1.had = c.had /\ c1.pl = c.pl:=by
 unfold zeroB layB at h
 split at h
 ·cases h
 ·split at h
  ·cases h
  ·cases h; exact ⟨rfl,rfl⟩
theorem end_ff {O:Nat -> Prop} {b:Nat} {s:Sl} {c:Ck} (w:World) (hck:CkAt O b s c w) (hok:CkOk c) (h2:c.had 2 = true) (h7:c.had 7 = true) (hne:c.letters ≠ []) (hf:-1 ∉ fillB c) (h9:c.had 9 = false) (h10:c.had 10 = false) (HE:Hid (∃ c',endZ { c with subst:=fillB c } = .ok c')) :
 Calls Tryz.prog 61 #[.pointer (some ⟨b,0,none⟩)] w (TPost O b w (endZ { c with subst:=fillB c })):=by
 have hres:Tryz.f61.results = #[.cell 2 87]:=by kernel_rfl
 have hS1:=LS.startE hck hok
 generalize hO1:(fun g=>O g /\ g < w.heap.size) = O1 at hS1
 have HS1:Hid (LS w O O1 b s s (some c) [(w.heap.size,flL (0,0),87)] (w.alloc (.cells #[I J 0,I J 0] 87))):=hS1
 have HSc:Hid (∀ W,LS w O O1 b s s (some c) [(w.heap.size,flL (0,0),87)] W -> Calls Tryz.prog 99 #[.pointer (some ⟨b,0,none⟩)] W fun e w'=>e = .returned (.bool true) /\ Hid (∃ O',LS w O O' b s s (some { c with subst:=fillB c }) [(w.heap.size,flL (0,0),87)] w')):=fun W hW=>by
  have:=hW.score hne
  rw [show decide (-1 ∉ fillB c) = true by simpa using hf] at this
  exact this
 clear hf hne
 clear hS1 hO1 hck hok
 go_enter Tryz.func61,Tryz.ntmps61
 go_upto_region 1 with (fail)
 generalize (w.alloc (.cells #[I J 0,I J 0] 87)) = w1 at *
 have d2:w1.cell? ⟨b,15,none⟩ = some (.bool true):=by have:=(HS1.out.ck _ rfl).1.had2; rw [h2] at this; exact this
 have d7:w1.cell? ⟨b,20,none⟩ = some (.bool true):=by have:=(HS1.out.ck _ rfl).1.had7; rw [h7] at this; exact this
 clear h2 h7
 go_upto_region 3 with (first
  | (go_at_call 99; refine (HSc.out _ HS1.out).mono ?_; rintro e w3 ⟨rfl,hs3⟩; obtain ⟨O3,hS3⟩:=hs3.out; have HS3:Hid (LS w O O3 b s s (some { c with subst:=fillB c }) [(w.heap.size,flL (0,0),87)] w3):=hS3; clear hs3 hS3))
 clear HS1 HSc d2 d7
 have e9:w3.cell? ⟨b,22,none⟩ = some (.bool false):=by have:=(HS3.out.ck _ rfl).1.had9; rw [show ({ c with subst:=fillB c }:Ck).had 9 = false from h9] at this; exact this
 clear h9
 have e24:w3.cell? ⟨b,24,none⟩ = some (I J c.pl):=(HS3.out.ck _ rfl).1.c24
 cases hl:zeroB { c with subst:=fillB c } with
 | error f=>
   obtain ⟨_,hz⟩:=HE.out
   unfold endZ clipZ at hz
   rw [hl] at hz
   cases hz
 | ok x=>
   obtain ⟨c1,m⟩:=x
   have HZ:Hid (Calls Tryz.prog 100 #[.pointer (some ⟨b,0,none⟩),.agg #[I J 1,I J 0,I J 0,I J 0],I J c.pl] w3 fun e w'=>e = .returned (.tuple #[.agg #[.bool m.isText,.string (bs m.text),I J m.place,I J m.num],.agg #[I J 0,I J 0]]) /\ Hid (∃ O' s',LS w O O' b s s' (some c1) [(w.heap.size,flL (0,0),87)] w')):=HS3.out.zeroOk hl
   have HX:Hid (clipZ { c with subst:=fillB c } = .ok { c1 with front:=m.place,back:=m.place }):=by show clipZ _ = _; unfold clipZ; rw [hl]
   have HKp:=zeroB_keep hl
   have HK:Hid (c1.had 10 = c.had 10 /\ c1.pl = c.pl):=⟨by rw [HKp.1],HKp.2⟩
   clear hl HS3 HKp
   have n0:((0:Int) != 0) = false:=rfl
   go_upto_region 5 with (first
    | (go_at_call 100; refine (HZ.out).mono ?_; rintro e w4 ⟨rfl,hs4⟩))
   obtain ⟨O4,s4,hS4⟩:=hs4.out
   have hS5:LS w O O4 b s s4 (some c1) ((w4.heap.size + 1,[I J 0,I J 0],87) :: (w4.heap.size,[.bool m.isText,.string (bs m.text),I J m.place,I J m.num],183) :: [(w.heap.size,flL (0,0),87)]) ((w4.alloc (.cells #[.bool m.isText,.string (bs m.text),I J m.place,I J m.num] 183)).alloc (.cells #[I J 0,I J 0] 87)):=(hS4.alloc [.bool m.isText,.string (bs m.text),I J m.place,I J m.num] 183).allocE [I J 0,I J 0] 87 rfl (by simp)
   clear hs4 hS4 HZ
   have HS5:Hid (LS w O O4 b s s4 (some c1) ((w4.heap.size + 1,[I J 0,I J 0],87) :: (w4.heap.size,[.bool m.isText,.string (bs m.text),I J m.place,I J m.num],183) :: [(w.heap.size,flL (0,0),87)]) ((w4.alloc (.cells #[.bool m.isText,.string (bs m.text),I J m.place,I J m.num] 183)).alloc (.cells #[I J 0,I J 0] 87))):=hS5
   clear hS5
   generalize (w4.alloc (.cells #[.bool m.isText,.string (bs m.text),I J m.place,I J m.num] 183)).alloc (.cells #[I J 0,I J 0] 87) = w5 at *
   generalize w4.heap.size = g5 at *
   have u0:w5.cell? ⟨g5 + 1,0,none⟩ = some (I J 0):=HS5.out.at (g:=g5 + 1) (cs:=[I J 0,I J 0]) (ty:=87) (by simp) rfl
   have y2:w5.drew.cell? ⟨g5,2,none⟩ = some (I J m.place):=HS5.out.at (g:=g5) (cs:=[.bool m.isText,.string (bs m.text),I J m.place,I J m.num]) (ty:=183) (by simp) rfl
   have b8:w5.drew.cell? ⟨b,8,none⟩ = some (I J c1.front):=(HS5.out.ck _ rfl).1.c8
   have b9:w5.drew.cell? ⟨b,9,none⟩ = some (I J c1.back):=(HS5.out.ck _ rfl).1.c9
   have bf:∀ i,w5.drew.frozen? ⟨b,i,none⟩ = false:=fun i=>(HS5.out.ck _ rfl).1.fz i
   have HS6:=HS5.out.putC (i:=8) (u:=I J m.place) (c':={ c1 with front:=m.place }) rfl rfl rfl rfl rfl rfl rfl
   have b9s:(w5.setCell ⟨b,8,none⟩ (I J m.place)).drew.cell? ⟨b,9,none⟩ = some (I J c1.back):=(HS6.ck _ rfl).1.c9
   have bfs:∀ i,(w5.setCell ⟨b,8,none⟩ (I J m.place)).drew.frozen? ⟨b,i,none⟩ = false:=fun i=>(HS6.ck _ rfl).1.fz i
   have HS7:Hid (LS w O O4 b s s4 (some { c1 with front:=m.place,back:=m.place }) ((g5 + 1,[I J 0,I J 0],87) :: (g5,[.bool m.isText,.string (bs m.text),I J m.place,I J m.num],183) :: [(w.heap.size,flL (0,0),87)]) ((w5.setCell ⟨b,8,none⟩ (I J m.place)).setCell ⟨b,9,none⟩ (I J m.place)).drew):=(HS6.putC (c':={ c1 with front:=m.place,back:=m.place }) rfl rfl rfl rfl rfl rfl rfl).drew
   have y2s:(w5.setCell ⟨b,8,none⟩ (I J m.place)).drew.cell? ⟨g5,2,none⟩ = some (I J m.place):=HS6.at (g:=g5) (cs:=[.bool m.isText,.string (bs m.text),I J m.place,I J m.num]) (ty:=183) (by simp) rfl
   clear HS6 b9
   generalize c1.front = fr0 at b8
   generalize c1.back = bk0 at b9s
   go_upto_region 7 with (fail)
   go_region
   clear HS5 u0 y2 b8 b9s bf bfs y2s
   generalize ((w5.setCell ⟨b,8,none⟩ (I J m.place)).setCell ⟨b,9,none⟩ (I J m.place)).drew = w7 at *
   have e10:w7.cell? ⟨b,23,none⟩ = some (.bool false):=by have:=(HS7.out.ck _ rfl).1.had10; rw [show ({ c1 with front:=m.place,back:=m.place }:Ck).had 10 = false from HK.out.1.trans h10] at this; exact this
   clear h10 HK
   have e24:w7.cell? ⟨b,24,none⟩ = some (I J c1.pl):=(HS7.out.ck _ rfl).1.c24
   cases hl:zeroB { c1 with front:=m.place,back:=m.place } with
   | error f=>
     obtain ⟨_,hz⟩:=HE.out
     unfold endZ at hz
     rw [HX.out] at hz
     simp only at hz
     unfold leastB at hz
     rw [hl] at hz
     cases hz
   | ok x=>
     obtain ⟨c5,m5⟩:=x
     have HZ:Hid (Calls Tryz.prog 100 #[.pointer (some ⟨b,0,none⟩),.agg #[I J 1,I J 0,I J 0,I J 0],I J c1.pl] w7 fun e w'=>e = .returned (.tuple #[.agg #[.bool m5.isText,.string (bs m5.text),I J m5.place,I J m5.num],.agg #[I J 0,I J 0]]) /\ Hid (∃ O' s',LS w O O' b s s' (some c5) ((g5 + 1,[I J 0,I J 0],87) :: (g5,[.bool m.isText,.string (bs m.text),I J m.place,I J m.num],183) :: [(w.heap.size,flL (0,0),87)]) w')):=HS7.out.zeroOk hl
     have HX5:Hid (endZ { c with subst:=fillB c } = .ok { c5 with least:=m5.place }):=by show endZ _ = _; unfold endZ; rw [HX.out]; show leastB _ = _; unfold leastB; rw [hl]
     clear hl HS7 HX
     go_upto_region 10 with (first
      | (go_at_call 100; refine (HZ.out).mono ?_; rintro e w8 ⟨rfl,hs8⟩))
     obtain ⟨O8,s8,hS8⟩:=hs8.out
     have hS9:LS w O O8 b s s8 (some c5) ((w8.heap.size + 1,[I J 0,I J 0],87) :: (w8.heap.size,[.bool m5.isText,.string (bs m5.text),I J m5.place,I J m5.num],183) :: ((g5 + 1,[I J 0,I J 0],87) :: (g5,[.bool m.isText,.string (bs m.text),I J m.place,I J m.num],183) :: [(w.heap.size,flL (0,0),87)])) ((w8.alloc (.cells #[.bool m5.isText,.string (bs m5.text),I J m5.place,I J m5.num] 183)).alloc (.cells #[I J 0,I J 0] 87)):=(hS8.alloc [.bool m5.isText,.string (bs m5.text),I J m5.place,I J m5.num] 183).allocE [I J 0,I J 0] 87 rfl (by simp)
     clear hs8 hS8 HZ
     have HS9:Hid (LS w O O8 b s s8 (some c5) ((w8.heap.size + 1,[I J 0,I J 0],87) :: (w8.heap.size,[.bool m5.isText,.string (bs m5.text),I J m5.place,I J m5.num],183) :: ((g5 + 1,[I J 0,I J 0],87) :: (g5,[.bool m.isText,.string (bs m.text),I J m.place,I J m.num],183) :: [(w.heap.size,flL (0,0),87)])) ((w8.alloc (.cells #[.bool m5.isText,.string (bs m5.text),I J m5.place,I J m5.num] 183)).alloc (.cells #[I J 0,I J 0] 87))):=hS9
     clear hS9
     generalize ((w8.alloc (.cells #[.bool m5.isText,.string (bs m5.text),I J m5.place,I J m5.num] 183)).alloc (.cells #[I J 0,I J 0] 87)) = w9 at *
     generalize w8.heap.size = g8 at *
     have y2:w9.cell? ⟨g8,2,none⟩ = some (I J m5.place):=HS9.out.at (g:=g8) (cs:=[.bool m5.isText,.string (bs m5.text),I J m5.place,I J m5.num]) (ty:=183) (by simp) rfl
     have b10:w9.cell? ⟨b,10,none⟩ = some (I J (c5:Ck).least):=(HS9.out.ck _ rfl).1.c10
     have bf:∀ i,w9.frozen? ⟨b,i,none⟩ = false:=fun i=>(HS9.out.ck _ rfl).1.fz i
     generalize (c5:Ck).least = l0 at b10
     go_upto_region 11 with (fail)
     have HS10:Hid (LS w O O8 b s s8 (some { c5 with least:=m5.place }) ((g8 + 1,[I J 0,I J 0],87) :: (g8,[.bool m5.isText,.string (bs m5.text),I J m5.place,I J m5.num],183) :: ((g5 + 1,[I J 0,I J 0],87) :: (g5,[.bool m.isText,.string (bs m.text),I J m.place,I J m.num],183) :: [(w.heap.size,flL (0,0),87)])) (w9.setCell ⟨b,10,none⟩ (I J m5.place))):=HS9.out.putC rfl rfl rfl rfl rfl rfl rfl
     clear HS9 y2 b10 bf
     generalize w9.setCell ⟨b,10,none⟩ (I J m5.place) = w10 at *
     have u0:w10.cell? ⟨g8 + 1,0,none⟩ = some (I J 0):=HS10.out.at (g:=g8 + 1) (cs:=[I J 0,I J 0]) (ty:=87) (by simp) rfl
     have u1:w10.cell? ⟨g8 + 1,1,none⟩ = some (I J 0):=HS10.out.at (g:=g8 + 1) (cs:=[I J 0,I J 0]) (ty:=87) (by simp) rfl
     have z0:w10.cell? ⟨w.heap.size,0,none⟩ = some (I J 0):=HS10.out.at (g:=w.heap.size) (cs:=flL (0,0)) (ty:=87) (by simp) rfl
     have z1:w10.cell? ⟨w.heap.size,1,none⟩ = some (I J 0):=HS10.out.at (g:=w.heap.size) (cs:=flL (0,0)) (ty:=87) (by simp) rfl
     have zf:∀ i,w10.frozen? ⟨w.heap.size,i,none⟩ = false:=fun i=>HS10.out.fz (g:=w.heap.size) (cs:=flL (0,0)) (ty:=87) (by simp) i
     go_wp2
     refine bodyPost_ret (v:=flV (0,0)) ?_ rfl ?_
     ·simp only [results,hres]
      unfold flV
      simp only
      go_simp
     ·show TPost _ _ _ _ _ _
      rw [HX5.out]
      exact (((HS10.out.sub (L':=[(w.heap.size,flL (0,0),87)]) (by simp) (by simp)).put 0 (I J 0)).put 1 (I J 0)).done
theorem end_calls {O:Nat -> Prop} {b:Nat} {s:Sl} {c c':Ck} (w:World) (hck:CkAt O b s c w) (hok:CkOk c) (hal:c.had 2 = true -> c.letters ≠ []) (he:endsB c = .ok c') (h9:c.had 9 = false) (h10:c.had 10 = false) :
 Calls Tryz.prog 61 #[.pointer (some ⟨b,0,none⟩)] w (TPost O b w (endsB c)):=by
 have h0:¬ (c.had 2 = false \/ c.had 7 = false \/ -1 ∈ fillB c):=fun h=>by unfold endsB at he; rw [if_pos h] at he; cases he
 have e:endsB c = endZ { c with subst:=fillB c }:=by
  unfold endsB endZ clipZ
  rw [if_neg h0,if_pos h9]
  cases hz:zeroB { c with subst:=fillB c } with
  | error f=>rfl
  | ok x=>
    obtain ⟨c1,m⟩:=x
    have hk:=(zeroB_keep hz).1
    have h10':c1.had 10 = false:=by rw [hk]; exact h10
    simp only [h10',if_true]
    rfl
 have h2:c.had 2 = true:=by cases h:c.had 2 <;> simp_all
 have h7:c.had 7 = true:=by cases h:c.had 7 <;> simp_all
 rw [e] at he ⊢
 exact end_ff w hck hok h2 h7 (hal h2) (fun h=>h0 (.inr (.inr h))) h9 h10 ⟨_,he⟩
structure CkB (n:Nat) (c:Ck):Prop where
 ok:CkOk c
 al:c.had 2 = true -> c.letters ≠ []
 nm:c.names.length <= n
theorem ck0_ok:CkB 0 ck0:=by
 refine ⟨⟨?_,rfl,by decide,?_,?_,by decide,by decide⟩,?_,Nat.le_refl _⟩
 ·intro v hv; simp [ck0] at hv
 ·intro s m h; simp [ck0,lookN] at h
 ·intro h; exact absurd rfl h
 ·intro h; simp [ck0] at h
theorem CkOk.at {c:Ck} (h:CkOk c) (p:Int) (hd:Nat -> Bool):CkOk { c with pl:=p,had:=hd }:=⟨h.vals,h.same,h.few,h.names,h.alpha,h.sub,h.pcs⟩
/-- The arguments of an item that is right. -/
structure ArgOk (e:Ex):Prop where
 ok:okE e.1 e.2
 text:e.1.text.length <= maxLen
 short:shortF e.2
theorem arg1_ok {F:Fo} {n:Nat} (hl:lenF F = n + 1) (hr:(rgtF 32 F && simF F) = true) (hs:shortF F):ArgOk (arg1 F):=by
 cases F with
 | nil=>simp [lenF] at hl
 | node b o h k r=>
   have:=(okF_node ⟨32,hr⟩).1
   exact ⟨this,hs.1,hs.2.1⟩
theorem arg2_ok {F:Fo} (hl:lenF F = 2) (hr:(rgtF 32 F && simF F) = true) (hs:shortF F):ArgOk (arg2 F):=by
 cases F with
 | nil=>simp [lenF] at hl
 | node b o h k r=>
   have h2:=(okF_node ⟨32,hr⟩).2
   obtain ⟨d,hd⟩:=h2
   cases r with
   | nil=>simp [lenF] at hl
   | node b2 o2 h2 k2 r2=>
     have:=(okF_node ⟨d,hd⟩).1
     exact ⟨this,hs.2.2.1,hs.2.2.2.1⟩
theorem askQ_good {q:Mn -> Int} {c c':Ck} {e:Ex} {m:Mn} (hok:CkOk c) (he:ArgOk e) (h:askQ q c e = .ok (c',m)):CkOk c' /\ MnOk c'.values.length m /\ Sm c c' /\ q m = 0:=
 askQ_ok (h:=e.1) (k:=e.2) hok he.ok he.text he.short h
theorem costsB_good {c c':Ck} {e1 e2:Ex} {p q:Int} (hok:CkOk c) (h1:ArgOk e1) (h2:ArgOk e2) (h:costsB c e1 e2 = .ok (c',p,q)):CkOk c' /\ Sm c c':=by
 unfold costsB at h
 split at h
 ·cases h
 ·rename_i c1 m1 ha
  split at h
  ·cases h
  ·rename_i c2 m2 hb
   cases h
   obtain ⟨a1,a2,a3,a4⟩:=askQ_good hok h1 ha
   obtain ⟨b1,b2,b3,b4⟩:=askQ_good a1 h2 hb
   exact ⟨b1,a3.trans b3⟩
theorem singleB_good {set:Ck -> Int -> Ck} {c c':Ck} {e:Ex} (hok:CkOk c) (he:ArgOk e) (h:singleB set c e = .ok c'):∃ c1 m,askQ (numFrom (-maxK)) c e = .ok (c1,m) /\ c' = set c1 m.place /\ CkOk c1 /\ Sm c c1:=by
 unfold singleB at h
 split at h
 ·cases h
 ·rename_i c1 m ha
  cases h
  obtain ⟨a1,a2,a3,a4⟩:=askQ_good hok he ha
  exact ⟨c1,m,ha,rfl,a1,a3⟩
theorem right_ne {l:List UInt8} (h:Al.rightB l = true):l ≠ []:=fun e=>by
 have:=right_few h
 rw [e] at this
 simp at this
/-- What is asked of the next: it may be, letters stand, so many names. -/
structure Nx (c c':Ck):Prop where
 ok:CkOk c'
 had:c'.had = c.had
 let_:c.letters ≠ [] -> c'.letters ≠ []
 nm:c'.names.length <= c.names.length + 1
theorem Nx.of {c c1 c':Ck} (hok:CkOk c') (hs:Sm c c1) (h1:c'.had = c1.had) (h2:c'.letters = c1.letters) (h3:c'.names = c1.names):Nx c c':=
 ⟨hok,by rw [h1,hs.had],fun h=>by rw [h2,hs.letters]; exact h,by rw [h3,hs.names]; omega⟩
theorem bodyB_good {c c':Ck} {i:It} (hok:CkOk c) (hsi:itSim i = true) (hs:shortF i.args) (h:bodyB c i = .ok c'):Nx c c' /\ (i.kind = 2 -> c'.letters ≠ []):=by
 unfold itSim at hsi
 simp only [Bool.and_eq_true,Bool.or_eq_true,decide_eq_true_eq] at hsi
 obtain ⟨hi,hsf,hk⟩:=hsi
 unfold bodyB at h
 unfold itRight at hi
 rw [if_neg (by omega)] at h hi
 by_cases k7:i.kind = 7
 ·rw [k7] at h
  simp only [show ¬ (7:Int) = 2 by decide,show ¬ (7:Int) = 5 by decide,show ¬ (7:Int) = 6 by decide,if_false,if_true] at h
  cases h
  exact ⟨⟨⟨hok.vals,hok.same,hok.few,hok.names,hok.alpha,hok.sub,hok.pcs⟩,rfl,fun h=>h,by simp⟩,fun h2=>by omega⟩
 rw [if_neg k7] at hi
 by_cases kA:i.kind = 2 \/ i.kind = 3 \/ i.kind = 4 \/ i.kind = 10
 ·rw [if_pos kA] at hi
  simp only [Bool.and_eq_true,decide_eq_true_eq] at hi
  have ha:=arg1_ok (n:=0) hi.2.1 (by rw [hi.2.2,hsf]; rfl) hs
  rcases kA with k | k | k | k
  ·rw [if_pos k] at h
   unfold alphabetB at h
   split at h
   ·cases h
   ·rename_i c1 m hm
    cases h
    obtain ⟨a1,a2,a3,a4⟩:=askQ_good hok ha hm
    have hr:=(askQ_text hm).2
    have hf:=right_few hr
    have hne:=right_ne hr
    refine ⟨⟨⟨a1.vals,a1.same,a1.few,a1.names,fun _=>⟨hr,by simp⟩,?_,a1.pcs⟩,a3.had,fun _=>hne,by simp [a3.names]⟩,fun _=>hne⟩
    show (List.replicate (m.text.length * m.text.length) (-1:Int)).length <= 400
    rw [List.length_replicate]
    have:=Nat.mul_le_mul hf.2 hf.2
    omega
  ·rw [k] at h
   simp only [show ¬ (3:Int) = 2 by decide,show ¬ (3:Int) = 5 by decide,show ¬ (3:Int) = 6 by decide,show ¬ (3:Int) = 7 by decide,show ¬ (3:Int) = 8 by decide,show ¬ (3:Int) = 9 by decide,if_false,if_true] at h
   obtain ⟨c1,m,_,rfl,a1,a3⟩:=singleB_good hok ha h
   exact ⟨.of ⟨a1.vals,a1.same,a1.few,a1.names,a1.alpha,a1.sub,a1.pcs⟩ a3 rfl rfl rfl,fun h2=>by omega⟩
  ·rw [k] at h
   simp only [show ¬ (4:Int) = 2 by decide,show ¬ (4:Int) = 5 by decide,show ¬ (4:Int) = 6 by decide,show ¬ (4:Int) = 7 by decide,show ¬ (4:Int) = 8 by decide,show ¬ (4:Int) = 9 by decide,show ¬ (4:Int) = 3 by decide,if_false,if_true] at h
   obtain ⟨c1,m,_,rfl,a1,a3⟩:=singleB_good hok ha h
   exact ⟨.of ⟨a1.vals,a1.same,a1.few,a1.names,a1.alpha,a1.sub,a1.pcs⟩ a3 rfl rfl rfl,fun h2=>by omega⟩
  ·omega
 rw [if_neg kA] at hi
 have k:i.kind = 6:=by omega
 rw [if_pos (by omega)] at hi
 simp only [Bool.and_eq_true,decide_eq_true_eq] at hi
 have ha:=arg1_ok (n:=1) hi.2.1 (by rw [hi.2.2,hsf]; rfl) hs
 have hb:=arg2_ok hi.2.1 (by rw [hi.2.2,hsf]; rfl) hs
 rw [k] at h
 simp only [show ¬ (6:Int) = 2 by decide,show ¬ (6:Int) = 5 by decide,if_false,if_true] at h
 unfold gapB at h
 split at h
 ·cases h
 ·rename_i hp
  split at h
  ·cases h
  ·rename_i c1 p q hm
   cases h
   obtain ⟨a1,a3⟩:=costsB_good hok ha hb hm
   refine ⟨.of ⟨a1.vals,a1.same,a1.few,a1.names,a1.alpha,a1.sub,?_⟩ a3 rfl rfl rfl,fun h2=>by omega⟩
   have e:c1.pieces = c.pieces:=by rw [a3.rest]
   have:=hok.pcs
   show (c1.pieces ++ [(p,q)]).length <= 4
   rw [e,List.length_append]
   simp
   omega
theorem takeC_good {n:Nat} {c c':Ck} {i:It} (hc:CkB n c) (hi:itSim i = true) (hs:shortF i.args) (h:takeC c i = .ok c'):CkB (n + 1) c':=by
 unfold takeC at h
 split at h
 ·cases h
 ·obtain ⟨h1,h2⟩:=bodyB_good (hc.ok.at i.pl (putHad c.had i.kind.toNat)) hi hs h
  have hn:=h1.nm
  have hm:=hc.nm
  simp only at hn
  refine ⟨h1.ok,fun hh=>?_,by omega⟩
  rw [h1.had] at hh
  by_cases k2:i.kind = 2
  ·exact h2 k2
  ·refine h1.let_ (hc.al ?_)
   have hk:¬ 2 = i.kind.toNat:=by
    intro e
    have:1 <= i.kind:=by
     unfold itSim at hi
     simp only [Bool.and_eq_true,Bool.or_eq_true,decide_eq_true_eq] at hi
     omega
    omega
   simpa [putHad,hk] using hh
set_option maxRecDepth 20000
set_option maxHeartbeats 1000000
def sl0 (mb:Nat):Sl:=⟨.slice none 0 0,.slice none 0 0,.slice none 0 0,.slice none 0 0,mb⟩
theorem none_owns {w:World} (e:TypeId) (size:Nat):w.ownsRow 0 e size (.slice none 0 0) 0 []:=⟨by simp,.inl ⟨rfl,rfl⟩⟩
theorem ck0_at (w:World):CkAt (fun g=>w.heap.size <= g) (w.heap.size + 1) (sl0 w.heap.size) ck0 ((w.alloc (.map #[] 0)).alloc (.cells (ckCells ck0 (sl0 w.heap.size)) 146)):=by
 have hsz:(w.alloc (.map #[] 0)).heap.size = w.heap.size + 1:=by simp
 have hb:=heap_alloc_new (w.alloc (.map #[] 0)) (.cells (ckCells ck0 (sl0 w.heap.size)) 146)
 rw [hsz] at hb
 have hn:NmAt ((w.alloc (.map #[] 0)).alloc (.cells (ckCells ck0 (sl0 w.heap.size)) 146)) w.heap.size []:=(nm_made w).keep (by
  have:=(Below.refl (w.alloc (.map #[] 0)).heap.size (w.alloc (.map #[] 0))).alloc (Nat.le_refl _) (.cells (ckCells ck0 (sl0 w.heap.size)) 146)
  exact this.block _ (by rw [hsz]; omega))
 exact ⟨hb,none_owns _ _,none_owns _ _,none_owns _ _,none_owns _ _,hn,fun g hg=>by simp [sl0,Value.ownBlock] at hg,by show w.heap.size <= w.heap.size + 1; omega,fun g hg=>by simp [sl0,Value.ownBlock] at hg,fun g hg=>by simp [sl0,Value.ownBlock] at hg,fun g hg=>by simp [sl0,Value.ownBlock] at hg,fun g hg=>by simp [sl0,Value.ownBlock] at hg,Nat.le_refl _⟩
theorem newChecker_calls (w:World):Calls Tryz.prog 59 #[] w fun e w'=>∃ b,e = .returned (.pointer (some ⟨b,0,none⟩)) /\ Hid (∃ s,CkAt (fun g=>w.heap.size <= g) b s ck0 w' /\ Below w.heap.size w w'):=by
 have H:=ck0_at w
 have HH:Hid (CkAt (fun g=>w.heap.size <= g) (w.heap.size + 1) (sl0 w.heap.size) ck0 ((w.alloc (.map #[] 0)).alloc (.cells (ckCells ck0 (sl0 w.heap.size)) 146))):=H
 clear H
 have hmk:∀ W:World,(Instr.makeMap 143 none).run Tryz.prog W = .ok (.map (some W.heap.size)) (W.alloc (.map #[] 0)):=fun _=>rfl
 go_enter Tryz.func59,Tryz.ntmps59
 go_wp2
 go_ret
 exact ⟨w.heap.size + 1,rfl,sl0 w.heap.size,HH.out,((Below.refl _ _).alloc (Nat.le_refl _) _).alloc (by simp) _⟩
def schV (c:Ck) (s:Sl):Value:=.agg #[.string (bs c.letters),s.dv,s.sv,s.pv,I J c.mode,.bool c.banded,I J c.lo,I J c.hi,I J c.front,I J c.back,I J c.least]
/-- A scheme in memory. -/
structure SchAt (w:World) (c:Ck) (s:Sl):Prop where
 defs:w.ownsRow 0 53 4 s.dv c.defs.length (dfRow c.defs)
 subst:w.ownsRow 0 3 1 s.sv c.subst.length (itRow c.subst)
 pieces:w.ownsRow 0 150 2 s.pv c.pieces.length (pcRow c.pieces)
def ChkPost (r:Er Ck) (w:World) (e:Ending) (w':World):Prop:=
 match r with
 | .error f=>f.1 ≠ 0 /\ e = .returned (.tuple #[.agg #[.string ⟨#[]⟩,.slice none 0 0,.slice none 0 0,.slice none 0 0,I J 0,.bool false,I J 0,I J 0,I J 0,I J 0,I J 0],flV f]) /\ Below w.heap.size w w'
 | .ok c=>∃ s,e = .returned (.tuple #[schV c s,flV (0,0)]) /\ Below w.heap.size w w' /\ SchAt w' c s
/-- Where Check stands: the checker, the tree in its box, the two results. -/
structure CS (w:World) (bx:Value) (O:Nat -> Prop) (b:Nat) (s:Sl) (c:Ck) (wr:World):Prop where
 ck:CkAt O b s c wr
 off:∀ g,O g -> w.heap.size + 3 <= g
 low:Below w.heap.size w wr
 box:wr.heap[w.heap.size]? = some (.cells #[bx] 85 (0,0))
 r1:wr.heap[w.heap.size + 1]? = some (.cells #[.string ⟨#[]⟩,.slice none 0 0,.slice none 0 0,.slice none 0 0,I J 0,.bool false,I J 0,I J 0,I J 0,I J 0,I J 0] 57 (0,0))
 r2:wr.heap[w.heap.size + 1 + 1]? = some (.cells #[I J 0,I J 0] 87 (0,0))
section
variable {w wr w2:World} {bx:Value} {O:Nat -> Prop} {b:Nat} {s:Sl} {c:Ck}
theorem CS.next (h:CS w bx O b s c wr) (hb:Below wr.heap.size wr w2):CS w bx O b s c w2:=
 ⟨h.ck.below hb,h.off,h.low.trans (hb.mono h.low.size),by rw [hb.block _ (lt_block h.box)]; exact h.box,by rw [hb.block _ (lt_block h.r1)]; exact h.r1,by rw [hb.block _ (lt_block h.r2)]; exact h.r2⟩
theorem CS.alloc (h:CS w bx O b s c wr) (o:Obj):CS w bx O b s c (wr.alloc o):=h.next ((Below.refl _ _).alloc (Nat.le_refl _) o)
/-- What is left where the checker is no longer known. -/
structure CR (w:World) (wr:World):Prop where
 low:Below w.heap.size w wr
 r1:wr.heap[w.heap.size + 1]? = some (.cells #[.string ⟨#[]⟩,.slice none 0 0,.slice none 0 0,.slice none 0 0,I J 0,.bool false,I J 0,I J 0,I J 0,I J 0,I J 0] 57 (0,0))
 r2:wr.heap[w.heap.size + 1 + 1]? = some (.cells #[I J 0,I J 0] 87 (0,0))
theorem CR.next (h:CR w wr) (hb:Below wr.heap.size wr w2):CR w w2:=
 ⟨h.low.trans (hb.mono h.low.size),by rw [hb.block _ (lt_block h.r1)]; exact h.r1,by rw [hb.block _ (lt_block h.r2)]; exact h.r2⟩
theorem CS.fr (h:CS w bx O b s c wr) (hf:Fr O wr w2):CR w w2:=
 ⟨h.low.trans (hf.below (fun g hg=>by have:=h.off g hg; omega) h.low.size),hf.heap h.r1 (fun ho=>by have:=h.off _ ho; omega),hf.heap h.r2 (fun ho=>by have:=h.off _ ho; omega)⟩
theorem CS.go {O':Nat -> Prop} {s':Sl} {c':Ck} (h:CS w bx O b s c wr) (hf:Fr O wr w2) (hO:∀ g,O' g -> O g \/ wr.heap.size <= g) (hck:CkAt O' b s' c' w2):CS w bx O' b s' c' w2:=by
 have hr:=h.fr hf
 have hsz:=lt_block h.r2
 refine ⟨hck,fun g hg=>?_,hr.low,hf.heap h.box (fun ho=>by have:=h.off _ ho; omega),hr.r1,hr.r2⟩
 rcases hO g hg with h1 | h1
 ·exact h.off g h1
 ·omega
end
theorem below_res {w W:World} (h:Below w.heap.size w W) (v0 v1 v2 v3 v4 v5 v6 v7 v8 v9 v10 u0 u1:Value):Below w.heap.size w (((((((((((((W.setCell ⟨w.heap.size + 1,0,none⟩ v0).setCell ⟨w.heap.size + 1,1,none⟩ v1).setCell ⟨w.heap.size + 1,2,none⟩ v2).setCell ⟨w.heap.size + 1,3,none⟩ v3).setCell ⟨w.heap.size + 1,4,none⟩ v4).setCell ⟨w.heap.size + 1,5,none⟩ v5).setCell ⟨w.heap.size + 1,6,none⟩ v6).setCell ⟨w.heap.size + 1,7,none⟩ v7).setCell ⟨w.heap.size + 1,8,none⟩ v8).setCell ⟨w.heap.size + 1,9,none⟩ v9).setCell ⟨w.heap.size + 1,10,none⟩ v10).setCell ⟨w.heap.size + 1 + 1,0,none⟩ u0).setCell ⟨w.heap.size + 1 + 1,1,none⟩ u1):=by
 have a:∀ (W:World) (i:Nat) (v:Value),Below w.heap.size w W -> Below w.heap.size w (W.setCell ⟨w.heap.size + 1,i,none⟩ v):=fun W i v h=>h.setCell (p:=⟨w.heap.size + 1,i,none⟩) (show w.heap.size <= w.heap.size + 1 by omega) v
 have b:∀ (W:World) (i:Nat) (v:Value),Below w.heap.size w W -> Below w.heap.size w (W.setCell ⟨w.heap.size + 1 + 1,i,none⟩ v):=fun W i v h=>h.setCell (p:=⟨w.heap.size + 1 + 1,i,none⟩) (show w.heap.size <= w.heap.size + 1 + 1 by omega) v
 exact (b _ 1 u1 (b _ 0 u0 (a _ 10 v10 (a _ 9 v9 (a _ 8 v8 (a _ 7 v7 (a _ 6 v6 (a _ 5 v5 (a _ 4 v4 (a _ 3 v3 (a _ 2 v2 (a _ 1 v1 (a _ 0 v0 h)))))))))))))
end Go.Proofs.YtbbbnopganhebabGreat
