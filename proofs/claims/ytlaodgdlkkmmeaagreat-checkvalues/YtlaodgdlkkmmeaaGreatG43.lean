/-
  What lay leaves where there are too many: the checker stands as it was. What no item has said is filled in: end, all of it. What an item leaves of what was said: it may be, and so many names.
-/
import Derived.BigRegion
import Derived.Test.YtlaodgdlkkmmeaaGreatG42
namespace Go.Proofs.YtlaodgdlkkmmeaaGreat
open Go.RowKit Go.Deep Go.Maps
open Go.Value renaming int->I,slice->Γ
open Go.IntKind renaming i64->J
open Go.Ending renaming returned->Ω
set_option maxRecDepth 20000
set_option maxHeartbeats 4000000
theorem lay_full2 {O:Nat -> Prop} {b:Nat} {s:Sl} {c:Ck} (w:World) (h:CkAt O b s c w) (hok:CkOk c) (d:Df) (hd:DfIn d c.values.length) (p:Int) (hin:inB maxK (rawB c.values d) = true) (hn:c.values.length = 5000) :
 Calls Tryz.prog 59 #[.pointer (some ⟨b,0,none⟩),dfV d,I J p] w fun e w'=>e = Ω (.tuple #[mnV mn0,flV (72,c.pl)]) /\ Hid (Fr O w w' /\ CkAt O b s c w'):=by
 have hres:Tryz.f59.results = #[.cell 6 109,.cell 7 32]:=by kernel_rfl
 obtain ⟨va,cap,hvv,-⟩:=own_isI h.values
 have HLA:=LA.start h d
 generalize hO1:(fun g=>O g /\ g < w.heap.size) = O1 at HLA
 have HO1:Hid (∀ g,O1 g -> O g):=fun g hg=>by rw [<- hO1] at hg; exact hg.1
 clear hO1
 have HJK:Hid (∀ W,LA w O O1 b s c d W -> W.cell? ⟨w.heap.size,0,none⟩ = some (I J d.op) /\ W.cell? ⟨w.heap.size,1,none⟩ = some (I J d.num) /\ W.cell? ⟨w.heap.size,2,none⟩ = some (I J d.a) /\ W.cell? ⟨w.heap.size,3,none⟩ = some (I J d.b) /\ W.cell? ⟨b,11,none⟩ = some (Γ va c.values.length cap)):=
  fun W hW=>⟨blk hW.box rfl,blk hW.box rfl,blk hW.box rfl,blk hW.box rfl,hvv ▸ blk hW.ck.block rfl⟩
 have HJB:Hid (∀ W W',LA w O O1 b s c d W -> Below W.heap.size W W' -> LA w O O1 b s c d W'):=fun W W' h1 h2=>h1.next h2
 have HC:Hid (∀ W,LA w O O1 b s c d W -> Calls Tryz.prog 41 #[.agg #[I J d.op,I J d.num,I J d.a,I J d.b],Γ va c.values.length cap] W (WPost (rawB c.values d) W)):=fun W hW=>by
  obtain ⟨va',cap',e,hI⟩:=own_isI hW.ck.values
  rw [hvv] at e
  cases e
  exact worth_calls d c.values va cap W hI (fun v hv=>by have:=hok.vals v hv; omega) hd
 unfold dfV
 obtain ⟨op,num,a,b'⟩:=d
 simp only at HLA HJK HC ⊢
 have HL:=hid HLA
 have HVV:=hid hvv
 have HIN:=hid hin
 generalize rawB c.values ⟨op,num,a,b'⟩ = r at *
 generalize c.values.length = n at *
 have hn1:((n:Int) == 5000) = true:=by rw [beq_iff_eq]; omega
 clear HLA h hok hd hin hvv hn
 go_enter Tryz.func59,Tryz.ntmps59
 go_upto_region 1 with (fail)
 generalize (((w.alloc (.cells #[I J op,I J num,I J a,I J b'] 43)).alloc (.cells #[.bool false,.string ⟨#[]⟩,I J 0,I J 0] 109)).alloc (.cells #[I J 0,I J 0] 32)) = w1 at *
 have hJ0:LA w O O1 b s c ⟨op,num,a,b'⟩ w1:=HL.out
 have hJ1:LA w O O1 b s c ⟨op,num,a,b'⟩ w1.drew:=hJ0.next (Below.refl _ _).drew
 obtain ⟨x0,x1,x2,x3,x4⟩:=HJK.out _ hJ0
 have y:=HJK.out _ hJ1
 clear HL
 go_region_held3 (fun W=>LA w O O1 b s c ⟨op,num,a,b'⟩ W /\ W.cell? ⟨w.heap.size,0,none⟩ = some (I J op) /\ W.cell? ⟨w.heap.size,1,none⟩ = some (I J num) /\ W.cell? ⟨w.heap.size,2,none⟩ = some (I J a) /\ W.cell? ⟨w.heap.size,3,none⟩ = some (I J b') /\ W.cell? ⟨b,11,none⟩ = some (Γ va n cap)) (first | exact ⟨hJ1,y⟩ | exact ⟨by assumption,HJK.out _ (by assumption)⟩) (first
  | (go_at_call 41; with_reducible refine (HC.out _ (by assumption)).mono ?_; intro e W1 hp; obtain ⟨v,rfl,hv,hb⟩:=wpost_parts hp; clear hp; have HJ':=HJB.out _ _ (by assumption) hb; have hc':=HJK.out _ HJ'; clear hb))
 have HLW:=hid HJ'
 have hm:inB maxV r = true:=inB_KV HIN.out
 have hv2:=hv hm
 clear HJ' hc' HC HJB HJK hJ0 hJ1 x0 x1 x2 x3 x4 y
 rename_i hcx
 clear hcx
 subst hv2
 clear hv
 have HW:Hid (∀ w,Calls Tryz.prog 80 #[I J v,I J 72057594037927936] w fun e w'=>e = Ω (.bool true) /\ w' = w):=fun w=>by
  have:=within_calls v 72057594037927936 w (by omega) (by omega)
  rw [show inB 72057594037927936 v = true from HIN.out] at this; exact this
 have r0:=blk (i:=0) HLW.out.r1 rfl
 have r1:=blk (i:=1) HLW.out.r1 rfl
 have r2:=blk (i:=2) HLW.out.r1 rfl
 have r3:=blk (i:=3) HLW.out.r1 rfl
 have q0:=blk (i:=0) HLW.out.r2 rfl
 have q1:=blk (i:=1) HLW.out.r2 rfl
 have rf:∀ i,W1.frozen? ⟨w.heap.size + 1,i,none⟩ = false:=fun i=>blkf i HLW.out.r1
 have qf:∀ i,W1.frozen? ⟨w.heap.size + 1 + 1,i,none⟩ = false:=fun i=>blkf i HLW.out.r2
 have r5:W1.cell? ⟨b,11,none⟩ = some (Γ va n cap):=by have:=HLW.out.ck.c11; rw [HVV.out] at this; exact this
 have r6:=HLW.out.ck.c24
 have hlt:=HLW.out.ck.lt
 have hne1:¬ b = w.heap.size + 1:=fun e=>HLW.out.off (by omega) (by omega) (e ▸ HLW.out.ck.inB)
 have hne2:¬ b = w.heap.size + 1 + 1:=fun e=>HLW.out.off (by omega) (by omega) (e ▸ HLW.out.ck.inB)
 obtain ⟨pl,hpl⟩:∃ pl,c.pl = pl:=⟨_,rfl⟩
 rw [hpl] at r6
 have HPL:Hid (c.pl = pl):=hpl
 clear hpl
 go_wp2_with (go_at_call 80; refine (HW.out _).mono ?_; rintro e w' ⟨rfl,rfl⟩)
 have HS1:Hid (∀ (W:World) (i:Nat) (u:Value),W.cell? ⟨b,24,none⟩ = some (I J pl) -> (W.setCell ⟨w.heap.size + 1,i,none⟩ u).cell? ⟨b,24,none⟩ = some (I J pl)):=fun W i u hW=>by
  rw [World.cell?_of_block (w:=W) (a:=⟨b,24,none⟩) (heap_other rfl hne1)]; exact hW
 have HS2:Hid (∀ (W:World) (i:Nat) (u:Value),W.cell? ⟨b,24,none⟩ = some (I J pl) -> (W.setCell ⟨w.heap.size + 1 + 1,i,none⟩ u).cell? ⟨b,24,none⟩ = some (I J pl)):=fun W i u hW=>by
  rw [World.cell?_of_block (w:=W) (a:=⟨b,24,none⟩) (heap_other rfl hne2)]; exact hW
 have r6d:Hid (∀ W:World,W.cell? ⟨b,24,none⟩ = some (I J pl) -> W.drew.cell? ⟨b,24,none⟩ = some (I J pl)):=fun W h=>h
 go_region_held3 (fun W=>W.cell? ⟨b,24,none⟩ = some (I J pl)) (((try with_reducible refine r6d.out _ ?_); repeat (first | with_reducible exact r6 | with_reducible refine HS1.out _ _ _ ?_ | with_reducible refine HS2.out _ _ _ ?_))) (fail)
 rename_i hh
 clear hh
 go_wp2
 refine bodyPost_ret (v:=.tuple #[mnV mn0,flV (72,pl)]) ?_ rfl ⟨by rw [HPL.out],?_⟩
 ·simp only [results,hres]
  go_simp
  exact ⟨rfl,rfl⟩
 ·exact ⟨(fr_res HLW.out.fr _ _ _ _ _ _).drew,(((ck_res HLW.out _ _ _ _ _ _).wide HO1.out).below (Below.refl _ _).drew)⟩
open Go.Value renaming int->I,pointer->Φ,string->Ψ
open Go.Obj renaming cells->Δ
set_option maxRecDepth 20000
set_option maxHeartbeats 2000000
theorem rawZero (vs:List Int):rawB vs ⟨1,0,0,0⟩ = 0:=by simp [rawB]
theorem zeroB_err {c:Ck} {f:Int × Int} (h:zeroB c = .error f):c.values.length = 5000 /\ f = (72,c.pl):=by
 unfold zeroB layB at h
 rw [rawZero,if_neg (by decide)] at h
 split at h
 ·rename_i hn
  cases h
  exact ⟨hn,rfl⟩
 ·cases h
theorem LS.zeroErr {w W:World} {O0 O:Nat -> Prop} {b:Nat} {s0 s:Sl} {c:Ck} {L:List Lo} (h:LS w O0 O b s0 s (some c) L W) {f:Int × Int} (hl:zeroB c = .error f) :
 Calls Tryz.prog 59 #[Φ (some ⟨b,0,none⟩),.agg #[I J 1,I J 0,I J 0,I J 0],I J c.pl] W fun e w'=>e = Ω (.tuple #[.agg #[.bool false,Ψ ⟨#[]⟩,I J 0,I J 0],.agg #[I J 72,I J f.2]]) /\ Hid (∃ O',LS w O0 O' b s0 s (some c) L w'):=by
 obtain ⟨hn,rfl⟩:=zeroB_err hl
 obtain ⟨k1,k2,k3⟩:=h.ck c rfl
 refine (lay_full2 W k1 k2 ⟨1,0,0,0⟩ ⟨by constructor <;> simp,fun h=>by simp at h,fun h=>by simp at h⟩ c.pl (by rw [rawZero]; decide) hn).mono ?_
 rintro e w' ⟨rfl,hh⟩
 refine ⟨rfl,_,h.go (O':=O) hh.out.1 (fun g hg=>.inl hg) (fun c' hc=>?_)⟩
 cases hc
 exact ⟨hh.out.2,k2,k3⟩
theorem LS.zeroOk {w W:World} {O0 O:Nat -> Prop} {b:Nat} {s0 s:Sl} {c c1:Ck} {m:Mn} {L:List Lo} (h:LS w O0 O b s0 s (some c) L W) (hl:zeroB c = .ok (c1,m)) :
 Calls Tryz.prog 59 #[Φ (some ⟨b,0,none⟩),.agg #[I J 1,I J 0,I J 0,I J 0],I J c.pl] W fun e w'=>e = Ω (.tuple #[.agg #[.bool m.isText,Ψ (bs m.text),I J m.place,I J m.num],.agg #[I J 0,I J 0]]) /\ Hid (∃ O' s',LS w O0 O' b s0 s' (some c1) L w'):=by
 refine (h.zero c.pl rfl).mono ?_
 rintro e w' ⟨m',f',oc,O',s',rfl,hh⟩
 obtain ⟨h1,h2⟩:=hh.out
 rw [hl] at h1
 obtain ⟨rfl,rfl,rfl⟩:=h1
 exact ⟨rfl,O',s',h2⟩
/-- A store into a cell of the checker's block that is no row's. -/
theorem LS.putC {w W:World} {O0 O:Nat -> Prop} {b:Nat} {s0 s:Sl} {c c':Ck} {L:List Lo} (h:LS w O0 O b s0 s (some c) L W) {i:Nat} {u:Value} (hc:(ckCells c s).setIfInBounds i u = ckCells c' s) (h1:c'.defs = c.defs) (h2:c'.subst = c.subst) (h3:c'.pieces = c.pieces) (h4:c'.values = c.values) (h5:c'.names = c.names) (h6:c'.letters = c.letters) :
 LS w O0 O b s0 s (some c') L (W.setCell ⟨b,i,none⟩ u):=by
 obtain ⟨k1,k2,k3⟩:=h.ck c rfl
 refine ⟨fun c2 hc2=>?_,h.fr.setCell (h.new b k1.inB) i u,h.new,fun g hg=>by have:=h.tight g hg; simpa [World.setCell] using this,fun x hx=>⟨(h.loc x hx).1.other (fun e=>(h.loc x hx).1.off (by rw [e]; exact k1.inB)) i u,(h.loc x hx).2⟩,h.nd⟩
 cases hc2
 exact ⟨k1.put hc h1 h2 h3 h4 h5,⟨by rw [h4]; exact k2.vals,by rw [h1,h4]; exact k2.same,by rw [h4]; exact k2.few,by rw [h5,h4]; exact k2.names,by rw [h6,h2]; exact k2.alpha,by rw [h2]; exact k2.sub,by rw [h3]; exact k2.pcs⟩,k3⟩
theorem LS.done {w W:World} {O0 O:Nat -> Prop} {b:Nat} {s0 s:Sl} {c:Ck} {L:List Lo} (h:LS w O0 O b s0 s (some c) L W):TPost O0 b w (.ok c) (Ω (flV (0,0))) W:=
 ⟨rfl,h.fr,O,s,h.new,(h.ck c rfl).1⟩
def leastB (c:Ck):Er Ck:=
 match zeroB c with
 | .error f=>.error f
 | .ok (c2,m)=>.ok { c2 with least:=m.place }
def clipZ (c:Ck):Er Ck:=
 match zeroB c with
 | .error f=>.error f
 | .ok (c1,m)=>.ok { c1 with front:=m.place,back:=m.place }
def endZ (c:Ck):Er Ck:=
 match clipZ c with
 | .error f=>.error f
 | .ok c1=>leastB c1
theorem zeroB_keep {c c1:Ck} {m:Mn} (h:zeroB c = .ok (c1,m)):c1.had = c.had /\ c1.pl = c.pl:=by
 unfold zeroB layB at h
 split at h
 ·cases h
 ·split at h
  ·cases h
  ·cases h; exact ⟨rfl,rfl⟩
theorem end_tt {O:Nat -> Prop} {b:Nat} {s:Sl} {c:Ck} (w:World) (hck:CkAt O b s c w) (hok:CkOk c) (h2:c.had 2 = true) (h7:c.had 7 = true) (hne:c.letters ≠ []) (hf:-1 ∉ fillB c) (h9:c.had 9 = true) (h10:c.had 10 = true) :
 Calls Tryz.prog 29 #[Φ (some ⟨b,0,none⟩)] w (TPost O b w (.ok { c with subst:=fillB c })):=by
 have hres:Tryz.f29.results = #[.cell 2 32]:=by kernel_rfl
 have hS1:=LS.startE hck hok
 generalize hO1:(fun g=>O g /\ g < w.heap.size) = O1 at hS1
 have HS1:=hid hS1
 have HSc:Hid (∀ W,LS w O O1 b s s (some c) [(w.heap.size,flL (0,0),32)] W -> Calls Tryz.prog 58 #[Φ (some ⟨b,0,none⟩)] W fun e w'=>e = Ω (.bool true) /\ Hid (∃ O',LS w O O' b s s (some { c with subst:=fillB c }) [(w.heap.size,flL (0,0),32)] w')):=fun W hW=>by
  have:=hW.score hne
  rw [show decide (-1 ∉ fillB c) = true by simpa using hf] at this
  exact this
 clear hf hne
 clear hS1 hO1 hck hok
 go_enter Tryz.func29,Tryz.ntmps29
 go_upto_region 1 with (fail)
 generalize (w.alloc (Δ #[I J 0,I J 0] 32)) = w1 at *
 have d2:w1.cell? ⟨b,15,none⟩ = some (.bool true):=by have:=(HS1.out.ck _ rfl).1.had2; rw [h2] at this; exact this
 have d7:w1.cell? ⟨b,20,none⟩ = some (.bool true):=by have:=(HS1.out.ck _ rfl).1.had7; rw [h7] at this; exact this
 clear h2 h7
 go_upto_region 3 with (first
  | (go_at_call 58; refine (HSc.out _ HS1.out).mono ?_; rintro e w3 ⟨rfl,hs3⟩; obtain ⟨O3,hS3⟩:=hs3.out; have HS3:Hid (LS w O O3 b s s (some { c with subst:=fillB c }) [(w.heap.size,flL (0,0),32)] w3):=hS3; clear hs3 hS3))
 clear HS1 HSc d2 d7
 have e9:w3.cell? ⟨b,22,none⟩ = some (.bool true):=by have:=(HS3.out.ck _ rfl).1.had9; rw [show ({ c with subst:=fillB c }:Ck).had 9 = true from h9] at this; exact this
 have e10:w3.cell? ⟨b,23,none⟩ = some (.bool true):=by have:=(HS3.out.ck _ rfl).1.had10; rw [show ({ c with subst:=fillB c }:Ck).had 10 = true from h10] at this; exact this
 have z0:w3.cell? ⟨w.heap.size,0,none⟩ = some (I J 0):=HS3.out.at (g:=w.heap.size) (cs:=flL (0,0)) (ty:=32) (by simp) rfl
 have z1:w3.cell? ⟨w.heap.size,1,none⟩ = some (I J 0):=HS3.out.at (g:=w.heap.size) (cs:=flL (0,0)) (ty:=32) (by simp) rfl
 have zf:∀ i,w3.frozen? ⟨w.heap.size,i,none⟩ = false:=fun i=>HS3.out.fz (g:=w.heap.size) (cs:=flL (0,0)) (ty:=32) (by simp) i
 clear h9 h10
 go_wp2
 refine bodyPost_ret (v:=flV (0,0)) ?_ rfl ?_
 ·simp only [results,hres]
  unfold flV
  simp only
  go_simp
 ·show TPost _ _ _ _ _ _
  exact ((HS3.out.put 0 (I J 0)).put 1 (I J 0)).done
theorem end_tf {O:Nat -> Prop} {b:Nat} {s:Sl} {c:Ck} (w:World) (hck:CkAt O b s c w) (hok:CkOk c) (h2:c.had 2 = true) (h7:c.had 7 = true) (hne:c.letters ≠ []) (hf:-1 ∉ fillB c) (h9:c.had 9 = true) (h10:c.had 10 = false) :
 Calls Tryz.prog 29 #[Φ (some ⟨b,0,none⟩)] w (TPost O b w (leastB { c with subst:=fillB c })):=by
 have hres:Tryz.f29.results = #[.cell 2 32]:=by kernel_rfl
 have hS1:=LS.startE hck hok
 generalize hO1:(fun g=>O g /\ g < w.heap.size) = O1 at hS1
 have HS1:=hid hS1
 have HSc:Hid (∀ W,LS w O O1 b s s (some c) [(w.heap.size,flL (0,0),32)] W -> Calls Tryz.prog 58 #[Φ (some ⟨b,0,none⟩)] W fun e w'=>e = Ω (.bool true) /\ Hid (∃ O',LS w O O' b s s (some { c with subst:=fillB c }) [(w.heap.size,flL (0,0),32)] w')):=fun W hW=>by
  have:=hW.score hne
  rw [show decide (-1 ∉ fillB c) = true by simpa using hf] at this
  exact this
 clear hf hne
 clear hS1 hO1 hck hok
 go_enter Tryz.func29,Tryz.ntmps29
 go_upto_region 1 with (fail)
 generalize (w.alloc (Δ #[I J 0,I J 0] 32)) = w1 at *
 have d2:w1.cell? ⟨b,15,none⟩ = some (.bool true):=by have:=(HS1.out.ck _ rfl).1.had2; rw [h2] at this; exact this
 have d7:w1.cell? ⟨b,20,none⟩ = some (.bool true):=by have:=(HS1.out.ck _ rfl).1.had7; rw [h7] at this; exact this
 clear h2 h7
 go_upto_region 3 with (first
  | (go_at_call 58; refine (HSc.out _ HS1.out).mono ?_; rintro e w3 ⟨rfl,hs3⟩; obtain ⟨O3,hS3⟩:=hs3.out; have HS3:Hid (LS w O O3 b s s (some { c with subst:=fillB c }) [(w.heap.size,flL (0,0),32)] w3):=hS3; clear hs3 hS3))
 clear HS1 HSc d2 d7
 have e9:w3.cell? ⟨b,22,none⟩ = some (.bool true):=by have:=(HS3.out.ck _ rfl).1.had9; rw [show ({ c with subst:=fillB c }:Ck).had 9 = true from h9] at this; exact this
 have e10:w3.cell? ⟨b,23,none⟩ = some (.bool false):=by have:=(HS3.out.ck _ rfl).1.had10; rw [show ({ c with subst:=fillB c }:Ck).had 10 = false from h10] at this; exact this
 clear h9 h10
 have e24:w3.cell? ⟨b,24,none⟩ = some (I J c.pl):=(HS3.out.ck _ rfl).1.c24
 cases hl:zeroB { c with subst:=fillB c } with
 | error f=>
   have HZ:Hid (Calls Tryz.prog 59 #[Φ (some ⟨b,0,none⟩),.agg #[I J 1,I J 0,I J 0,I J 0],I J c.pl] w3 fun e w'=>e = Ω (.tuple #[.agg #[.bool false,Ψ ⟨#[]⟩,I J 0,I J 0],.agg #[I J 72,I J f.2]]) /\ Hid (∃ O',LS w O O' b s s (some { c with subst:=fillB c }) [(w.heap.size,flL (0,0),32)] w')):=HS3.out.zeroErr hl
   have HP:Hid (∀ W,Fr O w W -> TPost O b w (leastB { c with subst:=fillB c }) (Ω (flV (72,f.2))) W):=fun W hW=>by
    have e2:leastB { c with subst:=fillB c } = .error f:=by unfold leastB; rw [hl]
    rw [e2]
    have e1:=(zeroB_err hl).2
    subst e1
    exact ⟨by simp,rfl,hW⟩
   clear hl HS3
   obtain ⟨f1,f2⟩:=f
   simp only at HZ HP
   go_upto_region 10 with (first
    | (go_at_call 59; refine (HZ.out).mono ?_; rintro e w4 ⟨rfl,hs4⟩))
   obtain ⟨O4,hS4⟩:=hs4.out
   have hS5:LS w O O4 b s s (some { c with subst:=fillB c }) ((w4.heap.size + 1,[I J 72,I J f2],32) :: (w4.heap.size,[.bool false,Ψ ⟨#[]⟩,I J 0,I J 0],109) :: [(w.heap.size,flL (0,0),32)]) ((w4.alloc (Δ #[.bool false,Ψ ⟨#[]⟩,I J 0,I J 0] 109)).alloc (Δ #[I J 72,I J f2] 32)):=(hS4.alloc [.bool false,Ψ ⟨#[]⟩,I J 0,I J 0] 109).allocE [I J 72,I J f2] 32 rfl (by simp)
   clear hs4 hS4 HZ
   have HS5:=hid hS5
   clear hS5
   generalize (w4.alloc (Δ #[.bool false,Ψ ⟨#[]⟩,I J 0,I J 0] 109)).alloc (Δ #[I J 72,I J f2] 32) = w5 at *
   generalize w4.heap.size = g5 at *
   have y2:w5.cell? ⟨g5,2,none⟩ = some (I J 0):=HS5.out.at (g:=g5) (cs:=[.bool false,Ψ ⟨#[]⟩,I J 0,I J 0]) (ty:=109) (by simp) rfl
   have b10:w5.cell? ⟨b,10,none⟩ = some (I J ({ c with subst:=fillB c }:Ck).least):=(HS5.out.ck _ rfl).1.c10
   have bf:∀ i,w5.frozen? ⟨b,i,none⟩ = false:=fun i=>(HS5.out.ck _ rfl).1.fz i
   generalize ({ c with subst:=fillB c }:Ck).least = l0 at b10
   go_upto_region 11 with (fail)
   have HS6:Hid (LS w O O4 b s s (some { c with subst:=fillB c,least:=0 }) ((g5 + 1,[I J 72,I J f2],32) :: (g5,[.bool false,Ψ ⟨#[]⟩,I J 0,I J 0],109) :: [(w.heap.size,flL (0,0),32)]) (w5.setCell ⟨b,10,none⟩ (I J 0))):=HS5.out.putC rfl rfl rfl rfl rfl rfl rfl
   clear HS5 y2 b10 bf
   generalize w5.setCell ⟨b,10,none⟩ (I J 0) = w6 at *
   have u0:w6.cell? ⟨g5 + 1,0,none⟩ = some (I J 72):=HS6.out.at (g:=g5 + 1) (cs:=[I J 72,I J f2]) (ty:=32) (by simp) rfl
   have u1:w6.cell? ⟨g5 + 1,1,none⟩ = some (I J f2):=HS6.out.at (g:=g5 + 1) (cs:=[I J 72,I J f2]) (ty:=32) (by simp) rfl
   have z0:w6.cell? ⟨w.heap.size,0,none⟩ = some (I J 0):=HS6.out.at (g:=w.heap.size) (cs:=flL (0,0)) (ty:=32) (by simp) rfl
   have z1:w6.cell? ⟨w.heap.size,1,none⟩ = some (I J 0):=HS6.out.at (g:=w.heap.size) (cs:=flL (0,0)) (ty:=32) (by simp) rfl
   have zf:∀ i,w6.frozen? ⟨w.heap.size,i,none⟩ = false:=fun i=>HS6.out.fz (g:=w.heap.size) (cs:=flL (0,0)) (ty:=32) (by simp) i
   go_wp2
   refine bodyPost_ret (v:=flV (72,f2)) ?_ rfl ?_
   ·simp only [results,hres]
    unfold flV
    simp only
    go_simp
   ·show TPost _ _ _ _ _ _
    exact HP.out _ (((HS6.out.sub (L':=[(w.heap.size,flL (0,0),32)]) (by simp) (by simp)).put 0 (I J 72)).put 1 (I J f2)).fr
 | ok x=>
   obtain ⟨c1,m⟩:=x
   have HZ:Hid (Calls Tryz.prog 59 #[Φ (some ⟨b,0,none⟩),.agg #[I J 1,I J 0,I J 0,I J 0],I J c.pl] w3 fun e w'=>e = Ω (.tuple #[.agg #[.bool m.isText,Ψ (bs m.text),I J m.place,I J m.num],.agg #[I J 0,I J 0]]) /\ Hid (∃ O' s',LS w O O' b s s' (some c1) [(w.heap.size,flL (0,0),32)] w')):=HS3.out.zeroOk hl
   have HX:Hid (leastB { c with subst:=fillB c } = .ok { c1 with least:=m.place }):=by show leastB _ = _; unfold leastB; rw [hl]
   clear hl HS3
   go_upto_region 10 with (first
    | (go_at_call 59; refine (HZ.out).mono ?_; rintro e w4 ⟨rfl,hs4⟩))
   obtain ⟨O4,s4,hS4⟩:=hs4.out
   have hS5:LS w O O4 b s s4 (some c1) ((w4.heap.size + 1,[I J 0,I J 0],32) :: (w4.heap.size,[.bool m.isText,Ψ (bs m.text),I J m.place,I J m.num],109) :: [(w.heap.size,flL (0,0),32)]) ((w4.alloc (Δ #[.bool m.isText,Ψ (bs m.text),I J m.place,I J m.num] 109)).alloc (Δ #[I J 0,I J 0] 32)):=(hS4.alloc [.bool m.isText,Ψ (bs m.text),I J m.place,I J m.num] 109).allocE [I J 0,I J 0] 32 rfl (by simp)
   clear hs4 hS4 HZ
   have HS5:=hid hS5
   clear hS5
   generalize (w4.alloc (Δ #[.bool m.isText,Ψ (bs m.text),I J m.place,I J m.num] 109)).alloc (Δ #[I J 0,I J 0] 32) = w5 at *
   generalize w4.heap.size = g5 at *
   have y2:w5.cell? ⟨g5,2,none⟩ = some (I J m.place):=HS5.out.at (g:=g5) (cs:=[.bool m.isText,Ψ (bs m.text),I J m.place,I J m.num]) (ty:=109) (by simp) rfl
   have b10:w5.cell? ⟨b,10,none⟩ = some (I J (c1:Ck).least):=(HS5.out.ck _ rfl).1.c10
   have bf:∀ i,w5.frozen? ⟨b,i,none⟩ = false:=fun i=>(HS5.out.ck _ rfl).1.fz i
   generalize (c1:Ck).least = l0 at b10
   go_upto_region 11 with (fail)
   have HS6:Hid (LS w O O4 b s s4 (some { c1 with least:=m.place }) ((g5 + 1,[I J 0,I J 0],32) :: (g5,[.bool m.isText,Ψ (bs m.text),I J m.place,I J m.num],109) :: [(w.heap.size,flL (0,0),32)]) (w5.setCell ⟨b,10,none⟩ (I J m.place))):=HS5.out.putC rfl rfl rfl rfl rfl rfl rfl
   clear HS5 y2 b10 bf
   generalize w5.setCell ⟨b,10,none⟩ (I J m.place) = w6 at *
   have u0:w6.cell? ⟨g5 + 1,0,none⟩ = some (I J 0):=HS6.out.at (g:=g5 + 1) (cs:=[I J 0,I J 0]) (ty:=32) (by simp) rfl
   have u1:w6.cell? ⟨g5 + 1,1,none⟩ = some (I J 0):=HS6.out.at (g:=g5 + 1) (cs:=[I J 0,I J 0]) (ty:=32) (by simp) rfl
   have z0:w6.cell? ⟨w.heap.size,0,none⟩ = some (I J 0):=HS6.out.at (g:=w.heap.size) (cs:=flL (0,0)) (ty:=32) (by simp) rfl
   have z1:w6.cell? ⟨w.heap.size,1,none⟩ = some (I J 0):=HS6.out.at (g:=w.heap.size) (cs:=flL (0,0)) (ty:=32) (by simp) rfl
   have zf:∀ i,w6.frozen? ⟨w.heap.size,i,none⟩ = false:=fun i=>HS6.out.fz (g:=w.heap.size) (cs:=flL (0,0)) (ty:=32) (by simp) i
   go_wp2
   refine bodyPost_ret (v:=flV (0,0)) ?_ rfl ?_
   ·simp only [results,hres]
    unfold flV
    simp only
    go_simp
   ·show TPost _ _ _ _ _ _
    rw [HX.out]
    exact (((HS6.out.sub (L':=[(w.heap.size,flL (0,0),32)]) (by simp) (by simp)).put 0 (I J 0)).put 1 (I J 0)).done
theorem end_ft {O:Nat -> Prop} {b:Nat} {s:Sl} {c:Ck} (w:World) (hck:CkAt O b s c w) (hok:CkOk c) (h2:c.had 2 = true) (h7:c.had 7 = true) (hne:c.letters ≠ []) (hf:-1 ∉ fillB c) (h9:c.had 9 = false) (h10:c.had 10 = true) :
 Calls Tryz.prog 29 #[Φ (some ⟨b,0,none⟩)] w (TPost O b w (clipZ { c with subst:=fillB c })):=by
 have hres:Tryz.f29.results = #[.cell 2 32]:=by kernel_rfl
 have hS1:=LS.startE hck hok
 generalize hO1:(fun g=>O g /\ g < w.heap.size) = O1 at hS1
 have HS1:=hid hS1
 have HSc:Hid (∀ W,LS w O O1 b s s (some c) [(w.heap.size,flL (0,0),32)] W -> Calls Tryz.prog 58 #[Φ (some ⟨b,0,none⟩)] W fun e w'=>e = Ω (.bool true) /\ Hid (∃ O',LS w O O' b s s (some { c with subst:=fillB c }) [(w.heap.size,flL (0,0),32)] w')):=fun W hW=>by
  have:=hW.score hne
  rw [show decide (-1 ∉ fillB c) = true by simpa using hf] at this
  exact this
 clear hf hne
 clear hS1 hO1 hck hok
 go_enter Tryz.func29,Tryz.ntmps29
 go_upto_region 1 with (fail)
 generalize (w.alloc (Δ #[I J 0,I J 0] 32)) = w1 at *
 have d2:w1.cell? ⟨b,15,none⟩ = some (.bool true):=by have:=(HS1.out.ck _ rfl).1.had2; rw [h2] at this; exact this
 have d7:w1.cell? ⟨b,20,none⟩ = some (.bool true):=by have:=(HS1.out.ck _ rfl).1.had7; rw [h7] at this; exact this
 clear h2 h7
 go_upto_region 3 with (first
  | (go_at_call 58; refine (HSc.out _ HS1.out).mono ?_; rintro e w3 ⟨rfl,hs3⟩; obtain ⟨O3,hS3⟩:=hs3.out; have HS3:Hid (LS w O O3 b s s (some { c with subst:=fillB c }) [(w.heap.size,flL (0,0),32)] w3):=hS3; clear hs3 hS3))
 clear HS1 HSc d2 d7
 have e9:w3.cell? ⟨b,22,none⟩ = some (.bool false):=by have:=(HS3.out.ck _ rfl).1.had9; rw [show ({ c with subst:=fillB c }:Ck).had 9 = false from h9] at this; exact this
 clear h9
 have e24:w3.cell? ⟨b,24,none⟩ = some (I J c.pl):=(HS3.out.ck _ rfl).1.c24
 cases hl:zeroB { c with subst:=fillB c } with
 | error f=>
   have HZ:Hid (Calls Tryz.prog 59 #[Φ (some ⟨b,0,none⟩),.agg #[I J 1,I J 0,I J 0,I J 0],I J c.pl] w3 fun e w'=>e = Ω (.tuple #[.agg #[.bool false,Ψ ⟨#[]⟩,I J 0,I J 0],.agg #[I J 72,I J f.2]]) /\ Hid (∃ O',LS w O O' b s s (some { c with subst:=fillB c }) [(w.heap.size,flL (0,0),32)] w')):=HS3.out.zeroErr hl
   have HP:Hid (∀ W,Fr O w W -> TPost O b w (clipZ { c with subst:=fillB c }) (Ω (flV (72,f.2))) W):=fun W hW=>by
    have e2:clipZ { c with subst:=fillB c } = .error f:=by unfold clipZ; rw [hl]
    have e3:clipZ { c with subst:=fillB c } = .error f:=by exact e2
    rw [e3]
    have e1:=(zeroB_err hl).2
    subst e1
    exact ⟨by simp,rfl,hW⟩
   clear hl HS3 h10
   obtain ⟨f1,f2⟩:=f
   simp only at HZ HP
   go_upto_region 5 with (first
    | (go_at_call 59; refine (HZ.out).mono ?_; rintro e w4 ⟨rfl,hs4⟩))
   obtain ⟨O4,hS4⟩:=hs4.out
   have hS5:LS w O O4 b s s (some { c with subst:=fillB c }) ((w4.heap.size + 1,[I J 72,I J f2],32) :: (w4.heap.size,[.bool false,Ψ ⟨#[]⟩,I J 0,I J 0],109) :: [(w.heap.size,flL (0,0),32)]) ((w4.alloc (Δ #[.bool false,Ψ ⟨#[]⟩,I J 0,I J 0] 109)).alloc (Δ #[I J 72,I J f2] 32)):=(hS4.alloc [.bool false,Ψ ⟨#[]⟩,I J 0,I J 0] 109).allocE [I J 72,I J f2] 32 rfl (by simp)
   clear hs4 hS4 HZ
   have HS5:=hid hS5
   clear hS5
   generalize (w4.alloc (Δ #[.bool false,Ψ ⟨#[]⟩,I J 0,I J 0] 109)).alloc (Δ #[I J 72,I J f2] 32) = w5 at *
   generalize w4.heap.size = g5 at *
   have u0:w5.cell? ⟨g5 + 1,0,none⟩ = some (I J 72):=HS5.out.at (g:=g5 + 1) (cs:=[I J 72,I J f2]) (ty:=32) (by simp) rfl
   have u1:w5.cell? ⟨g5 + 1,1,none⟩ = some (I J f2):=HS5.out.at (g:=g5 + 1) (cs:=[I J 72,I J f2]) (ty:=32) (by simp) rfl
   have n72:((72:Int) != 0) = true:=rfl
   have z0:w5.cell? ⟨w.heap.size,0,none⟩ = some (I J 0):=HS5.out.at (g:=w.heap.size) (cs:=flL (0,0)) (ty:=32) (by simp) rfl
   have z1:w5.cell? ⟨w.heap.size,1,none⟩ = some (I J 0):=HS5.out.at (g:=w.heap.size) (cs:=flL (0,0)) (ty:=32) (by simp) rfl
   have zf:∀ i,w5.frozen? ⟨w.heap.size,i,none⟩ = false:=fun i=>HS5.out.fz (g:=w.heap.size) (cs:=flL (0,0)) (ty:=32) (by simp) i
   go_wp2
   refine bodyPost_ret (v:=flV (72,f2)) ?_ rfl ?_
   ·simp only [results,hres]
    unfold flV
    simp only
    go_simp
   ·show TPost _ _ _ _ _ _
    exact HP.out _ (((HS5.out.sub (L':=[(w.heap.size,flL (0,0),32)]) (by simp) (by simp)).put 0 (I J 72)).put 1 (I J f2)).fr
 | ok x=>
   obtain ⟨c1,m⟩:=x
   have HZ:Hid (Calls Tryz.prog 59 #[Φ (some ⟨b,0,none⟩),.agg #[I J 1,I J 0,I J 0,I J 0],I J c.pl] w3 fun e w'=>e = Ω (.tuple #[.agg #[.bool m.isText,Ψ (bs m.text),I J m.place,I J m.num],.agg #[I J 0,I J 0]]) /\ Hid (∃ O' s',LS w O O' b s s' (some c1) [(w.heap.size,flL (0,0),32)] w')):=HS3.out.zeroOk hl
   have HX:Hid (clipZ { c with subst:=fillB c } = .ok { c1 with front:=m.place,back:=m.place }):=by show clipZ _ = _; unfold clipZ; rw [hl]
   have HKp:=zeroB_keep hl
   have HK:Hid (c1.had 10 = c.had 10 /\ c1.pl = c.pl):=⟨by rw [HKp.1],HKp.2⟩
   clear hl HS3 HKp
   have n0:((0:Int) != 0) = false:=rfl
   go_upto_region 5 with (first
    | (go_at_call 59; refine (HZ.out).mono ?_; rintro e w4 ⟨rfl,hs4⟩))
   obtain ⟨O4,s4,hS4⟩:=hs4.out
   have hS5:LS w O O4 b s s4 (some c1) ((w4.heap.size + 1,[I J 0,I J 0],32) :: (w4.heap.size,[.bool m.isText,Ψ (bs m.text),I J m.place,I J m.num],109) :: [(w.heap.size,flL (0,0),32)]) ((w4.alloc (Δ #[.bool m.isText,Ψ (bs m.text),I J m.place,I J m.num] 109)).alloc (Δ #[I J 0,I J 0] 32)):=(hS4.alloc [.bool m.isText,Ψ (bs m.text),I J m.place,I J m.num] 109).allocE [I J 0,I J 0] 32 rfl (by simp)
   clear hs4 hS4 HZ
   have HS5:=hid hS5
   clear hS5
   generalize (w4.alloc (Δ #[.bool m.isText,Ψ (bs m.text),I J m.place,I J m.num] 109)).alloc (Δ #[I J 0,I J 0] 32) = w5 at *
   generalize w4.heap.size = g5 at *
   have u0:w5.cell? ⟨g5 + 1,0,none⟩ = some (I J 0):=HS5.out.at (g:=g5 + 1) (cs:=[I J 0,I J 0]) (ty:=32) (by simp) rfl
   have y2:w5.drew.cell? ⟨g5,2,none⟩ = some (I J m.place):=HS5.out.at (g:=g5) (cs:=[.bool m.isText,Ψ (bs m.text),I J m.place,I J m.num]) (ty:=109) (by simp) rfl
   have b8:w5.drew.cell? ⟨b,8,none⟩ = some (I J c1.front):=(HS5.out.ck _ rfl).1.c8
   have b9:w5.drew.cell? ⟨b,9,none⟩ = some (I J c1.back):=(HS5.out.ck _ rfl).1.c9
   have bf:∀ i,w5.drew.frozen? ⟨b,i,none⟩ = false:=fun i=>(HS5.out.ck _ rfl).1.fz i
   have HS6:=HS5.out.putC (i:=8) (u:=I J m.place) (c':={ c1 with front:=m.place }) rfl rfl rfl rfl rfl rfl rfl
   have b9s:(w5.setCell ⟨b,8,none⟩ (I J m.place)).drew.cell? ⟨b,9,none⟩ = some (I J c1.back):=(HS6.ck _ rfl).1.c9
   have bfs:∀ i,(w5.setCell ⟨b,8,none⟩ (I J m.place)).drew.frozen? ⟨b,i,none⟩ = false:=fun i=>(HS6.ck _ rfl).1.fz i
   have HS7:Hid (LS w O O4 b s s4 (some { c1 with front:=m.place,back:=m.place }) ((g5 + 1,[I J 0,I J 0],32) :: (g5,[.bool m.isText,Ψ (bs m.text),I J m.place,I J m.num],109) :: [(w.heap.size,flL (0,0),32)]) ((w5.setCell ⟨b,8,none⟩ (I J m.place)).setCell ⟨b,9,none⟩ (I J m.place)).drew):=(HS6.putC (c':={ c1 with front:=m.place,back:=m.place }) rfl rfl rfl rfl rfl rfl rfl).drew
   have y2s:(w5.setCell ⟨b,8,none⟩ (I J m.place)).drew.cell? ⟨g5,2,none⟩ = some (I J m.place):=HS6.at (g:=g5) (cs:=[.bool m.isText,Ψ (bs m.text),I J m.place,I J m.num]) (ty:=109) (by simp) rfl
   clear HS6 b9
   generalize c1.front = fr0 at b8
   generalize c1.back = bk0 at b9s
   go_upto_region 7 with (fail)
   go_region
   clear HS5 u0 y2 b8 b9s bf bfs y2s
   generalize ((w5.setCell ⟨b,8,none⟩ (I J m.place)).setCell ⟨b,9,none⟩ (I J m.place)).drew = w7 at *
   have e10:w7.cell? ⟨b,23,none⟩ = some (.bool true):=by have:=(HS7.out.ck _ rfl).1.had10; rw [show ({ c1 with front:=m.place,back:=m.place }:Ck).had 10 = true from HK.out.1.trans h10] at this; exact this
   clear h10 HK
   have z0:w7.cell? ⟨w.heap.size,0,none⟩ = some (I J 0):=HS7.out.at (g:=w.heap.size) (cs:=flL (0,0)) (ty:=32) (by simp) rfl
   have z1:w7.cell? ⟨w.heap.size,1,none⟩ = some (I J 0):=HS7.out.at (g:=w.heap.size) (cs:=flL (0,0)) (ty:=32) (by simp) rfl
   have zf:∀ i,w7.frozen? ⟨w.heap.size,i,none⟩ = false:=fun i=>HS7.out.fz (g:=w.heap.size) (cs:=flL (0,0)) (ty:=32) (by simp) i
   go_wp2
   refine bodyPost_ret (v:=flV (0,0)) ?_ rfl ?_
   ·simp only [results,hres]
    unfold flV
    simp only
    go_simp
   ·show TPost _ _ _ _ _ _
    rw [HX.out]
    exact (((HS7.out.sub (L':=[(w.heap.size,flL (0,0),32)]) (by simp) (by simp)).put 0 (I J 0)).put 1 (I J 0)).done
theorem end_ff {O:Nat -> Prop} {b:Nat} {s:Sl} {c:Ck} (w:World) (hck:CkAt O b s c w) (hok:CkOk c) (h2:c.had 2 = true) (h7:c.had 7 = true) (hne:c.letters ≠ []) (hf:-1 ∉ fillB c) (h9:c.had 9 = false) (h10:c.had 10 = false) :
 Calls Tryz.prog 29 #[Φ (some ⟨b,0,none⟩)] w (TPost O b w (endZ { c with subst:=fillB c })):=by
 have hres:Tryz.f29.results = #[.cell 2 32]:=by kernel_rfl
 have hS1:=LS.startE hck hok
 generalize hO1:(fun g=>O g /\ g < w.heap.size) = O1 at hS1
 have HS1:=hid hS1
 have HSc:Hid (∀ W,LS w O O1 b s s (some c) [(w.heap.size,flL (0,0),32)] W -> Calls Tryz.prog 58 #[Φ (some ⟨b,0,none⟩)] W fun e w'=>e = Ω (.bool true) /\ Hid (∃ O',LS w O O' b s s (some { c with subst:=fillB c }) [(w.heap.size,flL (0,0),32)] w')):=fun W hW=>by
  have:=hW.score hne
  rw [show decide (-1 ∉ fillB c) = true by simpa using hf] at this
  exact this
 clear hf hne
 clear hS1 hO1 hck hok
 go_enter Tryz.func29,Tryz.ntmps29
 go_upto_region 1 with (fail)
 generalize (w.alloc (Δ #[I J 0,I J 0] 32)) = w1 at *
 have d2:w1.cell? ⟨b,15,none⟩ = some (.bool true):=by have:=(HS1.out.ck _ rfl).1.had2; rw [h2] at this; exact this
 have d7:w1.cell? ⟨b,20,none⟩ = some (.bool true):=by have:=(HS1.out.ck _ rfl).1.had7; rw [h7] at this; exact this
 clear h2 h7
 go_upto_region 3 with (first
  | (go_at_call 58; refine (HSc.out _ HS1.out).mono ?_; rintro e w3 ⟨rfl,hs3⟩; obtain ⟨O3,hS3⟩:=hs3.out; have HS3:Hid (LS w O O3 b s s (some { c with subst:=fillB c }) [(w.heap.size,flL (0,0),32)] w3):=hS3; clear hs3 hS3))
 clear HS1 HSc d2 d7
 have e9:w3.cell? ⟨b,22,none⟩ = some (.bool false):=by have:=(HS3.out.ck _ rfl).1.had9; rw [show ({ c with subst:=fillB c }:Ck).had 9 = false from h9] at this; exact this
 clear h9
 have e24:w3.cell? ⟨b,24,none⟩ = some (I J c.pl):=(HS3.out.ck _ rfl).1.c24
 cases hl:zeroB { c with subst:=fillB c } with
 | error f=>
   have HZ:Hid (Calls Tryz.prog 59 #[Φ (some ⟨b,0,none⟩),.agg #[I J 1,I J 0,I J 0,I J 0],I J c.pl] w3 fun e w'=>e = Ω (.tuple #[.agg #[.bool false,Ψ ⟨#[]⟩,I J 0,I J 0],.agg #[I J 72,I J f.2]]) /\ Hid (∃ O',LS w O O' b s s (some { c with subst:=fillB c }) [(w.heap.size,flL (0,0),32)] w')):=HS3.out.zeroErr hl
   have HP:Hid (∀ W,Fr O w W -> TPost O b w (endZ { c with subst:=fillB c }) (Ω (flV (72,f.2))) W):=fun W hW=>by
    have e2:clipZ { c with subst:=fillB c } = .error f:=by unfold clipZ; rw [hl]
    have e3:endZ { c with subst:=fillB c } = .error f:=by unfold endZ; rw [e2]
    rw [e3]
    have e1:=(zeroB_err hl).2
    subst e1
    exact ⟨by simp,rfl,hW⟩
   clear hl HS3 h10
   obtain ⟨f1,f2⟩:=f
   simp only at HZ HP
   go_upto_region 5 with (first
    | (go_at_call 59; refine (HZ.out).mono ?_; rintro e w4 ⟨rfl,hs4⟩))
   obtain ⟨O4,hS4⟩:=hs4.out
   have hS5:LS w O O4 b s s (some { c with subst:=fillB c }) ((w4.heap.size + 1,[I J 72,I J f2],32) :: (w4.heap.size,[.bool false,Ψ ⟨#[]⟩,I J 0,I J 0],109) :: [(w.heap.size,flL (0,0),32)]) ((w4.alloc (Δ #[.bool false,Ψ ⟨#[]⟩,I J 0,I J 0] 109)).alloc (Δ #[I J 72,I J f2] 32)):=(hS4.alloc [.bool false,Ψ ⟨#[]⟩,I J 0,I J 0] 109).allocE [I J 72,I J f2] 32 rfl (by simp)
   clear hs4 hS4 HZ
   have HS5:=hid hS5
   clear hS5
   generalize (w4.alloc (Δ #[.bool false,Ψ ⟨#[]⟩,I J 0,I J 0] 109)).alloc (Δ #[I J 72,I J f2] 32) = w5 at *
   generalize w4.heap.size = g5 at *
   have u0:w5.cell? ⟨g5 + 1,0,none⟩ = some (I J 72):=HS5.out.at (g:=g5 + 1) (cs:=[I J 72,I J f2]) (ty:=32) (by simp) rfl
   have u1:w5.cell? ⟨g5 + 1,1,none⟩ = some (I J f2):=HS5.out.at (g:=g5 + 1) (cs:=[I J 72,I J f2]) (ty:=32) (by simp) rfl
   have n72:((72:Int) != 0) = true:=rfl
   have z0:w5.cell? ⟨w.heap.size,0,none⟩ = some (I J 0):=HS5.out.at (g:=w.heap.size) (cs:=flL (0,0)) (ty:=32) (by simp) rfl
   have z1:w5.cell? ⟨w.heap.size,1,none⟩ = some (I J 0):=HS5.out.at (g:=w.heap.size) (cs:=flL (0,0)) (ty:=32) (by simp) rfl
   have zf:∀ i,w5.frozen? ⟨w.heap.size,i,none⟩ = false:=fun i=>HS5.out.fz (g:=w.heap.size) (cs:=flL (0,0)) (ty:=32) (by simp) i
   go_wp2
   refine bodyPost_ret (v:=flV (72,f2)) ?_ rfl ?_
   ·simp only [results,hres]
    unfold flV
    simp only
    go_simp
   ·show TPost _ _ _ _ _ _
    exact HP.out _ (((HS5.out.sub (L':=[(w.heap.size,flL (0,0),32)]) (by simp) (by simp)).put 0 (I J 72)).put 1 (I J f2)).fr
 | ok x=>
   obtain ⟨c1,m⟩:=x
   have HZ:Hid (Calls Tryz.prog 59 #[Φ (some ⟨b,0,none⟩),.agg #[I J 1,I J 0,I J 0,I J 0],I J c.pl] w3 fun e w'=>e = Ω (.tuple #[.agg #[.bool m.isText,Ψ (bs m.text),I J m.place,I J m.num],.agg #[I J 0,I J 0]]) /\ Hid (∃ O' s',LS w O O' b s s' (some c1) [(w.heap.size,flL (0,0),32)] w')):=HS3.out.zeroOk hl
   have HX:Hid (clipZ { c with subst:=fillB c } = .ok { c1 with front:=m.place,back:=m.place }):=by show clipZ _ = _; unfold clipZ; rw [hl]
   have HKp:=zeroB_keep hl
   have HK:Hid (c1.had 10 = c.had 10 /\ c1.pl = c.pl):=⟨by rw [HKp.1],HKp.2⟩
   clear hl HS3 HKp
   have n0:((0:Int) != 0) = false:=rfl
   go_upto_region 5 with (first
    | (go_at_call 59; refine (HZ.out).mono ?_; rintro e w4 ⟨rfl,hs4⟩))
   obtain ⟨O4,s4,hS4⟩:=hs4.out
   have hS5:LS w O O4 b s s4 (some c1) ((w4.heap.size + 1,[I J 0,I J 0],32) :: (w4.heap.size,[.bool m.isText,Ψ (bs m.text),I J m.place,I J m.num],109) :: [(w.heap.size,flL (0,0),32)]) ((w4.alloc (Δ #[.bool m.isText,Ψ (bs m.text),I J m.place,I J m.num] 109)).alloc (Δ #[I J 0,I J 0] 32)):=(hS4.alloc [.bool m.isText,Ψ (bs m.text),I J m.place,I J m.num] 109).allocE [I J 0,I J 0] 32 rfl (by simp)
   clear hs4 hS4 HZ
   have HS5:=hid hS5
   clear hS5
   generalize (w4.alloc (Δ #[.bool m.isText,Ψ (bs m.text),I J m.place,I J m.num] 109)).alloc (Δ #[I J 0,I J 0] 32) = w5 at *
   generalize w4.heap.size = g5 at *
   have u0:w5.cell? ⟨g5 + 1,0,none⟩ = some (I J 0):=HS5.out.at (g:=g5 + 1) (cs:=[I J 0,I J 0]) (ty:=32) (by simp) rfl
   have y2:w5.drew.cell? ⟨g5,2,none⟩ = some (I J m.place):=HS5.out.at (g:=g5) (cs:=[.bool m.isText,Ψ (bs m.text),I J m.place,I J m.num]) (ty:=109) (by simp) rfl
   have b8:w5.drew.cell? ⟨b,8,none⟩ = some (I J c1.front):=(HS5.out.ck _ rfl).1.c8
   have b9:w5.drew.cell? ⟨b,9,none⟩ = some (I J c1.back):=(HS5.out.ck _ rfl).1.c9
   have bf:∀ i,w5.drew.frozen? ⟨b,i,none⟩ = false:=fun i=>(HS5.out.ck _ rfl).1.fz i
   have HS6:=HS5.out.putC (i:=8) (u:=I J m.place) (c':={ c1 with front:=m.place }) rfl rfl rfl rfl rfl rfl rfl
   have b9s:(w5.setCell ⟨b,8,none⟩ (I J m.place)).drew.cell? ⟨b,9,none⟩ = some (I J c1.back):=(HS6.ck _ rfl).1.c9
   have bfs:∀ i,(w5.setCell ⟨b,8,none⟩ (I J m.place)).drew.frozen? ⟨b,i,none⟩ = false:=fun i=>(HS6.ck _ rfl).1.fz i
   have HS7:Hid (LS w O O4 b s s4 (some { c1 with front:=m.place,back:=m.place }) ((g5 + 1,[I J 0,I J 0],32) :: (g5,[.bool m.isText,Ψ (bs m.text),I J m.place,I J m.num],109) :: [(w.heap.size,flL (0,0),32)]) ((w5.setCell ⟨b,8,none⟩ (I J m.place)).setCell ⟨b,9,none⟩ (I J m.place)).drew):=(HS6.putC (c':={ c1 with front:=m.place,back:=m.place }) rfl rfl rfl rfl rfl rfl rfl).drew
   have y2s:(w5.setCell ⟨b,8,none⟩ (I J m.place)).drew.cell? ⟨g5,2,none⟩ = some (I J m.place):=HS6.at (g:=g5) (cs:=[.bool m.isText,Ψ (bs m.text),I J m.place,I J m.num]) (ty:=109) (by simp) rfl
   clear HS6 b9
   generalize c1.front = fr0 at b8
   generalize c1.back = bk0 at b9s
   go_upto_region 7 with (fail)
   go_region
   clear HS5 u0 y2 b8 b9s bf bfs y2s
   generalize ((w5.setCell ⟨b,8,none⟩ (I J m.place)).setCell ⟨b,9,none⟩ (I J m.place)).drew = w7 at *
   have e10:w7.cell? ⟨b,23,none⟩ = some (.bool false):=by have:=(HS7.out.ck _ rfl).1.had10; rw [show ({ c1 with front:=m.place,back:=m.place }:Ck).had 10 = false from HK.out.1.trans h10] at this; exact this
   clear h10 HK
   have e24:w7.cell? ⟨b,24,none⟩ = some (I J c1.pl):=(HS7.out.ck _ rfl).1.c24
   cases hl:zeroB { c1 with front:=m.place,back:=m.place } with
   | error f=>
     have HZ:Hid (Calls Tryz.prog 59 #[Φ (some ⟨b,0,none⟩),.agg #[I J 1,I J 0,I J 0,I J 0],I J c1.pl] w7 fun e w'=>e = Ω (.tuple #[.agg #[.bool false,Ψ ⟨#[]⟩,I J 0,I J 0],.agg #[I J 72,I J f.2]]) /\ Hid (∃ O',LS w O O' b s s4 (some { c1 with front:=m.place,back:=m.place }) ((g5 + 1,[I J 0,I J 0],32) :: (g5,[.bool m.isText,Ψ (bs m.text),I J m.place,I J m.num],109) :: [(w.heap.size,flL (0,0),32)]) w')):=HS7.out.zeroErr hl
     have HP:Hid (∀ W,Fr O w W -> TPost O b w (endZ { c with subst:=fillB c }) (Ω (flV (72,f.2))) W):=fun W hW=>by
      have e2:endZ { c with subst:=fillB c } = .error f:=by unfold endZ; rw [HX.out]; show leastB _ = _; unfold leastB; rw [hl]
      rw [e2]
      have e1:=(zeroB_err hl).2
      subst e1
      exact ⟨by simp,rfl,hW⟩
     clear hl HS7 HX
     obtain ⟨f1,f2⟩:=f
     simp only at HZ HP
     go_upto_region 10 with (first
      | (go_at_call 59; refine (HZ.out).mono ?_; rintro e w8 ⟨rfl,hs8⟩))
     obtain ⟨O8,hS8⟩:=hs8.out
     have hS9:LS w O O8 b s s4 (some { c1 with front:=m.place,back:=m.place }) ((w8.heap.size + 1,[I J 72,I J f2],32) :: (w8.heap.size,[.bool false,Ψ ⟨#[]⟩,I J 0,I J 0],109) :: ((g5 + 1,[I J 0,I J 0],32) :: (g5,[.bool m.isText,Ψ (bs m.text),I J m.place,I J m.num],109) :: [(w.heap.size,flL (0,0),32)])) ((w8.alloc (Δ #[.bool false,Ψ ⟨#[]⟩,I J 0,I J 0] 109)).alloc (Δ #[I J 72,I J f2] 32)):=(hS8.alloc [.bool false,Ψ ⟨#[]⟩,I J 0,I J 0] 109).allocE [I J 72,I J f2] 32 rfl (by simp)
     clear hs8 hS8 HZ
     have HS9:=hid hS9
     clear hS9
     generalize ((w8.alloc (Δ #[.bool false,Ψ ⟨#[]⟩,I J 0,I J 0] 109)).alloc (Δ #[I J 72,I J f2] 32)) = w9 at *
     generalize w8.heap.size = g8 at *
     have y2:w9.cell? ⟨g8,2,none⟩ = some (I J 0):=HS9.out.at (g:=g8) (cs:=[.bool false,Ψ ⟨#[]⟩,I J 0,I J 0]) (ty:=109) (by simp) rfl
     have b10:w9.cell? ⟨b,10,none⟩ = some (I J ({ c1 with front:=m.place,back:=m.place }:Ck).least):=(HS9.out.ck _ rfl).1.c10
     have bf:∀ i,w9.frozen? ⟨b,i,none⟩ = false:=fun i=>(HS9.out.ck _ rfl).1.fz i
     generalize ({ c1 with front:=m.place,back:=m.place }:Ck).least = l0 at b10
     go_upto_region 11 with (fail)
     have HS10:Hid (LS w O O8 b s s4 (some { c1 with front:=m.place,back:=m.place,least:=0 }) ((g8 + 1,[I J 72,I J f2],32) :: (g8,[.bool false,Ψ ⟨#[]⟩,I J 0,I J 0],109) :: ((g5 + 1,[I J 0,I J 0],32) :: (g5,[.bool m.isText,Ψ (bs m.text),I J m.place,I J m.num],109) :: [(w.heap.size,flL (0,0),32)])) (w9.setCell ⟨b,10,none⟩ (I J 0))):=HS9.out.putC rfl rfl rfl rfl rfl rfl rfl
     clear HS9 y2 b10 bf
     generalize w9.setCell ⟨b,10,none⟩ (I J 0) = w10 at *
     have u0:w10.cell? ⟨g8 + 1,0,none⟩ = some (I J 72):=HS10.out.at (g:=g8 + 1) (cs:=[I J 72,I J f2]) (ty:=32) (by simp) rfl
     have u1:w10.cell? ⟨g8 + 1,1,none⟩ = some (I J f2):=HS10.out.at (g:=g8 + 1) (cs:=[I J 72,I J f2]) (ty:=32) (by simp) rfl
     have z0:w10.cell? ⟨w.heap.size,0,none⟩ = some (I J 0):=HS10.out.at (g:=w.heap.size) (cs:=flL (0,0)) (ty:=32) (by simp) rfl
     have z1:w10.cell? ⟨w.heap.size,1,none⟩ = some (I J 0):=HS10.out.at (g:=w.heap.size) (cs:=flL (0,0)) (ty:=32) (by simp) rfl
     have zf:∀ i,w10.frozen? ⟨w.heap.size,i,none⟩ = false:=fun i=>HS10.out.fz (g:=w.heap.size) (cs:=flL (0,0)) (ty:=32) (by simp) i
     go_wp2
     refine bodyPost_ret (v:=flV (72,f2)) ?_ rfl ?_
     ·simp only [results,hres]
      unfold flV
      simp only
      go_simp
     ·show TPost _ _ _ _ _ _
      exact HP.out _ (((HS10.out.sub (L':=[(w.heap.size,flL (0,0),32)]) (by simp) (by simp)).put 0 (I J 72)).put 1 (I J f2)).fr
   | ok x=>
     obtain ⟨c5,m5⟩:=x
     have HZ:Hid (Calls Tryz.prog 59 #[Φ (some ⟨b,0,none⟩),.agg #[I J 1,I J 0,I J 0,I J 0],I J c1.pl] w7 fun e w'=>e = Ω (.tuple #[.agg #[.bool m5.isText,Ψ (bs m5.text),I J m5.place,I J m5.num],.agg #[I J 0,I J 0]]) /\ Hid (∃ O' s',LS w O O' b s s' (some c5) ((g5 + 1,[I J 0,I J 0],32) :: (g5,[.bool m.isText,Ψ (bs m.text),I J m.place,I J m.num],109) :: [(w.heap.size,flL (0,0),32)]) w')):=HS7.out.zeroOk hl
     have HX5:Hid (endZ { c with subst:=fillB c } = .ok { c5 with least:=m5.place }):=by show endZ _ = _; unfold endZ; rw [HX.out]; show leastB _ = _; unfold leastB; rw [hl]
     clear hl HS7 HX
     go_upto_region 10 with (first
      | (go_at_call 59; refine (HZ.out).mono ?_; rintro e w8 ⟨rfl,hs8⟩))
     obtain ⟨O8,s8,hS8⟩:=hs8.out
     have hS9:LS w O O8 b s s8 (some c5) ((w8.heap.size + 1,[I J 0,I J 0],32) :: (w8.heap.size,[.bool m5.isText,Ψ (bs m5.text),I J m5.place,I J m5.num],109) :: ((g5 + 1,[I J 0,I J 0],32) :: (g5,[.bool m.isText,Ψ (bs m.text),I J m.place,I J m.num],109) :: [(w.heap.size,flL (0,0),32)])) ((w8.alloc (Δ #[.bool m5.isText,Ψ (bs m5.text),I J m5.place,I J m5.num] 109)).alloc (Δ #[I J 0,I J 0] 32)):=(hS8.alloc [.bool m5.isText,Ψ (bs m5.text),I J m5.place,I J m5.num] 109).allocE [I J 0,I J 0] 32 rfl (by simp)
     clear hs8 hS8 HZ
     have HS9:=hid hS9
     clear hS9
     generalize ((w8.alloc (Δ #[.bool m5.isText,Ψ (bs m5.text),I J m5.place,I J m5.num] 109)).alloc (Δ #[I J 0,I J 0] 32)) = w9 at *
     generalize w8.heap.size = g8 at *
     have y2:w9.cell? ⟨g8,2,none⟩ = some (I J m5.place):=HS9.out.at (g:=g8) (cs:=[.bool m5.isText,Ψ (bs m5.text),I J m5.place,I J m5.num]) (ty:=109) (by simp) rfl
     have b10:w9.cell? ⟨b,10,none⟩ = some (I J (c5:Ck).least):=(HS9.out.ck _ rfl).1.c10
     have bf:∀ i,w9.frozen? ⟨b,i,none⟩ = false:=fun i=>(HS9.out.ck _ rfl).1.fz i
     generalize (c5:Ck).least = l0 at b10
     go_upto_region 11 with (fail)
     have HS10:Hid (LS w O O8 b s s8 (some { c5 with least:=m5.place }) ((g8 + 1,[I J 0,I J 0],32) :: (g8,[.bool m5.isText,Ψ (bs m5.text),I J m5.place,I J m5.num],109) :: ((g5 + 1,[I J 0,I J 0],32) :: (g5,[.bool m.isText,Ψ (bs m.text),I J m.place,I J m.num],109) :: [(w.heap.size,flL (0,0),32)])) (w9.setCell ⟨b,10,none⟩ (I J m5.place))):=HS9.out.putC rfl rfl rfl rfl rfl rfl rfl
     clear HS9 y2 b10 bf
     generalize w9.setCell ⟨b,10,none⟩ (I J m5.place) = w10 at *
     have u0:w10.cell? ⟨g8 + 1,0,none⟩ = some (I J 0):=HS10.out.at (g:=g8 + 1) (cs:=[I J 0,I J 0]) (ty:=32) (by simp) rfl
     have u1:w10.cell? ⟨g8 + 1,1,none⟩ = some (I J 0):=HS10.out.at (g:=g8 + 1) (cs:=[I J 0,I J 0]) (ty:=32) (by simp) rfl
     have z0:w10.cell? ⟨w.heap.size,0,none⟩ = some (I J 0):=HS10.out.at (g:=w.heap.size) (cs:=flL (0,0)) (ty:=32) (by simp) rfl
     have z1:w10.cell? ⟨w.heap.size,1,none⟩ = some (I J 0):=HS10.out.at (g:=w.heap.size) (cs:=flL (0,0)) (ty:=32) (by simp) rfl
     have zf:∀ i,w10.frozen? ⟨w.heap.size,i,none⟩ = false:=fun i=>HS10.out.fz (g:=w.heap.size) (cs:=flL (0,0)) (ty:=32) (by simp) i
     go_wp2
     refine bodyPost_ret (v:=flV (0,0)) ?_ rfl ?_
     ·simp only [results,hres]
      unfold flV
      simp only
      go_simp
     ·show TPost _ _ _ _ _ _
      rw [HX5.out]
      exact (((HS10.out.sub (L':=[(w.heap.size,flL (0,0),32)]) (by simp) (by simp)).put 0 (I J 0)).put 1 (I J 0)).done
theorem end_calls {O:Nat -> Prop} {b:Nat} {s:Sl} {c:Ck} (w:World) (hck:CkAt O b s c w) (hok:CkOk c) (hal:c.had 2 = true -> c.letters ≠ []) :
 Calls Tryz.prog 29 #[Φ (some ⟨b,0,none⟩)] w (TPost O b w (endsB c)):=by
 cases h2:c.had 2
 ·have e:endsB c = .error (94,c.pl):=by unfold endsB; rw [if_pos (Or.inl h2)]
  rw [e]; exact end_a w hck hok h2
 ·cases h7:c.had 7
  ·have e:endsB c = .error (94,c.pl):=by unfold endsB; rw [if_pos (Or.inr (Or.inl h7))]
   rw [e]; exact end_b w hck hok h2 h7
  ·by_cases hf:-1 ∈ fillB c
   ·have e:endsB c = .error (94,c.pl):=by unfold endsB; rw [if_pos (Or.inr (Or.inr hf))]
    rw [e]; exact end_c w hck hok h2 h7 (hal h2) hf
   ·have h0:¬ (c.had 2 = false \/ c.had 7 = false \/ -1 ∈ fillB c):=by rw [h2,h7]; simp [hf]
    cases h9:c.had 9 <;> cases h10:c.had 10
    ·have e:endsB c = endZ { c with subst:=fillB c }:=by
      unfold endsB endZ clipZ
      rw [if_neg h0,if_pos h9]
      cases hz:zeroB { c with subst:=fillB c } with
      | error f=>rfl
      | ok x=>
        obtain ⟨c1,m⟩:=x
        have hk:=(zeroB_keep hz).1
        have h10':c1.had 10 = false:=by rw [hk]; exact h10
        simp only [h10',if_true]
        rfl
     rw [e]; exact end_ff w hck hok h2 h7 (hal h2) hf h9 h10
    ·have e:endsB c = clipZ { c with subst:=fillB c }:=by
      unfold endsB clipZ
      rw [if_neg h0,if_pos h9]
      cases hz:zeroB { c with subst:=fillB c } with
      | error f=>rfl
      | ok x=>
        obtain ⟨c1,m⟩:=x
        have hk:=(zeroB_keep hz).1
        have h10':c1.had 10 = true:=by rw [hk]; exact h10
        simp [h10']
     rw [e]; exact end_ft w hck hok h2 h7 (hal h2) hf h9 h10
    ·have e:endsB c = leastB { c with subst:=fillB c }:=by
      unfold endsB leastB
      rw [if_neg h0,if_neg (by rw [h9]; decide)]
      simp only [h10,if_true]
      cases hz:zeroB { c with subst:=fillB c } with
      | error f=>rfl
      | ok x=>rfl
     rw [e]; exact end_tf w hck hok h2 h7 (hal h2) hf h9 h10
    ·have e:endsB c = .ok { c with subst:=fillB c }:=by
      unfold endsB
      rw [if_neg h0,if_neg (by rw [h9]; decide)]
      simp [h10]
     rw [e]; exact end_tt w hck hok h2 h7 (hal h2) hf h9 h10
structure CkB (n:Nat) (c:Ck):Prop where
 ok:CkOk c
 al:c.had 2 = true -> c.letters ≠ []
 nm:c.names.length <= n
theorem ck0_ok:CkB 0 ck0:=by
 refine ⟨⟨?_,rfl,by decide,?_,?_,by decide,by decide⟩,?_,Nat.le_refl _⟩
 ·intro v hv; simp [ck0] at hv
 ·intro s m h; simp [ck0,lookN] at h
 ·intro h; exact absurd rfl h
 ·intro h; simp [ck0] at h
theorem CkOk.at {c:Ck} (h:CkOk c) (p:Int) (hd:Nat -> Bool):CkOk { c with pl:=p,had:=hd }:=⟨h.vals,h.same,h.few,h.names,h.alpha,h.sub,h.pcs⟩
/-- The arguments of an item that is right. -/
structure ArgOk (e:Ex):Prop where
 ok:okE e.1 e.2
 text:e.1.text.length <= maxLen
 short:shortF e.2
theorem arg1_ok {F:Fo} {n:Nat} (hl:lenF F = n + 1) (hr:rgtF 32 F = true) (hs:shortF F):ArgOk (arg1 F):=by
 cases F with
 | nil=>simp [lenF] at hl
 | node b o h k r=>
   have:=(okF_node ⟨32,hr⟩).1
   exact ⟨this,hs.1,hs.2.1⟩
theorem arg2_ok {F:Fo} (hl:lenF F = 2) (hr:rgtF 32 F = true) (hs:shortF F):ArgOk (arg2 F):=by
 cases F with
 | nil=>simp [lenF] at hl
 | node b o h k r=>
   have h2:=(okF_node ⟨32,hr⟩).2
   obtain ⟨d,hd⟩:=h2
   cases r with
   | nil=>simp [lenF] at hl
   | node b2 o2 h2 k2 r2=>
     have:=(okF_node ⟨d,hd⟩).1
     exact ⟨this,hs.2.2.1,hs.2.2.2.1⟩
theorem askQ_good {q:Mn -> Int} {c c':Ck} {e:Ex} {m:Mn} (hok:CkOk c) (he:ArgOk e) (h:askQ q c e = .ok (c',m)):CkOk c' /\ MnOk c'.values.length m /\ Sm c c' /\ q m = 0:=
 askQ_ok (h:=e.1) (k:=e.2) hok he.ok he.text he.short h
theorem askE_good {c c':Ck} {e:Ex} {m:Mn} (hok:CkOk c) (he:ArgOk e) (h:askE c e = .ok (c',m)):CkOk c' /\ MnOk c'.values.length m /\ Sm c c':=
 askE_ok (h:=e.1) (k:=e.2) hok he.ok he.text he.short h
theorem costsB_good {c c':Ck} {e1 e2:Ex} {p q:Int} (hok:CkOk c) (h1:ArgOk e1) (h2:ArgOk e2) (h:costsB c e1 e2 = .ok (c',p,q)):CkOk c' /\ Sm c c':=by
 unfold costsB at h
 split at h
 ·cases h
 ·rename_i c1 m1 ha
  split at h
  ·cases h
  ·rename_i c2 m2 hb
   cases h
   obtain ⟨a1,a2,a3,a4⟩:=askQ_good hok h1 ha
   obtain ⟨b1,b2,b3,b4⟩:=askQ_good a1 h2 hb
   exact ⟨b1,a3.trans b3⟩
theorem singleB_good {set:Ck -> Int -> Ck} {c c':Ck} {e:Ex} (hok:CkOk c) (he:ArgOk e) (h:singleB set c e = .ok c'):∃ c1 m,askQ (numFrom (-maxK)) c e = .ok (c1,m) /\ c' = set c1 m.place /\ CkOk c1 /\ Sm c c1:=by
 unfold singleB at h
 split at h
 ·cases h
 ·rename_i c1 m ha
  cases h
  obtain ⟨a1,a2,a3,a4⟩:=askQ_good hok he ha
  exact ⟨c1,m,ha,rfl,a1,a3⟩
theorem right_ne {l:List UInt8} (h:Al.rightB l = true):l ≠ []:=fun e=>by
 have:=right_few h
 rw [e] at this
 simp at this
/-- What is asked of the next: it may be, letters stand, so many names. -/
structure Nx (c c':Ck):Prop where
 ok:CkOk c'
 had:c'.had = c.had
 let_:c.letters ≠ [] -> c'.letters ≠ []
 nm:c'.names.length <= c.names.length + 1
theorem Nx.of {c c1 c':Ck} (hok:CkOk c') (hs:Sm c c1) (h1:c'.had = c1.had) (h2:c'.letters = c1.letters) (h3:c'.names = c1.names):Nx c c':=
 ⟨hok,by rw [h1,hs.had],fun h=>by rw [h2,hs.letters]; exact h,by rw [h3,hs.names]; omega⟩
theorem bodyB_good {c c':Ck} {i:It} (hok:CkOk c) (hi:itRight i = true) (hs:shortF i.args) (h:bodyB c i = .ok c'):Nx c c' /\ (i.kind = 2 -> c'.letters ≠ []):=by
 unfold bodyB at h
 unfold itRight at hi
 by_cases k1:i.kind = 1
 ·rw [if_pos k1] at h hi
  simp only [Bool.and_eq_true,decide_eq_true_eq] at hi
  have ha:=arg1_ok (n:=0) hi.2.1 hi.2.2 hs
  unfold letB at h
  split at h
  ·cases h
  ·rename_i c1 m hm
   cases h
   obtain ⟨a1,a2,a3⟩:=askE_good hok ha hm
   refine ⟨⟨⟨a1.vals,a1.same,a1.few,fun s m' hl=>?_,a1.alpha,a1.sub,a1.pcs⟩,a3.had,fun h=>by rw [a3.letters]; exact h,by simp [a3.names]⟩,fun h2=>by omega⟩
   simp only [lookN] at hl
   split at hl
   ·cases hl; exact a2
   ·exact a1.names s m' hl
 rw [if_neg k1] at h hi
 by_cases k7:i.kind = 7
 ·rw [k7] at h
  simp only [show ¬ (7:Int) = 2 by decide,show ¬ (7:Int) = 5 by decide,show ¬ (7:Int) = 6 by decide,if_false,if_true] at h
  cases h
  exact ⟨⟨⟨hok.vals,hok.same,hok.few,hok.names,hok.alpha,hok.sub,hok.pcs⟩,rfl,fun h=>h,by simp⟩,fun h2=>by omega⟩
 rw [if_neg k7] at hi
 by_cases kA:i.kind = 2 \/ i.kind = 3 \/ i.kind = 4 \/ i.kind = 10
 ·rw [if_pos kA] at hi
  simp only [Bool.and_eq_true,decide_eq_true_eq] at hi
  have ha:=arg1_ok (n:=0) hi.2.1 hi.2.2 hs
  rcases kA with k | k | k | k
  ·rw [if_pos k] at h
   unfold alphabetB at h
   split at h
   ·cases h
   ·rename_i c1 m hm
    cases h
    obtain ⟨a1,a2,a3,a4⟩:=askQ_good hok ha hm
    have hr:=(askQ_text hm).2
    have hf:=right_few hr
    have hne:=right_ne hr
    refine ⟨⟨⟨a1.vals,a1.same,a1.few,a1.names,fun _=>⟨hr,by simp⟩,?_,a1.pcs⟩,a3.had,fun _=>hne,by simp [a3.names]⟩,fun _=>hne⟩
    show (List.replicate (m.text.length * m.text.length) (-1:Int)).length <= 400
    rw [List.length_replicate]
    have:=Nat.mul_le_mul hf.2 hf.2
    omega
  ·rw [k] at h
   simp only [show ¬ (3:Int) = 2 by decide,show ¬ (3:Int) = 5 by decide,show ¬ (3:Int) = 6 by decide,show ¬ (3:Int) = 7 by decide,show ¬ (3:Int) = 8 by decide,show ¬ (3:Int) = 9 by decide,if_false,if_true] at h
   obtain ⟨c1,m,_,rfl,a1,a3⟩:=singleB_good hok ha h
   exact ⟨.of ⟨a1.vals,a1.same,a1.few,a1.names,a1.alpha,a1.sub,a1.pcs⟩ a3 rfl rfl rfl,fun h2=>by omega⟩
  ·rw [k] at h
   simp only [show ¬ (4:Int) = 2 by decide,show ¬ (4:Int) = 5 by decide,show ¬ (4:Int) = 6 by decide,show ¬ (4:Int) = 7 by decide,show ¬ (4:Int) = 8 by decide,show ¬ (4:Int) = 9 by decide,show ¬ (4:Int) = 3 by decide,if_false,if_true] at h
   obtain ⟨c1,m,_,rfl,a1,a3⟩:=singleB_good hok ha h
   exact ⟨.of ⟨a1.vals,a1.same,a1.few,a1.names,a1.alpha,a1.sub,a1.pcs⟩ a3 rfl rfl rfl,fun h2=>by omega⟩
  ·rw [k] at h
   simp only [show ¬ (10:Int) = 2 by decide,show ¬ (10:Int) = 5 by decide,show ¬ (10:Int) = 6 by decide,show ¬ (10:Int) = 7 by decide,show ¬ (10:Int) = 8 by decide,show ¬ (10:Int) = 9 by decide,show ¬ (10:Int) = 3 by decide,show ¬ (10:Int) = 4 by decide,if_false,if_true] at h
   obtain ⟨c1,m,_,rfl,a1,a3⟩:=singleB_good hok ha h
   exact ⟨.of ⟨a1.vals,a1.same,a1.few,a1.names,a1.alpha,a1.sub,a1.pcs⟩ a3 rfl rfl rfl,fun h2=>by omega⟩
 rw [if_neg kA] at hi
 by_cases kB:i.kind = 5 \/ i.kind = 6 \/ i.kind = 8 \/ i.kind = 9
 ·rw [if_pos kB] at hi
  simp only [Bool.and_eq_true,decide_eq_true_eq] at hi
  have ha:=arg1_ok (n:=1) hi.2.1 hi.2.2 hs
  have hb:=arg2_ok hi.2.1 hi.2.2 hs
  rcases kB with k | k | k | k
  ·rw [k] at h
   simp only [show ¬ (5:Int) = 2 by decide,if_false,if_true] at h
   unfold pairB at h
   split at h
   ·cases h
   ·split at h
    ·cases h
    ·rename_i c1 m hm
     split at h
     ·cases h
     ·obtain ⟨a1,a2,a3,a4⟩:=askQ_good hok ha hm
      obtain ⟨c2,m2,_,rfl,b1,b3⟩:=singleB_good a1 hb h
      refine ⟨.of ⟨b1.vals,b1.same,b1.few,b1.names,?_,?_,b1.pcs⟩ (a3.trans b3) rfl rfl rfl,fun h2=>by omega⟩
      ·intro hx
       have:=b1.alpha hx
       simpa using this
      ·simpa using b1.sub
  ·rw [k] at h
   simp only [show ¬ (6:Int) = 2 by decide,show ¬ (6:Int) = 5 by decide,if_false,if_true] at h
   unfold gapB at h
   split at h
   ·cases h
   ·rename_i hp
    split at h
    ·cases h
    ·rename_i c1 p q hm
     cases h
     obtain ⟨a1,a3⟩:=costsB_good hok ha hb hm
     refine ⟨.of ⟨a1.vals,a1.same,a1.few,a1.names,a1.alpha,a1.sub,?_⟩ a3 rfl rfl rfl,fun h2=>by omega⟩
     have e:c1.pieces = c.pieces:=by rw [a3.rest]
     have:=hok.pcs
     show (c1.pieces ++ [(p,q)]).length <= 4
     rw [e,List.length_append]
     simp
     omega
  ·rw [k] at h
   simp only [show ¬ (8:Int) = 2 by decide,show ¬ (8:Int) = 5 by decide,show ¬ (8:Int) = 6 by decide,show ¬ (8:Int) = 7 by decide,if_false,if_true] at h
   unfold bandB at h
   split at h
   ·cases h
   ·rename_i c1 m1 hm
    split at h
    ·cases h
    ·rename_i c2 m2 hn
     cases h
     obtain ⟨a1,a2,a3,a4⟩:=askQ_good hok ha hm
     obtain ⟨b1,b2,b3,b4⟩:=askQ_good a1 hb hn
     exact ⟨.of ⟨b1.vals,b1.same,b1.few,b1.names,b1.alpha,b1.sub,b1.pcs⟩ (a3.trans b3) rfl rfl rfl,fun h2=>by omega⟩
  ·rw [k] at h
   simp only [show ¬ (9:Int) = 2 by decide,show ¬ (9:Int) = 5 by decide,show ¬ (9:Int) = 6 by decide,show ¬ (9:Int) = 7 by decide,show ¬ (9:Int) = 8 by decide,if_false,if_true] at h
   unfold clipB at h
   split at h
   ·cases h
   ·rename_i c1 p q hm
    cases h
    obtain ⟨a1,a3⟩:=costsB_good hok ha hb hm
    exact ⟨.of ⟨a1.vals,a1.same,a1.few,a1.names,a1.alpha,a1.sub,a1.pcs⟩ a3 rfl rfl rfl,fun h2=>by omega⟩
 ·rw [if_neg kB] at hi
  cases hi
theorem takeC_good {n:Nat} {c c':Ck} {i:It} (hc:CkB n c) (hi:itRight i = true) (hs:shortF i.args) (h:takeC c i = .ok c'):CkB (n + 1) c':=by
 unfold takeC at h
 split at h
 ·cases h
 ·obtain ⟨h1,h2⟩:=bodyB_good (hc.ok.at i.pl (putHad c.had i.kind.toNat)) hi hs h
  have hn:=h1.nm
  have hm:=hc.nm
  simp only at hn
  refine ⟨h1.ok,fun hh=>?_,by omega⟩
  rw [h1.had] at hh
  by_cases k2:i.kind = 2
  ·exact h2 k2
  ·refine h1.let_ (hc.al ?_)
   have hk:¬ 2 = i.kind.toNat:=by
    intro e
    have:1 <= i.kind:=by
     unfold itRight at hi
     split at hi
     ·omega
     ·split at hi
      ·omega
      ·split at hi
       ·omega
       ·split at hi
        ·omega
        ·cases hi
    omega
   simpa [putHad,hk] using hh
end Go.Proofs.YtlaodgdlkkmmeaaGreat
