/-
  An item of one number, whose place is set down: single. Two numbers, neither of which may be below 0: costs. Small calls of the checker: wrong, modeOf; clip.
-/
import Derived.Deep.RegionHeld3
import Derived.Laws.IdiomCopy
import Derived.Test.YtlaodgdlkkmmeaaGreatG35
namespace Go.Proofs.YtlaodgdlkkmmeaaGreat
open Go.RowKit Go.Deep Go.Maps
open Go.Value renaming int->I,pointer->Φ,string->Ψ,slice->Γ
open Go.IntKind renaming i64->J
open Go.Obj renaming cells->Δ
set_option maxRecDepth 20000
set_option maxHeartbeats 4000000
theorem LS.start2 {b:Nat} {s:Sl} {c:Ck} {w:World} {O:Nat -> Prop} (hck:CkAt O b s c w) (hok:CkOk c) (h:Hd) (ka:Option Addr) (kn kc:Nat) :
 LS w O (fun g=>O g /\ g < w.heap.size) b s s (some c) [(w.heap.size + 1,flL (0,0),32),(w.heap.size,exL h ka kn kc,102)] ((w.alloc (Δ #[I J h.kind,I J h.num,Ψ (bs h.text),Γ ka kn kc,I J h.pl] 102)).alloc (Δ #[I J 0,I J 0] 32)):=by
 have h1:=((LS.start hck hok).alloc (exL h ka kn kc) 102).alloc (flL (0,0)) 32
 rw [show (w.alloc (Δ (exL h ka kn kc).toArray 102)).heap.size = w.heap.size + 1 by simp] at h1
 exact h1
/-- Where asking has told. -/
def AR (r:Er (Ck × Mn)) (w:World) (O:Nat -> Prop) (b:Nat) (s:Sl) (mt:Bool) (mx:ByteArray) (mp mn f1 f2:Int) (L:Mn -> List Lo) (W:World):Prop:=
 ∃ m oc O2 s2,(RQ r m (f1,f2) oc /\ m.isText = mt /\ bs m.text = mx /\ m.place = mp /\ m.num = mn) /\ LS w O O2 b s s2 oc (L m) W
/-- The cells of an expression in its box. -/
abbrev EC (g:Nat) (h:Hd) (ka:Option Addr) (kn kc:Nat) (W:World):Prop:=W.cell? ⟨g,0,none⟩ = some (I J h.kind) /\ W.cell? ⟨g,1,none⟩ = some (I J h.num) /\ W.cell? ⟨g,2,none⟩ = some (Ψ (bs h.text)) /\ W.cell? ⟨g,3,none⟩ = some (Γ ka kn kc) /\ W.cell? ⟨g,4,none⟩ = some (I J h.pl)
theorem EC.alloc {g:Nat} {h:Hd} {ka:Option Addr} {kn kc:Nat} {W:World} (hW:EC g h ka kn kc W) (o:Obj):EC g h ka kn kc (W.alloc o):=⟨keepc ((Below.refl _ _).alloc (Nat.le_refl _) o) hW.1,keepc ((Below.refl _ _).alloc (Nat.le_refl _) o) hW.2.1,keepc ((Below.refl _ _).alloc (Nat.le_refl _) o) hW.2.2.1,keepc ((Below.refl _ _).alloc (Nat.le_refl _) o) hW.2.2.2.1,keepc ((Below.refl _ _).alloc (Nat.le_refl _) o) hW.2.2.2.2⟩
theorem EC.drew {g:Nat} {h:Hd} {ka:Option Addr} {kn kc:Nat} {W:World} (hW:EC g h ka kn kc W):EC g h ka kn kc W.drew:=hW
theorem EC.put {g:Nat} {h:Hd} {ka:Option Addr} {kn kc:Nat} {W:World} (hW:EC g h ka kn kc W) {b:Nat} (hb:g ≠ b) (i:Nat) (v:Value):EC g h ka kn kc (W.setCell ⟨b,i,none⟩ v):=by
 have a:∀ (j:Nat) (u:Value),W.cell? ⟨g,j,none⟩ = some u -> (W.setCell ⟨b,i,none⟩ v).cell? ⟨g,j,none⟩ = some u:=fun j u hu=>by
  rw [<- hu]
  exact World.cell?_setCells_out b [v] i W ⟨g,j,none⟩ (fun e=>absurd e hb)
 exact ⟨a _ _ hW.1,a _ _ hW.2.1,a _ _ hW.2.2.1,a _ _ hW.2.2.2.1,a _ _ hW.2.2.2.2⟩
theorem LS.mh {w W:World} {O0 O:Nat -> Prop} {b:Nat} {s0 s:Sl} {oc:Option Ck} {L:List Lo} {g:Nat} (h:LS w O0 O b s0 s oc L W) (hx:(g,[.bool false,Ψ ⟨#[]⟩,I J 0,I J 0],109) ∈ L):g < W.heap.size /\ (¬ g = W.heap.size) /\ (¬ W.heap.size = g) /\ W.cell? ⟨g,0,none⟩ = some (.bool false) /\ W.cell? ⟨g,1,none⟩ = some (Ψ ⟨#[]⟩) /\ W.cell? ⟨g,2,none⟩ = some (I J 0) /\ W.cell? ⟨g,3,none⟩ = some (I J 0) /\ (∀ i,W.frozen? ⟨g,i,none⟩ = false) /\ (∀ o,(W.alloc o).cell? ⟨g,0,none⟩ = some (.bool false)) /\ (∀ o,(W.alloc o).cell? ⟨g,1,none⟩ = some (Ψ ⟨#[]⟩)) /\ (∀ o,(W.alloc o).cell? ⟨g,2,none⟩ = some (I J 0)) /\ (∀ o,(W.alloc o).cell? ⟨g,3,none⟩ = some (I J 0)) /\ ∀ o i,(W.alloc o).frozen? ⟨g,i,none⟩ = false:=by
 have hl:=h.lt hx
 exact ⟨hl,by omega,by omega,h.at hx (i:=0) rfl,h.at hx (i:=1) rfl,h.at hx (i:=2) rfl,h.at hx (i:=3) rfl,h.fz hx,(fun o=>keepc ((Below.refl _ _).alloc (Nat.le_refl _) o) (h.at hx (i:=0) rfl)),(fun o=>keepc ((Below.refl _ _).alloc (Nat.le_refl _) o) (h.at hx (i:=1) rfl)),(fun o=>keepc ((Below.refl _ _).alloc (Nat.le_refl _) o) (h.at hx (i:=2) rfl)),(fun o=>keepc ((Below.refl _ _).alloc (Nat.le_refl _) o) (h.at hx (i:=3) rfl)),fun o i=>by rw [World.frozen?_of_block (heap_alloc_old W o hl)]; exact h.fz hx i⟩
theorem LS.fh {w W:World} {O0 O:Nat -> Prop} {b:Nat} {s0 s:Sl} {oc:Option Ck} {L:List Lo} {g:Nat} (h:LS w O0 O b s0 s oc L W) (hx:(g,[I J 0,I J 0],32) ∈ L):g < W.heap.size /\ (¬ g = W.heap.size) /\ (¬ W.heap.size = g) /\ W.cell? ⟨g,0,none⟩ = some (I J 0) /\ W.cell? ⟨g,1,none⟩ = some (I J 0) /\ (∀ i,W.frozen? ⟨g,i,none⟩ = false) /\ (∀ o,(W.alloc o).cell? ⟨g,0,none⟩ = some (I J 0)) /\ (∀ o,(W.alloc o).cell? ⟨g,1,none⟩ = some (I J 0)) /\ ∀ o i,(W.alloc o).frozen? ⟨g,i,none⟩ = false:=by
 have hl:=h.lt hx
 exact ⟨hl,by omega,by omega,h.at hx (i:=0) rfl,h.at hx (i:=1) rfl,h.fz hx,(fun o=>keepc ((Below.refl _ _).alloc (Nat.le_refl _) o) (h.at hx (i:=0) rfl)),(fun o=>keepc ((Below.refl _ _).alloc (Nat.le_refl _) o) (h.at hx (i:=1) rfl)),fun o i=>by rw [World.frozen?_of_block (heap_alloc_old W o hl)]; exact h.fz hx i⟩
theorem single_calls {B:Nat} {O:Nat -> Prop} {b:Nat} {s:Sl} {c:Ck} (h:Hd) (k:Fo) (ka:Option Addr) (kn kc pb pi:Nat) (set:Ck -> Int -> Ck) (w:World) (hck:CkAt O b s c w) (hok:CkOk c) (hlow:∀ g,O g -> B <= g) (hB:B <= w.heap.size)
 (hE:ExAt false (fun g=>g < B) w (h,k) ka kn) (hr:okE h k)
 (hP:∀ O' s' c' W p,CkAt O' b s' c' W -> s'.sv = s.sv -> Sm c c' -> O' pb /\ (∃ v,W.cell? ⟨pb,pi,none⟩ = some (I J v)) /\ W.frozen? ⟨pb,pi,none⟩ = false /\ CkAt O' b s' (set c' p) (W.setCell ⟨pb,pi,none⟩ (I J p))) :
 Calls Tryz.prog 57 #[Φ (some ⟨b,0,none⟩),exV h ka kn kc,Φ (some ⟨pb,pi,none⟩)] w (TPost O b w (singleB set c (h,k))):=by
 have hres:Tryz.f57.results = #[.cell 6 32]:=by kernel_rfl
 have hS1:=LS.start2 hck hok h ka kn kc
 have HSm:Hid (∀ c' m,askE c (h,k) = .ok (c',m) -> Sm c c'):=fun c' m he=>(askE_ok hok hr hE.hd.text (foAt_short hE.kids) he).2.2
 obtain ⟨r,hrr⟩:∃ r,r = askQ (numFrom (-72057594037927936)) c (h,k):=⟨_,rfl⟩
 have HAs:Hid (∀ O' s' L W g,LS w O O' b s s' (some c) L W -> (g,[I J (-72057594037927936)],3) ∈ L -> Calls Tryz.prog 89 #[Φ (some ⟨b,0,none⟩),.agg #[I J h.kind,I J h.num,Ψ (bs h.text),Γ ka kn kc,I J h.pl],.func (.func 126) #[] #[Φ (some ⟨g,0,none⟩)]] W fun e w'=>∃ mt mx mp mn f1 f2,e = .returned (.tuple #[.agg #[.bool mt,Ψ mx,I J mp,I J mn],.agg #[I J f1,I J f2]]) /\ Hid (∃ m oc O2 s2,(m.isText = mt /\ bs m.text = mx /\ m.place = mp /\ m.num = mn) /\ RQ r m (f1,f2) oc /\ LS w O O2 b s s2 oc L w')):=by
  intro O' s' L W g h1 h2
  refine (h1.askNum h k ka kn kc (-72057594037927936) g h2 hlow hB hE hr).mono ?_
  rintro e w' ⟨m,f,oc,O2,s2,rfl,h3⟩
  exact ⟨_,_,_,_,_,_,rfl,m,oc,O2,s2,⟨rfl,rfl,rfl,rfl⟩,by rw [hrr]; exact h3.out.1,h3.out.2⟩
 have HSS:Hid (∀ O' s' oc L W,LS w O O' b s s' oc L W -> (w.heap.size,exL h ka kn kc,102) ∈ L -> W.cell? ⟨w.heap.size,0,none⟩ = some (I J h.kind) /\ W.cell? ⟨w.heap.size,1,none⟩ = some (I J h.num) /\ W.cell? ⟨w.heap.size,2,none⟩ = some (Ψ (bs h.text)) /\ W.cell? ⟨w.heap.size,3,none⟩ = some (Γ ka kn kc) /\ W.cell? ⟨w.heap.size,4,none⟩ = some (I J h.pl)):=fun O' s' oc L W h1 h2=>⟨h1.at h2 rfl,h1.at h2 rfl,h1.at h2 rfl,h1.at h2 rfl,h1.at h2 rfl⟩
 have HX:Hid (singleB set c (h,k) = match r with | .error f=>.error f | .ok (c1,m)=>.ok (set c1 m.place)):=by show _ = _; rw [hrr]; rfl
 have HRM:Hid (∀ c' m,r = .ok (c',m) -> Sm c c'):=by
  intro c' m he
  rw [hrr] at he
  unfold askQ at he
  split at he
  ·cases he
  ·rename_i c1 m1 hx
   split at he
   ·cases he; exact HSm.out _ _ hx
   ·cases he
 have HP:=hid hP
 generalize hO1:(fun g=>O g /\ g < w.heap.size) = O1 at hS1
 clear hO1 hck hok hlow hB hE hr HSm hrr hP
 unfold exV
 have HS1:=hid hS1
 clear hS1
 go_enter Tryz.func57,Tryz.ntmps57
 go_upto_region 1 with (fail)
 generalize ((w.alloc (Δ #[I J h.kind,I J h.num,Ψ (bs h.text),Γ ka kn kc,I J h.pl] 102)).alloc (Δ #[I J 0,I J 0] 32)) = w1 at *
 go_cut [7,8] (fun mv fv wc=>∃ g7 g8 mt mx mp mn f1 f2,mv = Φ (some ⟨g7,0,none⟩) /\ fv = Φ (some ⟨g8,0,none⟩) /\ AR r w O b s mt mx mp mn f1 f2 (fun m=>[(g7,mnL m,109),(g8,flL (f1,f2),32),(w.heap.size + 1,flL (0,0),32)]) wc)
 case first=>
  have hy1:EC w.heap.size h ka kn kc w1:=HSS.out _ _ _ _ _ HS1.out (by simp)
  have hy:EC w.heap.size h ka kn kc w1.drew:=hy1
  have hl1:w.heap.size < w1.heap.size:=HS1.out.lt (g:=w.heap.size) (cs:=exL h ka kn kc) (ty:=102) (by simp)
  go_region_held3 (fun W=>W.cell? ⟨w.heap.size,0,none⟩ = some (I J h.kind) /\ W.cell? ⟨w.heap.size,1,none⟩ = some (I J h.num) /\ W.cell? ⟨w.heap.size,2,none⟩ = some (Ψ (bs h.text)) /\ W.cell? ⟨w.heap.size,3,none⟩ = some (Γ ka kn kc) /\ W.cell? ⟨w.heap.size,4,none⟩ = some (I J h.pl)) (first | (with_reducible exact hy) | (with_reducible exact hyV) | (with_reducible exact (hy1.alloc _).drew) | (with_reducible exact ((hy1.alloc _).alloc _).drew) | (with_reducible exact (((hy1.alloc _).alloc _).alloc _).drew) | (with_reducible exact hyV.alloc _) | (with_reducible exact (hyV.alloc _).alloc _) | (with_reducible exact ((((hyV.put (b:=_) (by omega) 0 _).put (b:=_) (by omega) 1 _).put (b:=_) (by omega) 2 _).put (b:=_) (by omega) 3 _)) | (with_reducible exact (((((hyV.put (b:=_) (by omega) 0 _).put (b:=_) (by omega) 1 _).put (b:=_) (by omega) 2 _).put (b:=_) (by omega) 3 _).alloc _)) | (with_reducible exact ((((((hyV.put (b:=_) (by omega) 0 _).put (b:=_) (by omega) 1 _).put (b:=_) (by omega) 2 _).put (b:=_) (by omega) 3 _).put (b:=_) (by omega) 0 _).put (b:=_) (by omega) 1 _)) | (with_reducible exact (((hyV.put (b:=_) (by omega) 0 _).put (b:=_) (by omega) 1 _).alloc _))) (first
   | (go_at_call 95; (with_reducible refine (numberFrom_calls _ _).mono ?_); rintro e V1 ⟨rfl,rfl⟩)
   | (go_at_call 89; (with_reducible refine (HAs.out _ _ _ _ (w1.heap.size) (HS1.out.allocE (g:=w1.heap.size) [I J (-72057594037927936)] 3 rfl (by simp)).drew (by simp)).mono ?_); rintro e V2 ⟨mt,mx,mp,mn,f1,f2,rfl,hV⟩; obtain ⟨m,oc,O2,s2,⟨rfl,rfl,rfl,rfl⟩,hRQ,hLSC⟩:=hV.out; have hyV:EC w.heap.size h ka kn kc V2:=HSS.out _ _ _ _ _ hLSC (by simp); have hl2:w.heap.size < V2.heap.size:=hLSC.lt (g:=w.heap.size) (cs:=exL h ka kn kc) (ty:=102) (by simp))
   | (go_at_call 89; (with_reducible refine (HAs.out _ _ _ _ (w1.heap.size) ((HS1.out.allocE (g:=w1.heap.size) [I J (-72057594037927936)] 3 rfl (by simp)).allocE (g:=w1.heap.size + 1) [I J 0,I J 0] 32 rfl (by simp)).drew (by simp)).mono ?_); rintro e V2 ⟨mt,mx,mp,mn,f1,f2,rfl,hV⟩; obtain ⟨m,oc,O2,s2,⟨rfl,rfl,rfl,rfl⟩,hRQ,hLSCF⟩:=hV.out; have hyV:EC w.heap.size h ka kn kc V2:=HSS.out _ _ _ _ _ hLSCF (by simp); have hl2:w.heap.size < V2.heap.size:=hLSCF.lt (g:=w.heap.size) (cs:=exL h ka kn kc) (ty:=102) (by simp); obtain ⟨lr,nr,or_,r0,r1,rf,ra0,ra1,rg⟩:=hLSCF.fh (g:=w1.heap.size + 1) (by simp))
   | (go_at_call 89; (with_reducible refine (HAs.out _ _ _ _ (w1.heap.size) (((HS1.out.allocE (g:=w1.heap.size) [I J (-72057594037927936)] 3 rfl (by simp)).allocE (g:=w1.heap.size + 1) [I J 0,I J 0] 32 rfl (by simp)).allocE (g:=w1.heap.size + 1 + 1) [.bool false,Ψ ⟨#[]⟩,I J 0,I J 0] 109 rfl (by simp)).drew (by simp)).mono ?_); rintro e V2 ⟨mt,mx,mp,mn,f1,f2,rfl,hV⟩; obtain ⟨m,oc,O2,s2,⟨rfl,rfl,rfl,rfl⟩,hRQ,hLSCFM⟩:=hV.out; have hyV:EC w.heap.size h ka kn kc V2:=HSS.out _ _ _ _ _ hLSCFM (by simp); have hl2:w.heap.size < V2.heap.size:=hLSCFM.lt (g:=w.heap.size) (cs:=exL h ka kn kc) (ty:=102) (by simp); obtain ⟨lq,nq,oq,q0,q1,q2,q3,qf,qa0,qa1,qa2,qa3,qg⟩:=hLSCFM.mh (g:=w1.heap.size + 1 + 1) (by simp); obtain ⟨lr,nr,or_,r0,r1,rf,ra0,ra1,rg⟩:=hLSCFM.fh (g:=w1.heap.size + 1) (by simp))
   | (go_at_call 89; (with_reducible refine (HAs.out _ _ _ _ (w1.heap.size) ((HS1.out.allocE (g:=w1.heap.size) [I J (-72057594037927936)] 3 rfl (by simp)).allocE (g:=w1.heap.size + 1) [.bool false,Ψ ⟨#[]⟩,I J 0,I J 0] 109 rfl (by simp)).drew (by simp)).mono ?_); rintro e V2 ⟨mt,mx,mp,mn,f1,f2,rfl,hV⟩; obtain ⟨m,oc,O2,s2,⟨rfl,rfl,rfl,rfl⟩,hRQ,hLSCM⟩:=hV.out; have hyV:EC w.heap.size h ka kn kc V2:=HSS.out _ _ _ _ _ hLSCM (by simp); have hl2:w.heap.size < V2.heap.size:=hLSCM.lt (g:=w.heap.size) (cs:=exL h ka kn kc) (ty:=102) (by simp); obtain ⟨lq,nq,oq,q0,q1,q2,q3,qf,qa0,qa1,qa2,qa3,qg⟩:=hLSCM.mh (g:=w1.heap.size + 1) (by simp))
   | (go_at_call 89; (with_reducible refine (HAs.out _ _ _ _ (w1.heap.size) (((HS1.out.allocE (g:=w1.heap.size) [I J (-72057594037927936)] 3 rfl (by simp)).allocE (g:=w1.heap.size + 1) [.bool false,Ψ ⟨#[]⟩,I J 0,I J 0] 109 rfl (by simp)).allocE (g:=w1.heap.size + 1 + 1) [I J 0,I J 0] 32 rfl (by simp)).drew (by simp)).mono ?_); rintro e V2 ⟨mt,mx,mp,mn,f1,f2,rfl,hV⟩; obtain ⟨m,oc,O2,s2,⟨rfl,rfl,rfl,rfl⟩,hRQ,hLSCMF⟩:=hV.out; have hyV:EC w.heap.size h ka kn kc V2:=HSS.out _ _ _ _ _ hLSCMF (by simp); have hl2:w.heap.size < V2.heap.size:=hLSCMF.lt (g:=w.heap.size) (cs:=exL h ka kn kc) (ty:=102) (by simp); obtain ⟨lq,nq,oq,q0,q1,q2,q3,qf,qa0,qa1,qa2,qa3,qg⟩:=hLSCMF.mh (g:=w1.heap.size + 1) (by simp); obtain ⟨lr,nr,or_,r0,r1,rf,ra0,ra1,rg⟩:=hLSCMF.fh (g:=w1.heap.size + 1 + 1) (by simp))
   | (go_at_call 89; (with_reducible refine (HAs.out _ _ _ _ (w1.heap.size + 1) ((HS1.out.allocE (g:=w1.heap.size) [I J 0,I J 0] 32 rfl (by simp)).allocE (g:=w1.heap.size + 1) [I J (-72057594037927936)] 3 rfl (by simp)).drew (by simp)).mono ?_); rintro e V2 ⟨mt,mx,mp,mn,f1,f2,rfl,hV⟩; obtain ⟨m,oc,O2,s2,⟨rfl,rfl,rfl,rfl⟩,hRQ,hLSFC⟩:=hV.out; have hyV:EC w.heap.size h ka kn kc V2:=HSS.out _ _ _ _ _ hLSFC (by simp); have hl2:w.heap.size < V2.heap.size:=hLSFC.lt (g:=w.heap.size) (cs:=exL h ka kn kc) (ty:=102) (by simp); obtain ⟨lr,nr,or_,r0,r1,rf,ra0,ra1,rg⟩:=hLSFC.fh (g:=w1.heap.size) (by simp))
   | (go_at_call 89; (with_reducible refine (HAs.out _ _ _ _ (w1.heap.size + 1) (((HS1.out.allocE (g:=w1.heap.size) [I J 0,I J 0] 32 rfl (by simp)).allocE (g:=w1.heap.size + 1) [I J (-72057594037927936)] 3 rfl (by simp)).allocE (g:=w1.heap.size + 1 + 1) [.bool false,Ψ ⟨#[]⟩,I J 0,I J 0] 109 rfl (by simp)).drew (by simp)).mono ?_); rintro e V2 ⟨mt,mx,mp,mn,f1,f2,rfl,hV⟩; obtain ⟨m,oc,O2,s2,⟨rfl,rfl,rfl,rfl⟩,hRQ,hLSFCM⟩:=hV.out; have hyV:EC w.heap.size h ka kn kc V2:=HSS.out _ _ _ _ _ hLSFCM (by simp); have hl2:w.heap.size < V2.heap.size:=hLSFCM.lt (g:=w.heap.size) (cs:=exL h ka kn kc) (ty:=102) (by simp); obtain ⟨lq,nq,oq,q0,q1,q2,q3,qf,qa0,qa1,qa2,qa3,qg⟩:=hLSFCM.mh (g:=w1.heap.size + 1 + 1) (by simp); obtain ⟨lr,nr,or_,r0,r1,rf,ra0,ra1,rg⟩:=hLSFCM.fh (g:=w1.heap.size) (by simp))
   | (go_at_call 89; (with_reducible refine (HAs.out _ _ _ _ (w1.heap.size + 1 + 1) (((HS1.out.allocE (g:=w1.heap.size) [I J 0,I J 0] 32 rfl (by simp)).allocE (g:=w1.heap.size + 1) [.bool false,Ψ ⟨#[]⟩,I J 0,I J 0] 109 rfl (by simp)).allocE (g:=w1.heap.size + 1 + 1) [I J (-72057594037927936)] 3 rfl (by simp)).drew (by simp)).mono ?_); rintro e V2 ⟨mt,mx,mp,mn,f1,f2,rfl,hV⟩; obtain ⟨m,oc,O2,s2,⟨rfl,rfl,rfl,rfl⟩,hRQ,hLSFMC⟩:=hV.out; have hyV:EC w.heap.size h ka kn kc V2:=HSS.out _ _ _ _ _ hLSFMC (by simp); have hl2:w.heap.size < V2.heap.size:=hLSFMC.lt (g:=w.heap.size) (cs:=exL h ka kn kc) (ty:=102) (by simp); obtain ⟨lq,nq,oq,q0,q1,q2,q3,qf,qa0,qa1,qa2,qa3,qg⟩:=hLSFMC.mh (g:=w1.heap.size + 1) (by simp); obtain ⟨lr,nr,or_,r0,r1,rf,ra0,ra1,rg⟩:=hLSFMC.fh (g:=w1.heap.size) (by simp))
   | (go_at_call 89; (with_reducible refine (HAs.out _ _ _ _ (w1.heap.size + 1) ((HS1.out.allocE (g:=w1.heap.size) [.bool false,Ψ ⟨#[]⟩,I J 0,I J 0] 109 rfl (by simp)).allocE (g:=w1.heap.size + 1) [I J (-72057594037927936)] 3 rfl (by simp)).drew (by simp)).mono ?_); rintro e V2 ⟨mt,mx,mp,mn,f1,f2,rfl,hV⟩; obtain ⟨m,oc,O2,s2,⟨rfl,rfl,rfl,rfl⟩,hRQ,hLSMC⟩:=hV.out; have hyV:EC w.heap.size h ka kn kc V2:=HSS.out _ _ _ _ _ hLSMC (by simp); have hl2:w.heap.size < V2.heap.size:=hLSMC.lt (g:=w.heap.size) (cs:=exL h ka kn kc) (ty:=102) (by simp); obtain ⟨lq,nq,oq,q0,q1,q2,q3,qf,qa0,qa1,qa2,qa3,qg⟩:=hLSMC.mh (g:=w1.heap.size) (by simp))
   | (go_at_call 89; (with_reducible refine (HAs.out _ _ _ _ (w1.heap.size + 1) (((HS1.out.allocE (g:=w1.heap.size) [.bool false,Ψ ⟨#[]⟩,I J 0,I J 0] 109 rfl (by simp)).allocE (g:=w1.heap.size + 1) [I J (-72057594037927936)] 3 rfl (by simp)).allocE (g:=w1.heap.size + 1 + 1) [I J 0,I J 0] 32 rfl (by simp)).drew (by simp)).mono ?_); rintro e V2 ⟨mt,mx,mp,mn,f1,f2,rfl,hV⟩; obtain ⟨m,oc,O2,s2,⟨rfl,rfl,rfl,rfl⟩,hRQ,hLSMCF⟩:=hV.out; have hyV:EC w.heap.size h ka kn kc V2:=HSS.out _ _ _ _ _ hLSMCF (by simp); have hl2:w.heap.size < V2.heap.size:=hLSMCF.lt (g:=w.heap.size) (cs:=exL h ka kn kc) (ty:=102) (by simp); obtain ⟨lq,nq,oq,q0,q1,q2,q3,qf,qa0,qa1,qa2,qa3,qg⟩:=hLSMCF.mh (g:=w1.heap.size) (by simp); obtain ⟨lr,nr,or_,r0,r1,rf,ra0,ra1,rg⟩:=hLSMCF.fh (g:=w1.heap.size + 1 + 1) (by simp))
   | (go_at_call 89; (with_reducible refine (HAs.out _ _ _ _ (w1.heap.size + 1 + 1) (((HS1.out.allocE (g:=w1.heap.size) [.bool false,Ψ ⟨#[]⟩,I J 0,I J 0] 109 rfl (by simp)).allocE (g:=w1.heap.size + 1) [I J 0,I J 0] 32 rfl (by simp)).allocE (g:=w1.heap.size + 1 + 1) [I J (-72057594037927936)] 3 rfl (by simp)).drew (by simp)).mono ?_); rintro e V2 ⟨mt,mx,mp,mn,f1,f2,rfl,hV⟩; obtain ⟨m,oc,O2,s2,⟨rfl,rfl,rfl,rfl⟩,hRQ,hLSMFC⟩:=hV.out; have hyV:EC w.heap.size h ka kn kc V2:=HSS.out _ _ _ _ _ hLSMFC (by simp); have hl2:w.heap.size < V2.heap.size:=hLSMFC.lt (g:=w.heap.size) (cs:=exL h ka kn kc) (ty:=102) (by simp); obtain ⟨lq,nq,oq,q0,q1,q2,q3,qf,qa0,qa1,qa2,qa3,qg⟩:=hLSMFC.mh (g:=w1.heap.size) (by simp); obtain ⟨lr,nr,or_,r0,r1,rf,ra0,ra1,rg⟩:=hLSMFC.fh (g:=w1.heap.size + 1) (by simp)))
  all_goals (go_wp2_with fail; go_meet)
  all_goals (first
   | (have hf:=((((hLSMFC.front (L1:=[_,_]) rfl).store109 m rfl rfl).front (L1:=[_,_]) rfl).store32 (f0:=(0,0)) (f1,f2) rfl); refine ⟨w1.heap.size,w1.heap.size + 1,m.isText,bs m.text,m.place,m.num,f1,f2,rfl,rfl,?_⟩; unfold AR; refine ⟨m,oc,O2,s2,⟨hRQ,rfl,rfl,rfl,rfl⟩,?_⟩; have hg:=hf.sub (L':=[(w1.heap.size,mnL m,109),(w1.heap.size + 1,flL (f1,f2),32),(w.heap.size + 1,flL (0,0),32)]) (by simp [mnL,flL]) (by have:=hf.nd; simp at this ⊢; omega); with_reducible exact hg)
   | (have hf:=((((hLSMCF.front (L1:=[_,_]) rfl).store109 m rfl rfl).front (L1:=[_]) rfl).store32 (f0:=(0,0)) (f1,f2) rfl); refine ⟨w1.heap.size,w1.heap.size + 1 + 1,m.isText,bs m.text,m.place,m.num,f1,f2,rfl,rfl,?_⟩; unfold AR; refine ⟨m,oc,O2,s2,⟨hRQ,rfl,rfl,rfl,rfl⟩,?_⟩; have hg:=hf.sub (L':=[(w1.heap.size,mnL m,109),(w1.heap.size + 1 + 1,flL (f1,f2),32),(w.heap.size + 1,flL (0,0),32)]) (by simp [mnL,flL]) (by have:=hf.nd; simp at this ⊢; omega); with_reducible exact hg)
   | (have hf:=(((hLSMC.front (L1:=[_]) rfl).store109 m rfl rfl).allocE (g:=V2.heap.size) [I J f1,I J f2] 32 rfl (by simp)); refine ⟨w1.heap.size,V2.heap.size,m.isText,bs m.text,m.place,m.num,f1,f2,rfl,rfl,?_⟩; unfold AR; refine ⟨m,oc,O2,s2,⟨hRQ,rfl,rfl,rfl,rfl⟩,?_⟩; have hg:=hf.sub (L':=[(w1.heap.size,mnL m,109),(V2.heap.size,flL (f1,f2),32),(w.heap.size + 1,flL (0,0),32)]) (by simp [mnL,flL]) (by have:=hf.nd; simp at this ⊢; omega); with_reducible exact hg)
   | (have hf:=((((hLSFMC.front (L1:=[_]) rfl).store109 m rfl rfl).front (L1:=[_,_]) rfl).store32 (f0:=(0,0)) (f1,f2) rfl); refine ⟨w1.heap.size + 1,w1.heap.size,m.isText,bs m.text,m.place,m.num,f1,f2,rfl,rfl,?_⟩; unfold AR; refine ⟨m,oc,O2,s2,⟨hRQ,rfl,rfl,rfl,rfl⟩,?_⟩; have hg:=hf.sub (L':=[(w1.heap.size + 1,mnL m,109),(w1.heap.size,flL (f1,f2),32),(w.heap.size + 1,flL (0,0),32)]) (by simp [mnL,flL]) (by have:=hf.nd; simp at this ⊢; omega); with_reducible exact hg)
   | (have hf:=(((hLSFCM.store109 m rfl rfl).front (L1:=[_,_]) rfl).store32 (f0:=(0,0)) (f1,f2) rfl); refine ⟨w1.heap.size + 1 + 1,w1.heap.size,m.isText,bs m.text,m.place,m.num,f1,f2,rfl,rfl,?_⟩; unfold AR; refine ⟨m,oc,O2,s2,⟨hRQ,rfl,rfl,rfl,rfl⟩,?_⟩; have hg:=hf.sub (L':=[(w1.heap.size + 1 + 1,mnL m,109),(w1.heap.size,flL (f1,f2),32),(w.heap.size + 1,flL (0,0),32)]) (by simp [mnL,flL]) (by have:=hf.nd; simp at this ⊢; omega); with_reducible exact hg)
   | (have hf:=(((hLSFC.front (L1:=[_]) rfl).store32 (f0:=(0,0)) (f1,f2) rfl).allocE (g:=V2.heap.size) [.bool m.isText,Ψ (bs m.text),I J m.place,I J m.num] 109 rfl (by simp)); refine ⟨V2.heap.size,w1.heap.size,m.isText,bs m.text,m.place,m.num,f1,f2,rfl,rfl,?_⟩; unfold AR; refine ⟨m,oc,O2,s2,⟨hRQ,rfl,rfl,rfl,rfl⟩,?_⟩; have hg:=hf.sub (L':=[(V2.heap.size,mnL m,109),(w1.heap.size,flL (f1,f2),32),(w.heap.size + 1,flL (0,0),32)]) (by simp [mnL,flL]) (by have:=hf.nd; simp at this ⊢; omega); with_reducible exact hg)
   | (have hf:=((((hLSCMF.front (L1:=[_]) rfl).store109 m rfl rfl).front (L1:=[_]) rfl).store32 (f0:=(0,0)) (f1,f2) rfl); refine ⟨w1.heap.size + 1,w1.heap.size + 1 + 1,m.isText,bs m.text,m.place,m.num,f1,f2,rfl,rfl,?_⟩; unfold AR; refine ⟨m,oc,O2,s2,⟨hRQ,rfl,rfl,rfl,rfl⟩,?_⟩; have hg:=hf.sub (L':=[(w1.heap.size + 1,mnL m,109),(w1.heap.size + 1 + 1,flL (f1,f2),32),(w.heap.size + 1,flL (0,0),32)]) (by simp [mnL,flL]) (by have:=hf.nd; simp at this ⊢; omega); with_reducible exact hg)
   | (have hf:=((hLSCM.store109 m rfl rfl).allocE (g:=V2.heap.size) [I J f1,I J f2] 32 rfl (by simp)); refine ⟨w1.heap.size + 1,V2.heap.size,m.isText,bs m.text,m.place,m.num,f1,f2,rfl,rfl,?_⟩; unfold AR; refine ⟨m,oc,O2,s2,⟨hRQ,rfl,rfl,rfl,rfl⟩,?_⟩; have hg:=hf.sub (L':=[(w1.heap.size + 1,mnL m,109),(V2.heap.size,flL (f1,f2),32),(w.heap.size + 1,flL (0,0),32)]) (by simp [mnL,flL]) (by have:=hf.nd; simp at this ⊢; omega); with_reducible exact hg)
   | (have hf:=(((hLSCFM.store109 m rfl rfl).front (L1:=[_]) rfl).store32 (f0:=(0,0)) (f1,f2) rfl); refine ⟨w1.heap.size + 1 + 1,w1.heap.size + 1,m.isText,bs m.text,m.place,m.num,f1,f2,rfl,rfl,?_⟩; unfold AR; refine ⟨m,oc,O2,s2,⟨hRQ,rfl,rfl,rfl,rfl⟩,?_⟩; have hg:=hf.sub (L':=[(w1.heap.size + 1 + 1,mnL m,109),(w1.heap.size + 1,flL (f1,f2),32),(w.heap.size + 1,flL (0,0),32)]) (by simp [mnL,flL]) (by have:=hf.nd; simp at this ⊢; omega); with_reducible exact hg)
   | (have hf:=((hLSCF.store32 (f0:=(0,0)) (f1,f2) rfl).allocE (g:=V2.heap.size) [.bool m.isText,Ψ (bs m.text),I J m.place,I J m.num] 109 rfl (by simp)); refine ⟨V2.heap.size,w1.heap.size + 1,m.isText,bs m.text,m.place,m.num,f1,f2,rfl,rfl,?_⟩; unfold AR; refine ⟨m,oc,O2,s2,⟨hRQ,rfl,rfl,rfl,rfl⟩,?_⟩; have hg:=hf.sub (L':=[(V2.heap.size,mnL m,109),(w1.heap.size + 1,flL (f1,f2),32),(w.heap.size + 1,flL (0,0),32)]) (by simp [mnL,flL]) (by have:=hf.nd; simp at this ⊢; omega); with_reducible exact hg)
   | (have hf:=((hLSC.allocE (g:=V2.heap.size) [.bool m.isText,Ψ (bs m.text),I J m.place,I J m.num] 109 rfl (by simp)).allocE (g:=V2.heap.size + 1) [I J f1,I J f2] 32 rfl (by simp)); refine ⟨V2.heap.size,V2.heap.size + 1,m.isText,bs m.text,m.place,m.num,f1,f2,rfl,rfl,?_⟩; unfold AR; refine ⟨m,oc,O2,s2,⟨hRQ,rfl,rfl,rfl,rfl⟩,?_⟩; have hg:=hf.sub (L':=[(V2.heap.size,mnL m,109),(V2.heap.size + 1,flL (f1,f2),32),(w.heap.size + 1,flL (0,0),32)]) (by simp [mnL,flL]) (by have:=hf.nd; simp at this ⊢; omega); with_reducible exact hg)
   | (have hf:=((hLSC.allocE (g:=V2.heap.size) [I J f1,I J f2] 32 rfl (by simp)).allocE (g:=V2.heap.size + 1) [.bool m.isText,Ψ (bs m.text),I J m.place,I J m.num] 109 rfl (by simp)); refine ⟨V2.heap.size + 1,V2.heap.size,m.isText,bs m.text,m.place,m.num,f1,f2,rfl,rfl,?_⟩; unfold AR; refine ⟨m,oc,O2,s2,⟨hRQ,rfl,rfl,rfl,rfl⟩,?_⟩; have hg:=hf.sub (L':=[(V2.heap.size + 1,mnL m,109),(V2.heap.size,flL (f1,f2),32),(w.heap.size + 1,flL (0,0),32)]) (by simp [mnL,flL]) (by have:=hf.nd; simp at this ⊢; omega); with_reducible exact hg))
 case rest=>
  obtain ⟨g7,g8,mt,mx,mp,mn,f1,f2,rfl,rfl,m,oc,O2,s2,⟨hRQ,e1,e2,e3,e4⟩,hL⟩:=hcut
  clear HAs HSS HS1
  cases r with
  | error f'=>
    obtain ⟨rfl,hf,-,rfl⟩:=hRQ
    have HX2:Hid (singleB set c (h,k) = .error (f1,f2)):=HX.out
    have HF:Hid (f1 ≠ 0):=hf
    have hq:(f1 == 0) = false:=by rw [beq_eq_false_iff_ne]; exact hf
    have HL:=hid hL
    have y0:wc.cell? ⟨g8,0,none⟩ = some (I J f1):=HL.out.at (g:=g8) (cs:=flL (f1,f2)) (ty:=32) (by simp) rfl
    have y1:wc.cell? ⟨g8,1,none⟩ = some (I J f2):=HL.out.at (g:=g8) (cs:=flL (f1,f2)) (ty:=32) (by simp) rfl
    have z0:wc.cell? ⟨w.heap.size + 1,0,none⟩ = some (I J 0):=HL.out.at (g:=w.heap.size + 1) (cs:=flL (0,0)) (ty:=32) (by simp) rfl
    have z1:wc.cell? ⟨w.heap.size + 1,1,none⟩ = some (I J 0):=HL.out.at (g:=w.heap.size + 1) (cs:=flL (0,0)) (ty:=32) (by simp) rfl
    have zf:∀ i,wc.frozen? ⟨w.heap.size + 1,i,none⟩ = false:=fun i=>HL.out.fz (g:=w.heap.size + 1) (cs:=flL (0,0)) (ty:=32) (by simp) i
    clear HX HRM HP hf hL e1 e2 e3 e4
    go_wp2
    refine bodyPost_ret (v:=flV (f1,f2)) ?_ rfl ?_
    ·simp only [results,hres]
     unfold flV
     simp only
     go_simp
    ·show TPost _ _ _ _ _ _
     rw [HX2.out]
     exact ⟨HF.out,rfl,(HL.out.fr.setCell (.inr (by omega)) _ _).setCell (.inr (by omega)) _ _⟩
  | ok x=>
    obtain ⟨c',m'⟩:=x
    obtain ⟨hf,rfl,rfl⟩:=hRQ
    cases hf
    have HX2:Hid (singleB set c (h,k) = .ok (set c' m.place)):=HX.out
    have HL:=hid hL
    obtain ⟨hk1,hk2,hk3⟩:=hL.ck c' rfl
    obtain ⟨p1,⟨pv,p2⟩,p3,p4⟩:=HP.out O2 s2 c' wc m.place hk1 hk3 (HRM.out c' m rfl)
    have y2:wc.cell? ⟨g7,2,none⟩ = some (I J m.place):=HL.out.at (g:=g7) (cs:=mnL m) (ty:=109) (by simp) rfl
    have y0:wc.cell? ⟨g8,0,none⟩ = some (I J 0):=HL.out.at (g:=g8) (cs:=flL (0,0)) (ty:=32) (by simp) rfl
    have y1:wc.cell? ⟨g8,1,none⟩ = some (I J 0):=HL.out.at (g:=g8) (cs:=flL (0,0)) (ty:=32) (by simp) rfl
    have z0:wc.cell? ⟨w.heap.size + 1,0,none⟩ = some (I J 0):=HL.out.at (g:=w.heap.size + 1) (cs:=flL (0,0)) (ty:=32) (by simp) rfl
    have z1:wc.cell? ⟨w.heap.size + 1,1,none⟩ = some (I J 0):=HL.out.at (g:=w.heap.size + 1) (cs:=flL (0,0)) (ty:=32) (by simp) rfl
    have zf:∀ i,wc.frozen? ⟨w.heap.size + 1,i,none⟩ = false:=fun i=>HL.out.fz (g:=w.heap.size + 1) (cs:=flL (0,0)) (ty:=32) (by simp) i
    have hne8:¬ g8 = pb:=fun e=>(HL.out.loc (g8,flL (0,0),32) (by simp)).1.off (by show O2 g8; rw [e]; exact p1)
    have hner:¬ w.heap.size + 1 = pb:=fun e=>(HL.out.loc (w.heap.size + 1,flL (0,0),32) (by simp)).1.off (by show O2 (w.heap.size + 1); rw [e]; exact p1)
    have HQ:Hid (O2 pb /\ CkAt O2 b s2 (set c' m.place) (wc.setCell ⟨pb,pi,none⟩ (I J m.place))):=⟨p1,p4⟩
    have hres2:Hid (¬ O2 (w.heap.size + 1)):=(HL.out.loc (w.heap.size + 1,flL (0,0),32) (by simp)).1.off
    generalize m.place = mpl at *
    clear HX HRM HP hL e1 e2 e3 e4 hk1 hk2 hk3 p1 p4
    go_wp2
    refine bodyPost_ret (v:=flV (0,0)) ?_ rfl ?_
    ·simp only [results,hres]
     unfold flV
     simp only
     go_simp
    ·show TPost _ _ _ _ _ _
     rw [HX2.out]
     refine ⟨rfl,((HL.out.fr.setCell (HL.out.new pb HQ.out.1) _ _).setCell (.inr (by omega)) _ _).setCell (.inr (by omega)) _ _,O2,s2,HL.out.new,?_⟩
     exact ck_set (ck_set HQ.out.2 hres2.out _ _) hres2.out _ _
open Go.Ending renaming returned->Ω
set_option maxRecDepth 20000
set_option maxHeartbeats 8000000
theorem LS.start3 {b:Nat} {s:Sl} {c:Ck} {w:World} {O:Nat -> Prop} (hck:CkAt O b s c w) (hok:CkOk c) (h:Hd) (ka:Option Addr) (kn kc:Nat) (h2:Hd) (la:Option Addr) (ln lc:Nat) :
 LS w O (fun g=>O g /\ g < w.heap.size) b s s (some c) [(w.heap.size + 1 + 1,flL (0,0),32),(w.heap.size + 1,exL h2 la ln lc,102),(w.heap.size,exL h ka kn kc,102)] (((w.alloc (Δ #[I J h.kind,I J h.num,Ψ (bs h.text),Γ ka kn kc,I J h.pl] 102)).alloc (Δ #[I J h2.kind,I J h2.num,Ψ (bs h2.text),Γ la ln lc,I J h2.pl] 102)).alloc (Δ #[I J 0,I J 0] 32)):=by
 have h1:=(((LS.start hck hok).alloc (exL h ka kn kc) 102).alloc (exL h2 la ln lc) 102).alloc (flL (0,0)) 32
 rw [show ((w.alloc (Δ (exL h ka kn kc).toArray 102)).alloc (Δ (exL h2 la ln lc).toArray 102)).heap.size = w.heap.size + 1 + 1 by simp,show (w.alloc (Δ (exL h ka kn kc).toArray 102)).heap.size = w.heap.size + 1 by simp] at h1
 exact h1
def costs2 (p:Int):Er (Ck × Mn) -> Er (Ck × Int × Int)
 | .error f=>.error f
 | .ok (c2,m2)=>.ok (c2,p,m2.place)
def CPost (O:Nat -> Prop) (b:Nat) (w:World) (r:Er (Ck × Int × Int)) (e:Ending) (w':World):Prop:=
 match r with
 | .error f=>f.1 ≠ 0 /\ (∃ p q,e = Ω (.tuple #[I J p,I J q,.agg #[I J f.1,I J f.2]])) /\ Fr O w w'
 | .ok (c',p,q)=>e = Ω (.tuple #[I J p,I J q,.agg #[I J 0,I J 0]]) /\ Fr O w w' /\ ∃ O' s',(∀ g,O' g -> O g \/ w.heap.size <= g) /\ CkAt O' b s' c' w'
theorem costs_calls {B:Nat} {O:Nat -> Prop} {b:Nat} {s:Sl} {c:Ck} (h:Hd) (k:Fo) (ka:Option Addr) (kn kc:Nat) (h2:Hd) (k2:Fo) (la:Option Addr) (ln lc:Nat) (w:World) (hck:CkAt O b s c w) (hok:CkOk c) (hlow:∀ g,O g -> B <= g) (hB:B <= w.heap.size)
 (hE:ExAt false (fun g=>g < B) w (h,k) ka kn) (hr:okE h k) (hE2:ExAt false (fun g=>g < B) w (h2,k2) la ln) (hr2:okE h2 k2) :
 Calls Tryz.prog 94 #[Φ (some ⟨b,0,none⟩),exV h ka kn kc,exV h2 la ln lc] w (CPost O b w (costsB c (h,k) (h2,k2))):=by
 have hres:Tryz.f94.results = #[.tmp 6,.tmp 7,.cell 8 32]:=by kernel_rfl
 have hS1:=LS.start3 hck hok h ka kn kc h2 la ln lc
 obtain ⟨r1,hr1⟩:∃ r,r = askQ (numFrom 0) c (h,k):=⟨_,rfl⟩
 have HA1:Hid (∀ O' s' L W g,LS w O O' b s s' (some c) L W -> (g,[I J 0],3) ∈ L -> Calls Tryz.prog 89 #[Φ (some ⟨b,0,none⟩),.agg #[I J h.kind,I J h.num,Ψ (bs h.text),Γ ka kn kc,I J h.pl],.func (.func 126) #[] #[Φ (some ⟨g,0,none⟩)]] W fun e w'=>∃ mt mx mp mn f1 f2,e = Ω (.tuple #[.agg #[.bool mt,Ψ mx,I J mp,I J mn],.agg #[I J f1,I J f2]]) /\ Hid (∃ m oc O2 s2,(m.isText = mt /\ bs m.text = mx /\ m.place = mp /\ m.num = mn) /\ RQ r1 m (f1,f2) oc /\ LS w O O2 b s s2 oc L w')):=by
  intro O' s' L W g h1' h2'
  refine (h1'.askNum h k ka kn kc 0 g h2' hlow hB hE hr).mono ?_
  rintro e w' ⟨m,f,oc,O2,s2,rfl,h3⟩
  exact ⟨_,_,_,_,_,_,rfl,m,oc,O2,s2,⟨rfl,rfl,rfl,rfl⟩,by rw [hr1]; exact h3.out.1,h3.out.2⟩
 have HA2:Hid (∀ c1,∀ O' s' L W g,LS w O O' b s s' (some c1) L W -> (g,[I J 0],3) ∈ L -> Calls Tryz.prog 89 #[Φ (some ⟨b,0,none⟩),.agg #[I J h2.kind,I J h2.num,Ψ (bs h2.text),Γ la ln lc,I J h2.pl],.func (.func 126) #[] #[Φ (some ⟨g,0,none⟩)]] W fun e w'=>∃ mt mx mp mn f1 f2,e = Ω (.tuple #[.agg #[.bool mt,Ψ mx,I J mp,I J mn],.agg #[I J f1,I J f2]]) /\ Hid (∃ m oc O2 s2,(m.isText = mt /\ bs m.text = mx /\ m.place = mp /\ m.num = mn) /\ RQ (askQ (numFrom 0) c1 (h2,k2)) m (f1,f2) oc /\ LS w O O2 b s s2 oc L w')):=by
  intro c1 O' s' L W g h1' h2'
  refine (h1'.askNum h2 k2 la ln lc 0 g h2' hlow hB hE2 hr2).mono ?_
  rintro e w' ⟨m,f,oc,O2,s2,rfl,h3⟩
  exact ⟨_,_,_,_,_,_,rfl,m,oc,O2,s2,⟨rfl,rfl,rfl,rfl⟩,h3.out.1,h3.out.2⟩
 have HSS:Hid (∀ O' s' oc L W,LS w O O' b s s' oc L W -> (w.heap.size,exL h ka kn kc,102) ∈ L -> W.cell? ⟨w.heap.size,0,none⟩ = some (I J h.kind) /\ W.cell? ⟨w.heap.size,1,none⟩ = some (I J h.num) /\ W.cell? ⟨w.heap.size,2,none⟩ = some (Ψ (bs h.text)) /\ W.cell? ⟨w.heap.size,3,none⟩ = some (Γ ka kn kc) /\ W.cell? ⟨w.heap.size,4,none⟩ = some (I J h.pl)):=fun O' s' oc L W h1 h2=>⟨h1.at h2 rfl,h1.at h2 rfl,h1.at h2 rfl,h1.at h2 rfl,h1.at h2 rfl⟩
 have HSS2:Hid (∀ O' s' oc L W,LS w O O' b s s' oc L W -> (w.heap.size + 1,exL h2 la ln lc,102) ∈ L -> W.cell? ⟨w.heap.size + 1,0,none⟩ = some (I J h2.kind) /\ W.cell? ⟨w.heap.size + 1,1,none⟩ = some (I J h2.num) /\ W.cell? ⟨w.heap.size + 1,2,none⟩ = some (Ψ (bs h2.text)) /\ W.cell? ⟨w.heap.size + 1,3,none⟩ = some (Γ la ln lc) /\ W.cell? ⟨w.heap.size + 1,4,none⟩ = some (I J h2.pl)):=fun O' s' oc L W h1 h2=>⟨h1.at h2 rfl,h1.at h2 rfl,h1.at h2 rfl,h1.at h2 rfl,h1.at h2 rfl⟩
 have HX:Hid (costsB c (h,k) (h2,k2) = match r1 with | .error f=>.error f | .ok (c1,m1)=>(match askQ (numFrom 0) c1 (h2,k2) with | .error f=>.error f | .ok (c2,m2)=>.ok (c2,m1.place,m2.place))):=by show _ = _; rw [hr1]; rfl
 generalize hO1:(fun g=>O g /\ g < w.heap.size) = O1 at hS1
 clear hO1 hck hok hlow hB hE hr hE2 hr2 hr1
 unfold exV
 have HS1:=hid hS1
 clear hS1
 go_enter Tryz.func94,Tryz.ntmps94
 go_upto_region 1 with (fail)
 generalize (((w.alloc (Δ #[I J h.kind,I J h.num,Ψ (bs h.text),Γ ka kn kc,I J h.pl] 102)).alloc (Δ #[I J h2.kind,I J h2.num,Ψ (bs h2.text),Γ la ln lc,I J h2.pl] 102)).alloc (Δ #[I J 0,I J 0] 32)) = w1 at *
 go_cut [9,10] (fun mv fv wc=>∃ g7 g8 mt mx mp mn f1 f2,mv = Φ (some ⟨g7,0,none⟩) /\ fv = Φ (some ⟨g8,0,none⟩) /\ AR r1 w O b s mt mx mp mn f1 f2 (fun m=>[(g7,mnL m,109),(g8,flL (f1,f2),32),(w.heap.size + 1 + 1,flL (0,0),32),(w.heap.size + 1,exL h2 la ln lc,102),(w.heap.size,exL h ka kn kc,102)]) wc)
 case first=>
  have hy1:EC w.heap.size h ka kn kc w1:=HSS.out _ _ _ _ _ HS1.out (by simp)
  have hy:EC w.heap.size h ka kn kc w1.drew:=hy1
  have hl1:w.heap.size < w1.heap.size:=HS1.out.lt (g:=w.heap.size) (cs:=exL h ka kn kc) (ty:=102) (by simp)
  go_region_held3 (fun W=>W.cell? ⟨w.heap.size,0,none⟩ = some (I J h.kind) /\ W.cell? ⟨w.heap.size,1,none⟩ = some (I J h.num) /\ W.cell? ⟨w.heap.size,2,none⟩ = some (Ψ (bs h.text)) /\ W.cell? ⟨w.heap.size,3,none⟩ = some (Γ ka kn kc) /\ W.cell? ⟨w.heap.size,4,none⟩ = some (I J h.pl)) (first | (with_reducible exact hy) | (with_reducible exact hyV) | (with_reducible exact (hy1.alloc _).drew) | (with_reducible exact ((hy1.alloc _).alloc _).drew) | (with_reducible exact (((hy1.alloc _).alloc _).alloc _).drew) | (with_reducible exact hyV.alloc _) | (with_reducible exact (hyV.alloc _).alloc _) | (with_reducible exact ((((hyV.put (b:=_) (by omega) 0 _).put (b:=_) (by omega) 1 _).put (b:=_) (by omega) 2 _).put (b:=_) (by omega) 3 _)) | (with_reducible exact (((((hyV.put (b:=_) (by omega) 0 _).put (b:=_) (by omega) 1 _).put (b:=_) (by omega) 2 _).put (b:=_) (by omega) 3 _).alloc _)) | (with_reducible exact ((((((hyV.put (b:=_) (by omega) 0 _).put (b:=_) (by omega) 1 _).put (b:=_) (by omega) 2 _).put (b:=_) (by omega) 3 _).put (b:=_) (by omega) 0 _).put (b:=_) (by omega) 1 _)) | (with_reducible exact (((hyV.put (b:=_) (by omega) 0 _).put (b:=_) (by omega) 1 _).alloc _))) (first
   | (go_at_call 95; (with_reducible refine (numberFrom_calls _ _).mono ?_); rintro e V1 ⟨rfl,rfl⟩)
   | (go_at_call 89; (with_reducible refine (HA1.out _ _ _ _ (w1.heap.size) (HS1.out.allocE (g:=w1.heap.size) [I J 0] 3 rfl (by simp)).drew (by simp)).mono ?_); rintro e V2 ⟨mt,mx,mp,mn,f1,f2,rfl,hV⟩; obtain ⟨m,oc,O2,s2,⟨rfl,rfl,rfl,rfl⟩,hRQ,hLSC⟩:=hV.out; have hyV:EC w.heap.size h ka kn kc V2:=HSS.out _ _ _ _ _ hLSC (by simp); have hl2:w.heap.size < V2.heap.size:=hLSC.lt (g:=w.heap.size) (cs:=exL h ka kn kc) (ty:=102) (by simp))
   | (go_at_call 89; (with_reducible refine (HA1.out _ _ _ _ (w1.heap.size) ((HS1.out.allocE (g:=w1.heap.size) [I J 0] 3 rfl (by simp)).allocE (g:=w1.heap.size + 1) [I J 0,I J 0] 32 rfl (by simp)).drew (by simp)).mono ?_); rintro e V2 ⟨mt,mx,mp,mn,f1,f2,rfl,hV⟩; obtain ⟨m,oc,O2,s2,⟨rfl,rfl,rfl,rfl⟩,hRQ,hLSCF⟩:=hV.out; have hyV:EC w.heap.size h ka kn kc V2:=HSS.out _ _ _ _ _ hLSCF (by simp); have hl2:w.heap.size < V2.heap.size:=hLSCF.lt (g:=w.heap.size) (cs:=exL h ka kn kc) (ty:=102) (by simp); obtain ⟨lr,nr,or_,r0,r1,rf,ra0,ra1,rg⟩:=hLSCF.fh (g:=w1.heap.size + 1) (by simp))
   | (go_at_call 89; (with_reducible refine (HA1.out _ _ _ _ (w1.heap.size) (((HS1.out.allocE (g:=w1.heap.size) [I J 0] 3 rfl (by simp)).allocE (g:=w1.heap.size + 1) [I J 0,I J 0] 32 rfl (by simp)).allocE (g:=w1.heap.size + 1 + 1) [.bool false,Ψ ⟨#[]⟩,I J 0,I J 0] 109 rfl (by simp)).drew (by simp)).mono ?_); rintro e V2 ⟨mt,mx,mp,mn,f1,f2,rfl,hV⟩; obtain ⟨m,oc,O2,s2,⟨rfl,rfl,rfl,rfl⟩,hRQ,hLSCFM⟩:=hV.out; have hyV:EC w.heap.size h ka kn kc V2:=HSS.out _ _ _ _ _ hLSCFM (by simp); have hl2:w.heap.size < V2.heap.size:=hLSCFM.lt (g:=w.heap.size) (cs:=exL h ka kn kc) (ty:=102) (by simp); obtain ⟨lq,nq,oq,q0,q1,q2,q3,qf,qa0,qa1,qa2,qa3,qg⟩:=hLSCFM.mh (g:=w1.heap.size + 1 + 1) (by simp); obtain ⟨lr,nr,or_,r0,r1,rf,ra0,ra1,rg⟩:=hLSCFM.fh (g:=w1.heap.size + 1) (by simp))
   | (go_at_call 89; (with_reducible refine (HA1.out _ _ _ _ (w1.heap.size) ((HS1.out.allocE (g:=w1.heap.size) [I J 0] 3 rfl (by simp)).allocE (g:=w1.heap.size + 1) [.bool false,Ψ ⟨#[]⟩,I J 0,I J 0] 109 rfl (by simp)).drew (by simp)).mono ?_); rintro e V2 ⟨mt,mx,mp,mn,f1,f2,rfl,hV⟩; obtain ⟨m,oc,O2,s2,⟨rfl,rfl,rfl,rfl⟩,hRQ,hLSCM⟩:=hV.out; have hyV:EC w.heap.size h ka kn kc V2:=HSS.out _ _ _ _ _ hLSCM (by simp); have hl2:w.heap.size < V2.heap.size:=hLSCM.lt (g:=w.heap.size) (cs:=exL h ka kn kc) (ty:=102) (by simp); obtain ⟨lq,nq,oq,q0,q1,q2,q3,qf,qa0,qa1,qa2,qa3,qg⟩:=hLSCM.mh (g:=w1.heap.size + 1) (by simp))
   | (go_at_call 89; (with_reducible refine (HA1.out _ _ _ _ (w1.heap.size) (((HS1.out.allocE (g:=w1.heap.size) [I J 0] 3 rfl (by simp)).allocE (g:=w1.heap.size + 1) [.bool false,Ψ ⟨#[]⟩,I J 0,I J 0] 109 rfl (by simp)).allocE (g:=w1.heap.size + 1 + 1) [I J 0,I J 0] 32 rfl (by simp)).drew (by simp)).mono ?_); rintro e V2 ⟨mt,mx,mp,mn,f1,f2,rfl,hV⟩; obtain ⟨m,oc,O2,s2,⟨rfl,rfl,rfl,rfl⟩,hRQ,hLSCMF⟩:=hV.out; have hyV:EC w.heap.size h ka kn kc V2:=HSS.out _ _ _ _ _ hLSCMF (by simp); have hl2:w.heap.size < V2.heap.size:=hLSCMF.lt (g:=w.heap.size) (cs:=exL h ka kn kc) (ty:=102) (by simp); obtain ⟨lq,nq,oq,q0,q1,q2,q3,qf,qa0,qa1,qa2,qa3,qg⟩:=hLSCMF.mh (g:=w1.heap.size + 1) (by simp); obtain ⟨lr,nr,or_,r0,r1,rf,ra0,ra1,rg⟩:=hLSCMF.fh (g:=w1.heap.size + 1 + 1) (by simp))
   | (go_at_call 89; (with_reducible refine (HA1.out _ _ _ _ (w1.heap.size + 1) ((HS1.out.allocE (g:=w1.heap.size) [I J 0,I J 0] 32 rfl (by simp)).allocE (g:=w1.heap.size + 1) [I J 0] 3 rfl (by simp)).drew (by simp)).mono ?_); rintro e V2 ⟨mt,mx,mp,mn,f1,f2,rfl,hV⟩; obtain ⟨m,oc,O2,s2,⟨rfl,rfl,rfl,rfl⟩,hRQ,hLSFC⟩:=hV.out; have hyV:EC w.heap.size h ka kn kc V2:=HSS.out _ _ _ _ _ hLSFC (by simp); have hl2:w.heap.size < V2.heap.size:=hLSFC.lt (g:=w.heap.size) (cs:=exL h ka kn kc) (ty:=102) (by simp); obtain ⟨lr,nr,or_,r0,r1,rf,ra0,ra1,rg⟩:=hLSFC.fh (g:=w1.heap.size) (by simp))
   | (go_at_call 89; (with_reducible refine (HA1.out _ _ _ _ (w1.heap.size + 1) (((HS1.out.allocE (g:=w1.heap.size) [I J 0,I J 0] 32 rfl (by simp)).allocE (g:=w1.heap.size + 1) [I J 0] 3 rfl (by simp)).allocE (g:=w1.heap.size + 1 + 1) [.bool false,Ψ ⟨#[]⟩,I J 0,I J 0] 109 rfl (by simp)).drew (by simp)).mono ?_); rintro e V2 ⟨mt,mx,mp,mn,f1,f2,rfl,hV⟩; obtain ⟨m,oc,O2,s2,⟨rfl,rfl,rfl,rfl⟩,hRQ,hLSFCM⟩:=hV.out; have hyV:EC w.heap.size h ka kn kc V2:=HSS.out _ _ _ _ _ hLSFCM (by simp); have hl2:w.heap.size < V2.heap.size:=hLSFCM.lt (g:=w.heap.size) (cs:=exL h ka kn kc) (ty:=102) (by simp); obtain ⟨lq,nq,oq,q0,q1,q2,q3,qf,qa0,qa1,qa2,qa3,qg⟩:=hLSFCM.mh (g:=w1.heap.size + 1 + 1) (by simp); obtain ⟨lr,nr,or_,r0,r1,rf,ra0,ra1,rg⟩:=hLSFCM.fh (g:=w1.heap.size) (by simp))
   | (go_at_call 89; (with_reducible refine (HA1.out _ _ _ _ (w1.heap.size + 1 + 1) (((HS1.out.allocE (g:=w1.heap.size) [I J 0,I J 0] 32 rfl (by simp)).allocE (g:=w1.heap.size + 1) [.bool false,Ψ ⟨#[]⟩,I J 0,I J 0] 109 rfl (by simp)).allocE (g:=w1.heap.size + 1 + 1) [I J 0] 3 rfl (by simp)).drew (by simp)).mono ?_); rintro e V2 ⟨mt,mx,mp,mn,f1,f2,rfl,hV⟩; obtain ⟨m,oc,O2,s2,⟨rfl,rfl,rfl,rfl⟩,hRQ,hLSFMC⟩:=hV.out; have hyV:EC w.heap.size h ka kn kc V2:=HSS.out _ _ _ _ _ hLSFMC (by simp); have hl2:w.heap.size < V2.heap.size:=hLSFMC.lt (g:=w.heap.size) (cs:=exL h ka kn kc) (ty:=102) (by simp); obtain ⟨lq,nq,oq,q0,q1,q2,q3,qf,qa0,qa1,qa2,qa3,qg⟩:=hLSFMC.mh (g:=w1.heap.size + 1) (by simp); obtain ⟨lr,nr,or_,r0,r1,rf,ra0,ra1,rg⟩:=hLSFMC.fh (g:=w1.heap.size) (by simp))
   | (go_at_call 89; (with_reducible refine (HA1.out _ _ _ _ (w1.heap.size + 1) ((HS1.out.allocE (g:=w1.heap.size) [.bool false,Ψ ⟨#[]⟩,I J 0,I J 0] 109 rfl (by simp)).allocE (g:=w1.heap.size + 1) [I J 0] 3 rfl (by simp)).drew (by simp)).mono ?_); rintro e V2 ⟨mt,mx,mp,mn,f1,f2,rfl,hV⟩; obtain ⟨m,oc,O2,s2,⟨rfl,rfl,rfl,rfl⟩,hRQ,hLSMC⟩:=hV.out; have hyV:EC w.heap.size h ka kn kc V2:=HSS.out _ _ _ _ _ hLSMC (by simp); have hl2:w.heap.size < V2.heap.size:=hLSMC.lt (g:=w.heap.size) (cs:=exL h ka kn kc) (ty:=102) (by simp); obtain ⟨lq,nq,oq,q0,q1,q2,q3,qf,qa0,qa1,qa2,qa3,qg⟩:=hLSMC.mh (g:=w1.heap.size) (by simp))
   | (go_at_call 89; (with_reducible refine (HA1.out _ _ _ _ (w1.heap.size + 1) (((HS1.out.allocE (g:=w1.heap.size) [.bool false,Ψ ⟨#[]⟩,I J 0,I J 0] 109 rfl (by simp)).allocE (g:=w1.heap.size + 1) [I J 0] 3 rfl (by simp)).allocE (g:=w1.heap.size + 1 + 1) [I J 0,I J 0] 32 rfl (by simp)).drew (by simp)).mono ?_); rintro e V2 ⟨mt,mx,mp,mn,f1,f2,rfl,hV⟩; obtain ⟨m,oc,O2,s2,⟨rfl,rfl,rfl,rfl⟩,hRQ,hLSMCF⟩:=hV.out; have hyV:EC w.heap.size h ka kn kc V2:=HSS.out _ _ _ _ _ hLSMCF (by simp); have hl2:w.heap.size < V2.heap.size:=hLSMCF.lt (g:=w.heap.size) (cs:=exL h ka kn kc) (ty:=102) (by simp); obtain ⟨lq,nq,oq,q0,q1,q2,q3,qf,qa0,qa1,qa2,qa3,qg⟩:=hLSMCF.mh (g:=w1.heap.size) (by simp); obtain ⟨lr,nr,or_,r0,r1,rf,ra0,ra1,rg⟩:=hLSMCF.fh (g:=w1.heap.size + 1 + 1) (by simp))
   | (go_at_call 89; (with_reducible refine (HA1.out _ _ _ _ (w1.heap.size + 1 + 1) (((HS1.out.allocE (g:=w1.heap.size) [.bool false,Ψ ⟨#[]⟩,I J 0,I J 0] 109 rfl (by simp)).allocE (g:=w1.heap.size + 1) [I J 0,I J 0] 32 rfl (by simp)).allocE (g:=w1.heap.size + 1 + 1) [I J 0] 3 rfl (by simp)).drew (by simp)).mono ?_); rintro e V2 ⟨mt,mx,mp,mn,f1,f2,rfl,hV⟩; obtain ⟨m,oc,O2,s2,⟨rfl,rfl,rfl,rfl⟩,hRQ,hLSMFC⟩:=hV.out; have hyV:EC w.heap.size h ka kn kc V2:=HSS.out _ _ _ _ _ hLSMFC (by simp); have hl2:w.heap.size < V2.heap.size:=hLSMFC.lt (g:=w.heap.size) (cs:=exL h ka kn kc) (ty:=102) (by simp); obtain ⟨lq,nq,oq,q0,q1,q2,q3,qf,qa0,qa1,qa2,qa3,qg⟩:=hLSMFC.mh (g:=w1.heap.size) (by simp); obtain ⟨lr,nr,or_,r0,r1,rf,ra0,ra1,rg⟩:=hLSMFC.fh (g:=w1.heap.size + 1) (by simp)))
  all_goals (go_wp2_with fail; go_meet)
  all_goals (first
   | (have hf:=((((hLSMFC.front (L1:=[_,_]) rfl).store109 m rfl rfl).front (L1:=[_,_]) rfl).store32 (f0:=(0,0)) (f1,f2) rfl); refine ⟨w1.heap.size,w1.heap.size + 1,m.isText,bs m.text,m.place,m.num,f1,f2,rfl,rfl,?_⟩; unfold AR; refine ⟨m,oc,O2,s2,⟨hRQ,rfl,rfl,rfl,rfl⟩,?_⟩; have hg:=hf.sub (L':=[(w1.heap.size,mnL m,109),(w1.heap.size + 1,flL (f1,f2),32),(w.heap.size + 1 + 1,flL (0,0),32),(w.heap.size + 1,exL h2 la ln lc,102),(w.heap.size,exL h ka kn kc,102)]) (by simp [mnL,flL]) (by have:=hf.nd; simp at this ⊢; omega); with_reducible exact hg)
   | (have hf:=((((hLSMCF.front (L1:=[_,_]) rfl).store109 m rfl rfl).front (L1:=[_]) rfl).store32 (f0:=(0,0)) (f1,f2) rfl); refine ⟨w1.heap.size,w1.heap.size + 1 + 1,m.isText,bs m.text,m.place,m.num,f1,f2,rfl,rfl,?_⟩; unfold AR; refine ⟨m,oc,O2,s2,⟨hRQ,rfl,rfl,rfl,rfl⟩,?_⟩; have hg:=hf.sub (L':=[(w1.heap.size,mnL m,109),(w1.heap.size + 1 + 1,flL (f1,f2),32),(w.heap.size + 1 + 1,flL (0,0),32),(w.heap.size + 1,exL h2 la ln lc,102),(w.heap.size,exL h ka kn kc,102)]) (by simp [mnL,flL]) (by have:=hf.nd; simp at this ⊢; omega); with_reducible exact hg)
   | (have hf:=(((hLSMC.front (L1:=[_]) rfl).store109 m rfl rfl).allocE (g:=V2.heap.size) [I J f1,I J f2] 32 rfl (by simp)); refine ⟨w1.heap.size,V2.heap.size,m.isText,bs m.text,m.place,m.num,f1,f2,rfl,rfl,?_⟩; unfold AR; refine ⟨m,oc,O2,s2,⟨hRQ,rfl,rfl,rfl,rfl⟩,?_⟩; have hg:=hf.sub (L':=[(w1.heap.size,mnL m,109),(V2.heap.size,flL (f1,f2),32),(w.heap.size + 1 + 1,flL (0,0),32),(w.heap.size + 1,exL h2 la ln lc,102),(w.heap.size,exL h ka kn kc,102)]) (by simp [mnL,flL]) (by have:=hf.nd; simp at this ⊢; omega); with_reducible exact hg)
   | (have hf:=((((hLSFMC.front (L1:=[_]) rfl).store109 m rfl rfl).front (L1:=[_,_]) rfl).store32 (f0:=(0,0)) (f1,f2) rfl); refine ⟨w1.heap.size + 1,w1.heap.size,m.isText,bs m.text,m.place,m.num,f1,f2,rfl,rfl,?_⟩; unfold AR; refine ⟨m,oc,O2,s2,⟨hRQ,rfl,rfl,rfl,rfl⟩,?_⟩; have hg:=hf.sub (L':=[(w1.heap.size + 1,mnL m,109),(w1.heap.size,flL (f1,f2),32),(w.heap.size + 1 + 1,flL (0,0),32),(w.heap.size + 1,exL h2 la ln lc,102),(w.heap.size,exL h ka kn kc,102)]) (by simp [mnL,flL]) (by have:=hf.nd; simp at this ⊢; omega); with_reducible exact hg)
   | (have hf:=(((hLSFCM.store109 m rfl rfl).front (L1:=[_,_]) rfl).store32 (f0:=(0,0)) (f1,f2) rfl); refine ⟨w1.heap.size + 1 + 1,w1.heap.size,m.isText,bs m.text,m.place,m.num,f1,f2,rfl,rfl,?_⟩; unfold AR; refine ⟨m,oc,O2,s2,⟨hRQ,rfl,rfl,rfl,rfl⟩,?_⟩; have hg:=hf.sub (L':=[(w1.heap.size + 1 + 1,mnL m,109),(w1.heap.size,flL (f1,f2),32),(w.heap.size + 1 + 1,flL (0,0),32),(w.heap.size + 1,exL h2 la ln lc,102),(w.heap.size,exL h ka kn kc,102)]) (by simp [mnL,flL]) (by have:=hf.nd; simp at this ⊢; omega); with_reducible exact hg)
   | (have hf:=(((hLSFC.front (L1:=[_]) rfl).store32 (f0:=(0,0)) (f1,f2) rfl).allocE (g:=V2.heap.size) [.bool m.isText,Ψ (bs m.text),I J m.place,I J m.num] 109 rfl (by simp)); refine ⟨V2.heap.size,w1.heap.size,m.isText,bs m.text,m.place,m.num,f1,f2,rfl,rfl,?_⟩; unfold AR; refine ⟨m,oc,O2,s2,⟨hRQ,rfl,rfl,rfl,rfl⟩,?_⟩; have hg:=hf.sub (L':=[(V2.heap.size,mnL m,109),(w1.heap.size,flL (f1,f2),32),(w.heap.size + 1 + 1,flL (0,0),32),(w.heap.size + 1,exL h2 la ln lc,102),(w.heap.size,exL h ka kn kc,102)]) (by simp [mnL,flL]) (by have:=hf.nd; simp at this ⊢; omega); with_reducible exact hg)
   | (have hf:=((((hLSCMF.front (L1:=[_]) rfl).store109 m rfl rfl).front (L1:=[_]) rfl).store32 (f0:=(0,0)) (f1,f2) rfl); refine ⟨w1.heap.size + 1,w1.heap.size + 1 + 1,m.isText,bs m.text,m.place,m.num,f1,f2,rfl,rfl,?_⟩; unfold AR; refine ⟨m,oc,O2,s2,⟨hRQ,rfl,rfl,rfl,rfl⟩,?_⟩; have hg:=hf.sub (L':=[(w1.heap.size + 1,mnL m,109),(w1.heap.size + 1 + 1,flL (f1,f2),32),(w.heap.size + 1 + 1,flL (0,0),32),(w.heap.size + 1,exL h2 la ln lc,102),(w.heap.size,exL h ka kn kc,102)]) (by simp [mnL,flL]) (by have:=hf.nd; simp at this ⊢; omega); with_reducible exact hg)
   | (have hf:=((hLSCM.store109 m rfl rfl).allocE (g:=V2.heap.size) [I J f1,I J f2] 32 rfl (by simp)); refine ⟨w1.heap.size + 1,V2.heap.size,m.isText,bs m.text,m.place,m.num,f1,f2,rfl,rfl,?_⟩; unfold AR; refine ⟨m,oc,O2,s2,⟨hRQ,rfl,rfl,rfl,rfl⟩,?_⟩; have hg:=hf.sub (L':=[(w1.heap.size + 1,mnL m,109),(V2.heap.size,flL (f1,f2),32),(w.heap.size + 1 + 1,flL (0,0),32),(w.heap.size + 1,exL h2 la ln lc,102),(w.heap.size,exL h ka kn kc,102)]) (by simp [mnL,flL]) (by have:=hf.nd; simp at this ⊢; omega); with_reducible exact hg)
   | (have hf:=(((hLSCFM.store109 m rfl rfl).front (L1:=[_]) rfl).store32 (f0:=(0,0)) (f1,f2) rfl); refine ⟨w1.heap.size + 1 + 1,w1.heap.size + 1,m.isText,bs m.text,m.place,m.num,f1,f2,rfl,rfl,?_⟩; unfold AR; refine ⟨m,oc,O2,s2,⟨hRQ,rfl,rfl,rfl,rfl⟩,?_⟩; have hg:=hf.sub (L':=[(w1.heap.size + 1 + 1,mnL m,109),(w1.heap.size + 1,flL (f1,f2),32),(w.heap.size + 1 + 1,flL (0,0),32),(w.heap.size + 1,exL h2 la ln lc,102),(w.heap.size,exL h ka kn kc,102)]) (by simp [mnL,flL]) (by have:=hf.nd; simp at this ⊢; omega); with_reducible exact hg)
   | (have hf:=((hLSCF.store32 (f0:=(0,0)) (f1,f2) rfl).allocE (g:=V2.heap.size) [.bool m.isText,Ψ (bs m.text),I J m.place,I J m.num] 109 rfl (by simp)); refine ⟨V2.heap.size,w1.heap.size + 1,m.isText,bs m.text,m.place,m.num,f1,f2,rfl,rfl,?_⟩; unfold AR; refine ⟨m,oc,O2,s2,⟨hRQ,rfl,rfl,rfl,rfl⟩,?_⟩; have hg:=hf.sub (L':=[(V2.heap.size,mnL m,109),(w1.heap.size + 1,flL (f1,f2),32),(w.heap.size + 1 + 1,flL (0,0),32),(w.heap.size + 1,exL h2 la ln lc,102),(w.heap.size,exL h ka kn kc,102)]) (by simp [mnL,flL]) (by have:=hf.nd; simp at this ⊢; omega); with_reducible exact hg)
   | (have hf:=((hLSC.allocE (g:=V2.heap.size) [.bool m.isText,Ψ (bs m.text),I J m.place,I J m.num] 109 rfl (by simp)).allocE (g:=V2.heap.size + 1) [I J f1,I J f2] 32 rfl (by simp)); refine ⟨V2.heap.size,V2.heap.size + 1,m.isText,bs m.text,m.place,m.num,f1,f2,rfl,rfl,?_⟩; unfold AR; refine ⟨m,oc,O2,s2,⟨hRQ,rfl,rfl,rfl,rfl⟩,?_⟩; have hg:=hf.sub (L':=[(V2.heap.size,mnL m,109),(V2.heap.size + 1,flL (f1,f2),32),(w.heap.size + 1 + 1,flL (0,0),32),(w.heap.size + 1,exL h2 la ln lc,102),(w.heap.size,exL h ka kn kc,102)]) (by simp [mnL,flL]) (by have:=hf.nd; simp at this ⊢; omega); with_reducible exact hg)
   | (have hf:=((hLSC.allocE (g:=V2.heap.size) [I J f1,I J f2] 32 rfl (by simp)).allocE (g:=V2.heap.size + 1) [.bool m.isText,Ψ (bs m.text),I J m.place,I J m.num] 109 rfl (by simp)); refine ⟨V2.heap.size + 1,V2.heap.size,m.isText,bs m.text,m.place,m.num,f1,f2,rfl,rfl,?_⟩; unfold AR; refine ⟨m,oc,O2,s2,⟨hRQ,rfl,rfl,rfl,rfl⟩,?_⟩; have hg:=hf.sub (L':=[(V2.heap.size + 1,mnL m,109),(V2.heap.size,flL (f1,f2),32),(w.heap.size + 1 + 1,flL (0,0),32),(w.heap.size + 1,exL h2 la ln lc,102),(w.heap.size,exL h ka kn kc,102)]) (by simp [mnL,flL]) (by have:=hf.nd; simp at this ⊢; omega); with_reducible exact hg))
 case rest=>
  obtain ⟨g7,g8,mt,mx,mp,mn,f1,f2,rfl,rfl,m,oc,O2,s2,⟨hRQ,e1,e2,e3,e4⟩,hL⟩:=hcut
  clear HA1 HSS HS1
  cases r1 with
  | error f'=>
    obtain ⟨rfl,hf,-,rfl⟩:=hRQ
    have HX2:Hid (costsB c (h,k) (h2,k2) = .error (f1,f2)):=HX.out
    have HF:Hid (f1 ≠ 0):=hf
    have hq:(f1 == 0) = false:=by rw [beq_eq_false_iff_ne]; exact hf
    have HL:=hid hL
    have y0:wc.cell? ⟨g8,0,none⟩ = some (I J f1):=HL.out.at (g:=g8) (cs:=flL (f1,f2)) (ty:=32) (by simp) rfl
    have y1:wc.cell? ⟨g8,1,none⟩ = some (I J f2):=HL.out.at (g:=g8) (cs:=flL (f1,f2)) (ty:=32) (by simp) rfl
    have z0:wc.cell? ⟨w.heap.size + 1 + 1,0,none⟩ = some (I J 0):=HL.out.at (g:=w.heap.size + 1 + 1) (cs:=flL (0,0)) (ty:=32) (by simp) rfl
    have z1:wc.cell? ⟨w.heap.size + 1 + 1,1,none⟩ = some (I J 0):=HL.out.at (g:=w.heap.size + 1 + 1) (cs:=flL (0,0)) (ty:=32) (by simp) rfl
    have zf:∀ i,wc.frozen? ⟨w.heap.size + 1 + 1,i,none⟩ = false:=fun i=>HL.out.fz (g:=w.heap.size + 1 + 1) (cs:=flL (0,0)) (ty:=32) (by simp) i
    clear HX HA2 HSS2 hf hL e1 e2 e3 e4
    go_wp2_with fail
    go_region
    go_wp2
    refine bodyPost_ret (v:=.tuple #[I J 0,I J 0,.agg #[I J f1,I J f2]]) ?_ rfl ?_
    ·simp only [results,hres]
     go_simp
    ·show CPost _ _ _ _ _ _
     rw [HX2.out]
     exact ⟨HF.out,⟨0,0,rfl⟩,((HL.out.fr.setCell (.inr (by omega)) _ _).setCell (.inr (by omega)) _ _).drew⟩
  | ok x=>
    obtain ⟨c1,m'⟩:=x
    obtain ⟨hf,rfl,rfl⟩:=hRQ
    cases hf
    obtain ⟨r2,hr2⟩:∃ r,r = askQ (numFrom 0) c1 (h2,k2):=⟨_,rfl⟩
    have HX2:Hid (costsB c (h,k) (h2,k2) = costs2 m.place r2):=by show _ = _; rw [hr2]; exact HX.out
    have HL:=hid hL
    have HA3:=HA2.out c1
    rw [<- hr2] at HA3
    have HA3':Hid _:=HA3
    have y0:wc.cell? ⟨g8,0,none⟩ = some (I J 0):=HL.out.at (g:=g8) (cs:=flL (0,0)) (ty:=32) (by simp) rfl
    clear HA2 HX hL e1 e2 e3 e4 hr2
    go_upto_region 4 with (fail)
    clear y0
    have HS0:=hid (HL.out.drew)
    clear HL
    obtain ⟨wd,hwd⟩:∃ wd,wd = wc:=⟨_,rfl⟩
    subst hwd
    go_cut [11] (fun mv wc=>∃ g9 mt mx mp mn f1 f2,mv = Φ (some ⟨g9,0,none⟩) /\ AR r2 w O b s mt mx mp mn f1 f2 (fun m_x=>[(g9,mnL m_x,109),(g7,mnL m,109),(g8,flL (f1,f2),32),(w.heap.size + 1 + 1,flL (0,0),32)]) wc)
    case first=>
     refine wp_region_Y (fun j=>[].contains j) (fun W=>W.cell? ⟨w.heap.size + 1,0,none⟩ = some (I J h2.kind) /\ W.cell? ⟨w.heap.size + 1,1,none⟩ = some (I J h2.num) /\ W.cell? ⟨w.heap.size + 1,2,none⟩ = some (Ψ (bs h2.text)) /\ W.cell? ⟨w.heap.size + 1,3,none⟩ = some (Γ la ln lc) /\ W.cell? ⟨w.heap.size + 1,4,none⟩ = some (I J h2.pl)) (by kernel_rfl) ?_
     refine tkL (i:=0) 24 (v:=Φ (some ⟨b,0,none⟩)) rfl rfl (HSS2.out _ _ _ _ _ HS0.out (by simp)) (fun W hW=>by obtain ⟨_,_,_,_,_⟩:=hW; go_simp) ?_
     simp only [Act.put,lA,lB,lC]
     refine tkL (i:=1) 25 (v:=.agg #[I J h2.kind,I J h2.num,Ψ (bs h2.text),Γ la ln lc,I J h2.pl]) rfl rfl (HSS2.out _ _ _ _ _ HS0.out (by simp)) (fun W hW=>by obtain ⟨_,_,_,_,_⟩:=hW; go_simp) ?_
     simp only [Act.put,lA,lB,lC]
     refine wpAnyY_two (i:=2) (j:=7) rfl rfl (by kernel_rfl) (fun K hK=>?_) (fun K hK=>?_)
     ·refine call95c_step rfl rfl rfl ?_
      intro V1 gd hV hG
      have HS2:=hid (HS0.out.allocE _ 3 hV hG)
      refine hK.out _ _ (fun _=>HSS2.out _ _ _ _ _ HS2.out (by simp)) ?_
      clear hK K HS0 hV hG
      simp only [Act.put,lA,lB,lC]
      refine wpAnyY_two (i:=3) (j:=7) rfl rfl (by kernel_rfl) (fun K hK=>?_) (fun K hK=>?_)
      ·refine call89_step rfl rfl rfl rfl rfl rfl ?_
       refine (HA3'.out _ _ _ _ gd HS2.out (by simp)).mono ?_
       rintro e V3 ⟨mt_x,mx_x,mp_x,mn_x,f1_x,f2_x,rfl,hV⟩
       refine ⟨_,rfl,?_⟩
       obtain ⟨m_x,oc_x,O2_x,s2_x,hm,hRQ,hLS⟩:=hV.out
       have HS4:=hid hLS
       have HR:Hid (RQ r2 m_x (f1_x,f2_x) oc_x /\ m_x.isText = mt_x /\ bs m_x.text = mx_x /\ m_x.place = mp_x /\ m_x.num = mn_x):=⟨hRQ,hm⟩
       refine hK.out _ _ (fun _=>HSS2.out _ _ _ _ _ HS4.out (by simp)) ?_
       clear hK K HS2 hV hm hRQ hLS
       simp only [Act.put,lA,lB,lC]
       refine tkL (i:=4) 23 (v:=.tuple #[.agg #[.bool mt_x,Ψ mx_x,I J mp_x,I J mn_x],.agg #[I J f1_x,I J f2_x]]) rfl rfl (HSS2.out _ _ _ _ _ HS4.out (by simp)) (fun W hW=>by obtain ⟨_,_,_,_,_⟩:=hW; go_simp) ?_
       simp only [Act.put,lA,lB,lC]
       refine tkL (i:=5) 28 (v:=.agg #[.bool mt_x,Ψ mx_x,I J mp_x,I J mn_x]) rfl rfl (HSS2.out _ _ _ _ _ HS4.out (by simp)) (fun W hW=>by obtain ⟨_,_,_,_,_⟩:=hW; go_simp) ?_
       simp only [Act.put,lA,lB,lC]
       refine tkL (i:=6) 29 (v:=.agg #[I J f1_x,I J f2_x]) rfl rfl (HSS2.out _ _ _ _ _ HS4.out (by simp)) (fun W hW=>by obtain ⟨_,_,_,_,_⟩:=hW; go_simp) ?_
       simp only [Act.put,lA,lB,lC]
       refine wpAnyY_one (i:=7) rfl (by kernel_rfl) (fun K hK=>?_)
       refine alloc109_step rfl rfl rfl ?_
       intro V5 g9 hV hG
       have HS6:=hid (HS4.out.allocE (mnL mn0) 109 hV hG)
       refine hK.out _ _ (fun _=>HSS2.out _ _ _ _ _ HS6.out (by simp)) ?_
       clear hK K HS4 hV hG
       simp only [Act.put,lA,lB,lC]
       refine wpAnyY_one (i:=8) rfl (by kernel_rfl) (fun K hK=>?_)
       have HF9:Hid (LS w O O2_x b s s2_x oc_x [(g9,mnL mn0,109),(gd,[I J 0],3),(g7,mnL m,109),(g8,flL (0,0),32),(w.heap.size + 1 + 1,flL (0,0),32),(w.heap.size + 1,exL h2 la ln lc,102),(w.heap.size,exL h ka kn kc,102)] V5):=HS6.out.front (L1:=[]) (L2:=[(gd,[I J 0],3),(g7,mnL m,109),(g8,flL (0,0),32),(w.heap.size + 1 + 1,flL (0,0),32),(w.heap.size + 1,exL h2 la ln lc,102),(w.heap.size,exL h ka kn kc,102)]) rfl
       refine store109_step rfl rfl rfl rfl rfl (HF9.out.blk (List.mem_cons_self ..)) ?_
       intro V7 hV
       have HS8:Hid (LS w O O2_x b s s2_x oc_x [(g9,mnL m_x,109),(gd,[I J 0],3),(g7,mnL m,109),(g8,flL (0,0),32),(w.heap.size + 1 + 1,flL (0,0),32),(w.heap.size + 1,exL h2 la ln lc,102),(w.heap.size,exL h ka kn kc,102)] V7):=HF9.out.store109 m_x HR.out.2.2.1.symm (by rw [hV,HR.out.2.1,HR.out.2.2.2.1,HR.out.2.2.2.2])
       refine hK.out _ _ (fun _=>HSS2.out _ _ _ _ _ HS8.out (by simp)) ?_
       clear hK K HS6 hV HF9
       refine wpAnyY_one (i:=9) rfl (by kernel_rfl) (fun K hK=>?_)
       have HF12:Hid (LS w O O2_x b s s2_x oc_x [(g8,flL (0,0),32),(g9,mnL m_x,109),(gd,[I J 0],3),(g7,mnL m,109),(w.heap.size + 1 + 1,flL (0,0),32),(w.heap.size + 1,exL h2 la ln lc,102),(w.heap.size,exL h ka kn kc,102)] V7):=HS8.out.front (L1:=[(g9,mnL m_x,109),(gd,[I J 0],3),(g7,mnL m,109)]) (L2:=[(w.heap.size + 1 + 1,flL (0,0),32),(w.heap.size + 1,exL h2 la ln lc,102),(w.heap.size,exL h ka kn kc,102)]) rfl
       refine store32_step rfl rfl rfl rfl rfl (HF12.out.blk (List.mem_cons_self ..)) ?_
       intro V10 hV
       have HS11:=hid (HF12.out.store32 (f1_x,f2_x) hV)
       refine hK.out _ _ (fun _=>HSS2.out _ _ _ _ _ HS11.out (by simp)) ?_
       clear hK K HS8 hV HF12
       refine wpAnyY_done (by kernel_rfl) ?_ _
       go_wp2_with fail
       go_meet
       exact ⟨g9,mt_x,mx_x,mp_x,mn_x,f1_x,f2_x,rfl,m_x,oc_x,O2_x,s2_x,HR.out,HS11.out.sub (by simp) (by have:=HS11.out.nd; simp at this ⊢; omega)⟩
      ·refine alloc109_step rfl rfl rfl ?_
       intro V13 g9 hV hG
       have HS14:=hid (HS2.out.allocE (mnL mn0) 109 hV hG)
       refine hK.out _ _ (fun _=>HSS2.out _ _ _ _ _ HS14.out (by simp)) ?_
       clear hK K HS2 hV hG
       simp only [Act.put,lA,lB,lC]
       refine wpAnyY_one (i:=3) rfl (by kernel_rfl) (fun K hK=>?_)
       refine call89_step rfl rfl rfl rfl rfl rfl ?_
       refine (HA3'.out _ _ _ _ gd HS14.out (by simp)).mono ?_
       rintro e V15 ⟨mt_x,mx_x,mp_x,mn_x,f1_x,f2_x,rfl,hV⟩
       refine ⟨_,rfl,?_⟩
       obtain ⟨m_x,oc_x,O2_x,s2_x,hm,hRQ,hLS⟩:=hV.out
       have HS16:=hid hLS
       have HR:Hid (RQ r2 m_x (f1_x,f2_x) oc_x /\ m_x.isText = mt_x /\ bs m_x.text = mx_x /\ m_x.place = mp_x /\ m_x.num = mn_x):=⟨hRQ,hm⟩
       refine hK.out _ _ (fun _=>HSS2.out _ _ _ _ _ HS16.out (by simp)) ?_
       clear hK K HS14 hV hm hRQ hLS
       simp only [Act.put,lA,lB,lC]
       refine tkL (i:=4) 23 (v:=.tuple #[.agg #[.bool mt_x,Ψ mx_x,I J mp_x,I J mn_x],.agg #[I J f1_x,I J f2_x]]) rfl rfl (HSS2.out _ _ _ _ _ HS16.out (by simp)) (fun W hW=>by obtain ⟨_,_,_,_,_⟩:=hW; go_simp) ?_
       simp only [Act.put,lA,lB,lC]
       refine tkL (i:=5) 28 (v:=.agg #[.bool mt_x,Ψ mx_x,I J mp_x,I J mn_x]) rfl rfl (HSS2.out _ _ _ _ _ HS16.out (by simp)) (fun W hW=>by obtain ⟨_,_,_,_,_⟩:=hW; go_simp) ?_
       simp only [Act.put,lA,lB,lC]
       refine tkL (i:=6) 29 (v:=.agg #[I J f1_x,I J f2_x]) rfl rfl (HSS2.out _ _ _ _ _ HS16.out (by simp)) (fun W hW=>by obtain ⟨_,_,_,_,_⟩:=hW; go_simp) ?_
       simp only [Act.put,lA,lB,lC]
       refine wpAnyY_one (i:=8) rfl (by kernel_rfl) (fun K hK=>?_)
       have HF19:Hid (LS w O O2_x b s s2_x oc_x [(g9,mnL mn0,109),(gd,[I J 0],3),(g7,mnL m,109),(g8,flL (0,0),32),(w.heap.size + 1 + 1,flL (0,0),32),(w.heap.size + 1,exL h2 la ln lc,102),(w.heap.size,exL h ka kn kc,102)] V15):=HS16.out.front (L1:=[]) (L2:=[(gd,[I J 0],3),(g7,mnL m,109),(g8,flL (0,0),32),(w.heap.size + 1 + 1,flL (0,0),32),(w.heap.size + 1,exL h2 la ln lc,102),(w.heap.size,exL h ka kn kc,102)]) rfl
       refine store109_step rfl rfl rfl rfl rfl (HF19.out.blk (List.mem_cons_self ..)) ?_
       intro V17 hV
       have HS18:Hid (LS w O O2_x b s s2_x oc_x [(g9,mnL m_x,109),(gd,[I J 0],3),(g7,mnL m,109),(g8,flL (0,0),32),(w.heap.size + 1 + 1,flL (0,0),32),(w.heap.size + 1,exL h2 la ln lc,102),(w.heap.size,exL h ka kn kc,102)] V17):=HF19.out.store109 m_x HR.out.2.2.1.symm (by rw [hV,HR.out.2.1,HR.out.2.2.2.1,HR.out.2.2.2.2])
       refine hK.out _ _ (fun _=>HSS2.out _ _ _ _ _ HS18.out (by simp)) ?_
       clear hK K HS16 hV HF19
       refine wpAnyY_one (i:=9) rfl (by kernel_rfl) (fun K hK=>?_)
       have HF22:Hid (LS w O O2_x b s s2_x oc_x [(g8,flL (0,0),32),(g9,mnL m_x,109),(gd,[I J 0],3),(g7,mnL m,109),(w.heap.size + 1 + 1,flL (0,0),32),(w.heap.size + 1,exL h2 la ln lc,102),(w.heap.size,exL h ka kn kc,102)] V17):=HS18.out.front (L1:=[(g9,mnL m_x,109),(gd,[I J 0],3),(g7,mnL m,109)]) (L2:=[(w.heap.size + 1 + 1,flL (0,0),32),(w.heap.size + 1,exL h2 la ln lc,102),(w.heap.size,exL h ka kn kc,102)]) rfl
       refine store32_step rfl rfl rfl rfl rfl (HF22.out.blk (List.mem_cons_self ..)) ?_
       intro V20 hV
       have HS21:=hid (HF22.out.store32 (f1_x,f2_x) hV)
       refine hK.out _ _ (fun _=>HSS2.out _ _ _ _ _ HS21.out (by simp)) ?_
       clear hK K HS18 hV HF22
       refine wpAnyY_done (by kernel_rfl) ?_ _
       go_wp2_with fail
       go_meet
       exact ⟨g9,mt_x,mx_x,mp_x,mn_x,f1_x,f2_x,rfl,m_x,oc_x,O2_x,s2_x,HR.out,HS21.out.sub (by simp) (by have:=HS21.out.nd; simp at this ⊢; omega)⟩
     ·refine alloc109_step rfl rfl rfl ?_
      intro V23 g9 hV hG
      have HS24:=hid (HS0.out.allocE (mnL mn0) 109 hV hG)
      refine hK.out _ _ (fun _=>HSS2.out _ _ _ _ _ HS24.out (by simp)) ?_
      clear hK K HS0 hV hG
      simp only [Act.put,lA,lB,lC]
      refine wpAnyY_one (i:=2) rfl (by kernel_rfl) (fun K hK=>?_)
      refine call95c_step rfl rfl rfl ?_
      intro V25 gd hV hG
      have HS26:=hid (HS24.out.allocE _ 3 hV hG)
      refine hK.out _ _ (fun _=>HSS2.out _ _ _ _ _ HS26.out (by simp)) ?_
      clear hK K HS24 hV hG
      simp only [Act.put,lA,lB,lC]
      refine wpAnyY_one (i:=3) rfl (by kernel_rfl) (fun K hK=>?_)
      refine call89_step rfl rfl rfl rfl rfl rfl ?_
      refine (HA3'.out _ _ _ _ gd HS26.out (by simp)).mono ?_
      rintro e V27 ⟨mt_x,mx_x,mp_x,mn_x,f1_x,f2_x,rfl,hV⟩
      refine ⟨_,rfl,?_⟩
      obtain ⟨m_x,oc_x,O2_x,s2_x,hm,hRQ,hLS⟩:=hV.out
      have HS28:=hid hLS
      have HR:Hid (RQ r2 m_x (f1_x,f2_x) oc_x /\ m_x.isText = mt_x /\ bs m_x.text = mx_x /\ m_x.place = mp_x /\ m_x.num = mn_x):=⟨hRQ,hm⟩
      refine hK.out _ _ (fun _=>HSS2.out _ _ _ _ _ HS28.out (by simp)) ?_
      clear hK K HS26 hV hm hRQ hLS
      simp only [Act.put,lA,lB,lC]
      refine tkL (i:=4) 23 (v:=.tuple #[.agg #[.bool mt_x,Ψ mx_x,I J mp_x,I J mn_x],.agg #[I J f1_x,I J f2_x]]) rfl rfl (HSS2.out _ _ _ _ _ HS28.out (by simp)) (fun W hW=>by obtain ⟨_,_,_,_,_⟩:=hW; go_simp) ?_
      simp only [Act.put,lA,lB,lC]
      refine tkL (i:=5) 28 (v:=.agg #[.bool mt_x,Ψ mx_x,I J mp_x,I J mn_x]) rfl rfl (HSS2.out _ _ _ _ _ HS28.out (by simp)) (fun W hW=>by obtain ⟨_,_,_,_,_⟩:=hW; go_simp) ?_
      simp only [Act.put,lA,lB,lC]
      refine tkL (i:=6) 29 (v:=.agg #[I J f1_x,I J f2_x]) rfl rfl (HSS2.out _ _ _ _ _ HS28.out (by simp)) (fun W hW=>by obtain ⟨_,_,_,_,_⟩:=hW; go_simp) ?_
      simp only [Act.put,lA,lB,lC]
      refine wpAnyY_one (i:=8) rfl (by kernel_rfl) (fun K hK=>?_)
      have HF31:Hid (LS w O O2_x b s s2_x oc_x [(g9,mnL mn0,109),(gd,[I J 0],3),(g7,mnL m,109),(g8,flL (0,0),32),(w.heap.size + 1 + 1,flL (0,0),32),(w.heap.size + 1,exL h2 la ln lc,102),(w.heap.size,exL h ka kn kc,102)] V27):=HS28.out.front (L1:=[(gd,[I J 0],3)]) (L2:=[(g7,mnL m,109),(g8,flL (0,0),32),(w.heap.size + 1 + 1,flL (0,0),32),(w.heap.size + 1,exL h2 la ln lc,102),(w.heap.size,exL h ka kn kc,102)]) rfl
      refine store109_step rfl rfl rfl rfl rfl (HF31.out.blk (List.mem_cons_self ..)) ?_
      intro V29 hV
      have HS30:Hid (LS w O O2_x b s s2_x oc_x [(g9,mnL m_x,109),(gd,[I J 0],3),(g7,mnL m,109),(g8,flL (0,0),32),(w.heap.size + 1 + 1,flL (0,0),32),(w.heap.size + 1,exL h2 la ln lc,102),(w.heap.size,exL h ka kn kc,102)] V29):=HF31.out.store109 m_x HR.out.2.2.1.symm (by rw [hV,HR.out.2.1,HR.out.2.2.2.1,HR.out.2.2.2.2])
      refine hK.out _ _ (fun _=>HSS2.out _ _ _ _ _ HS30.out (by simp)) ?_
      clear hK K HS28 hV HF31
      refine wpAnyY_one (i:=9) rfl (by kernel_rfl) (fun K hK=>?_)
      have HF34:Hid (LS w O O2_x b s s2_x oc_x [(g8,flL (0,0),32),(g9,mnL m_x,109),(gd,[I J 0],3),(g7,mnL m,109),(w.heap.size + 1 + 1,flL (0,0),32),(w.heap.size + 1,exL h2 la ln lc,102),(w.heap.size,exL h ka kn kc,102)] V29):=HS30.out.front (L1:=[(g9,mnL m_x,109),(gd,[I J 0],3),(g7,mnL m,109)]) (L2:=[(w.heap.size + 1 + 1,flL (0,0),32),(w.heap.size + 1,exL h2 la ln lc,102),(w.heap.size,exL h ka kn kc,102)]) rfl
      refine store32_step rfl rfl rfl rfl rfl (HF34.out.blk (List.mem_cons_self ..)) ?_
      intro V32 hV
      have HS33:=hid (HF34.out.store32 (f1_x,f2_x) hV)
      refine hK.out _ _ (fun _=>HSS2.out _ _ _ _ _ HS33.out (by simp)) ?_
      clear hK K HS30 hV HF34
      refine wpAnyY_done (by kernel_rfl) ?_ _
      go_wp2_with fail
      go_meet
      exact ⟨g9,mt_x,mx_x,mp_x,mn_x,f1_x,f2_x,rfl,m_x,oc_x,O2_x,s2_x,HR.out,HS33.out.sub (by simp) (by have:=HS33.out.nd; simp at this ⊢; omega)⟩
    case rest=>
     obtain ⟨g9,mt_x,mx_x,mp_x,mn_x,f1_x,f2_x,rfl,m_x,oc_x,O2_x,s2_x,⟨hRQ,e1,e2,e3,e4⟩,hL⟩:=hcut
     clear HA3' HA3 HSS2 HS0
     obtain ⟨p1,hp1⟩:∃ p,p = m.place:=⟨_,rfl⟩
     obtain ⟨p2,hp2⟩:∃ p,p = m_x.place:=⟨_,rfl⟩
     have HS5:Hid (LS w O O2_x b s s2_x oc_x [(g9,mnL m_x,109),(g7,mnL m,109),(g8,flL (f1_x,f2_x),32),(w.heap.size + 1 + 1,flL (0,0),32)] wc.drew):=hL.drew
     have HSS5:Hid (∀ O' s' oc L W,LS w O O' b s s' oc L W -> (g7,mnL m,109) ∈ L -> (g9,mnL m_x,109) ∈ L -> (g8,flL (f1_x,f2_x),32) ∈ L -> W.cell? ⟨g7,2,none⟩ = some (I J p1) /\ W.cell? ⟨g9,2,none⟩ = some (I J p2) /\ W.cell? ⟨g8,0,none⟩ = some (I J f1_x) /\ W.cell? ⟨g8,1,none⟩ = some (I J f2_x)):=fun O' s' oc L W h1 h2 h3 h4=>by
      rw [hp1,hp2]
      exact ⟨h1.at h2 rfl,h1.at h3 rfl,h1.at h4 rfl,h1.at h4 rfl⟩
     have HE:Hid (∀ W,LS w O O2_x b s s2_x oc_x [(w.heap.size + 1 + 1,flL (f1_x,f2_x),32),(g9,mnL m_x,109),(g7,mnL m,109),(g8,flL (f1_x,f2_x),32)] W -> CPost O b w (costsB c (h,k) (h2,k2)) (Ω (.tuple #[I J p1,I J p2,.agg #[I J f1_x,I J f2_x]])) W):=by
      intro W hW
      rw [HX2.out]
      cases r2 with
      | error f'=>
        obtain ⟨rfl,hf,-,rfl⟩:=hRQ
        exact ⟨hf,⟨_,_,rfl⟩,hW.fr⟩
      | ok x=>
        obtain ⟨c2,m'⟩:=x
        obtain ⟨hf,rfl,rfl⟩:=hRQ
        cases hf
        exact ⟨by rw [hp1,hp2],hW.fr,O2_x,s2_x,hW.new,(hW.ck c2 rfl).1⟩
     clear HX2 hRQ hL e1 e2 e3 e4 hp1 hp2
     go_wp2_with fail
     refine wp_region_Y (fun j=>[].contains j) (fun W=>W.cell? ⟨g7,2,none⟩ = some (I J p1) /\ W.cell? ⟨g9,2,none⟩ = some (I J p2) /\ W.cell? ⟨g8,0,none⟩ = some (I J f1_x) /\ W.cell? ⟨g8,1,none⟩ = some (I J f2_x)) (by kernel_rfl) ?_
     refine tkL (i:=0) 30 (v:=Φ (some ⟨g7,2,none⟩)) rfl rfl (HSS5.out _ _ _ _ _ HS5.out (by simp) (by simp) (by simp)) (fun W hW=>by obtain ⟨_,_,_,_⟩:=hW; go_simp) ?_
     simp only [Act.put,lA,lB,lC]
     refine tkL (i:=1) 31 (v:=I J p1) rfl rfl (HSS5.out _ _ _ _ _ HS5.out (by simp) (by simp) (by simp)) (fun W hW=>by obtain ⟨_,_,_,_⟩:=hW; go_simp) ?_
     simp only [Act.put,lA,lB,lC]
     refine tkL (i:=2) 32 (v:=Φ (some ⟨g9,2,none⟩)) rfl rfl (HSS5.out _ _ _ _ _ HS5.out (by simp) (by simp) (by simp)) (fun W hW=>by obtain ⟨_,_,_,_⟩:=hW; go_simp) ?_
     simp only [Act.put,lA,lB,lC]
     refine tkL (i:=3) 33 (v:=I J p2) rfl rfl (HSS5.out _ _ _ _ _ HS5.out (by simp) (by simp) (by simp)) (fun W hW=>by obtain ⟨_,_,_,_⟩:=hW; go_simp) ?_
     simp only [Act.put,lA,lB,lC]
     refine tkL (i:=4) 34 (v:=.agg #[I J f1_x,I J f2_x]) rfl rfl (HSS5.out _ _ _ _ _ HS5.out (by simp) (by simp) (by simp)) (fun W hW=>by obtain ⟨_,_,_,_⟩:=hW; go_simp) ?_
     simp only [Act.put,lA,lB,lC]
     refine tkL (i:=5) 6 (v:=I J p1) rfl rfl (HSS5.out _ _ _ _ _ HS5.out (by simp) (by simp) (by simp)) (fun W hW=>by obtain ⟨_,_,_,_⟩:=hW; go_simp) ?_
     simp only [Act.put,lA,lB,lC]
     refine tkL (i:=6) 7 (v:=I J p2) rfl rfl (HSS5.out _ _ _ _ _ HS5.out (by simp) (by simp) (by simp)) (fun W hW=>by obtain ⟨_,_,_,_⟩:=hW; go_simp) ?_
     simp only [Act.put,lA,lB,lC]
     refine wpAnyY_one (i:=7) rfl (by kernel_rfl) (fun K hK=>?_)
     have HF3:Hid (LS w O O2_x b s s2_x oc_x [(w.heap.size + 1 + 1,flL (0,0),32),(g9,mnL m_x,109),(g7,mnL m,109),(g8,flL (f1_x,f2_x),32)] wc.drew):=HS5.out.front (L1:=[(g9,mnL m_x,109),(g7,mnL m,109),(g8,flL (f1_x,f2_x),32)]) (L2:=[]) rfl
     refine store32_step rfl rfl rfl rfl rfl (HF3.out.blk (List.mem_cons_self ..)) ?_
     intro V1 hV
     have HS2:=hid (HF3.out.store32 (f1_x,f2_x) hV)
     refine hK.out _ _ (fun _=>HSS5.out _ _ _ _ _ HS2.out (by simp) (by simp) (by simp)) ?_
     clear hK K HS5 hV HF3
     refine wpAnyY_done (by kernel_rfl) ?_ _
     have HZ':Hid (LS w O O2_x b s s2_x oc_x [(w.heap.size + 1 + 1,flL (f1_x,f2_x),32),(g9,mnL m_x,109),(g7,mnL m,109),(g8,flL (f1_x,f2_x),32)] V1):=HS2.out
     have z0:V1.cell? ⟨w.heap.size + 1 + 1,0,none⟩ = some (I J f1_x):=HZ'.out.at (g:=w.heap.size + 1 + 1) (cs:=flL (f1_x,f2_x)) (ty:=32) (by simp) rfl
     have z1:V1.cell? ⟨w.heap.size + 1 + 1,1,none⟩ = some (I J f2_x):=HZ'.out.at (g:=w.heap.size + 1 + 1) (cs:=flL (f1_x,f2_x)) (ty:=32) (by simp) rfl
     go_wp2
     refine bodyPost_ret (v:=.tuple #[I J p1,I J p2,.agg #[I J f1_x,I J f2_x]]) ?_ rfl ?_
     ·simp only [results,hres]
      go_simp
     ·exact HE.out _ HZ'.out
set_option maxRecDepth 20000
set_option maxHeartbeats 4000000
theorem wrongC_calls {O:Nat -> Prop} {b:Nat} {s:Sl} {c:Ck} (code:Int) (w:World) (h:CkAt O b s c w) :
 Calls Tryz.prog 49 #[Φ (some ⟨b,0,none⟩),I J code] w fun e w'=>e = Ω (.agg #[I J code,I J c.pl]) /\ Below w.heap.size w w':=by
 have hres:Tryz.f49.results = #[.cell 4 32]:=by kernel_rfl
 have x:w.cell? ⟨b,24,none⟩ = some (I J c.pl):=h.c24
 have hlt:=h.lt
 have hne:¬ b = w.heap.size:=by omega
 have HB:Hid (∀ o,Below w.heap.size w (w.alloc o)):=fun o=>(Below.refl _ _).alloc (Nat.le_refl _) o
 generalize c.pl = pl at *
 clear h
 go_enter Tryz.func49,Tryz.ntmps49
 go_wp2
 refine bodyPost_ret (v:=.agg #[I J code,I J pl]) ?_ rfl ⟨rfl,HB.out _⟩
 simp only [results,hres]
 go_simp
theorem modeOf_calls (t:List UInt8) (w:World):Calls Tryz.prog 54 #[Ψ (bs t)] w fun e w'=>e = Ω (I J (modeB t)) /\ w' = w:=by
 have e0:(bs t).toList = t:=bs_toList t
 have f1:((bs t).toList == [103,108,111,98,97,108]) = decide (t = [103,108,111,98,97,108]):=by rw [e0,Bool.eq_iff_iff]; simp
 have f2:((bs t).toList == [102,105,116]) = decide (t = [102,105,116]):=by rw [e0,Bool.eq_iff_iff]; simp
 have f3:((bs t).toList == [108,111,99,97,108]) = decide (t = [108,111,99,97,108]):=by rw [e0,Bool.eq_iff_iff]; simp
 unfold modeB
 generalize bs t = x at *
 clear e0
 by_cases h1:t = [103,108,111,98,97,108]
 ·rw [if_pos h1]
  rw [decide_eq_true h1] at f1
  clear h1 f2 f3
  go_enter Tryz.func54,Tryz.ntmps54
  go_wp2
  go_ret
  exact ⟨rfl,rfl⟩
 rw [if_neg h1]
 rw [decide_eq_false h1] at f1
 clear h1
 by_cases h1:t = [102,105,116]
 ·rw [if_pos h1]
  rw [decide_eq_true h1] at f2
  clear h1 f3
  go_enter Tryz.func54,Tryz.ntmps54
  go_wp2
  go_ret
  exact ⟨rfl,rfl⟩
 rw [if_neg h1]
 rw [decide_eq_false h1] at f2
 clear h1
 by_cases h1:t = [108,111,99,97,108]
 ·rw [if_pos h1]
  rw [decide_eq_true h1] at f3
  clear h1
  go_enter Tryz.func54,Tryz.ntmps54
  go_wp2
  go_ret
  exact ⟨rfl,rfl⟩
 rw [if_neg h1]
 rw [decide_eq_false h1] at f3
 clear h1
 go_enter Tryz.func54,Tryz.ntmps54
 go_wp2
 go_ret
 exact ⟨rfl,rfl⟩
theorem costs_err {O:Nat -> Prop} {b:Nat} {w:World} {K:Nat} {args:Array Value} {r:Er (Ck × Int × Int)} {f:Int × Int} (h:Calls Tryz.prog K args w (CPost O b w r)) (hr:r = .error f) :
 Calls Tryz.prog K args w fun e w'=>∃ p q,e = Ω (.tuple #[I J p,I J q,.agg #[I J f.1,I J f.2]]) /\ f.1 ≠ 0 /\ Fr O w w':=by
 subst hr
 refine h.mono ?_
 rintro e w' ⟨h1,⟨p,q,h2⟩,h3⟩
 exact ⟨p,q,h2,h1,h3⟩
theorem costs_ok {O:Nat -> Prop} {b:Nat} {w:World} {K:Nat} {args:Array Value} {r:Er (Ck × Int × Int)} {c':Ck} {p q:Int} (h:Calls Tryz.prog K args w (CPost O b w r)) (hr:r = .ok (c',p,q)) :
 Calls Tryz.prog K args w fun e w'=>e = Ω (.tuple #[I J p,I J q,.agg #[I J 0,I J 0]]) /\ Fr O w w' /\ ∃ O' s',(∀ g,O' g -> O g \/ w.heap.size <= g) /\ CkAt O' b s' c' w':=by
 subst hr; exact h
theorem clip_calls {B:Nat} {O:Nat -> Prop} {b:Nat} {s:Sl} {c:Ck} (h:Hd) (k:Fo) (ka:Option Addr) (kn kc:Nat) (h2:Hd) (k2:Fo) (la:Option Addr) (ln lc:Nat) (w:World) (hck:CkAt O b s c w) (hok:CkOk c) (hlow:∀ g,O g -> B <= g) (hB:B <= w.heap.size)
 (hE:ExAt false (fun g=>g < B) w (h,k) ka kn) (hr:okE h k) (hE2:ExAt false (fun g=>g < B) w (h2,k2) la ln) (hr2:okE h2 k2) :
 Calls Tryz.prog 56 #[Φ (some ⟨b,0,none⟩),exV h ka kn kc,exV h2 la ln lc] w (TPost O b w (clipB c (h,k) (h2,k2))):=by
 have hres:Tryz.f56.results = #[.cell 6 32]:=by kernel_rfl
 have hS1:=LS.start3 hck hok h ka kn kc h2 la ln lc
 have hC:∀ O' s' L W,LS w O O' b s s' (some c) L W -> Calls Tryz.prog 94 #[Φ (some ⟨b,0,none⟩),exV h ka kn kc,exV h2 la ln lc] W (CPost O' b W (costsB c (h,k) (h2,k2))):=fun O' s' L W hL=>by
  have hlow':∀ g,O' g -> B <= g:=fun q hq=>by rcases hL.new q hq with h1 | h1; exact hlow q h1; omega
  have hkp:∀ q,q < w.heap.size -> q < B -> W.heap[q]? = w.heap[q]?:=fun q hq hqB=>hL.fr.block q hq (fun ho=>by have:=hlow q ho; omega)
  exact costs_calls h k ka kn kc h2 k2 la ln lc W (hL.ck c rfl).1 hok hlow' (Nat.le_trans hB hL.fr.size) ⟨hE.hd,hE.few,foAt_keep hkp hE.kids⟩ hr ⟨hE2.hd,hE2.few,foAt_keep hkp hE2.kids⟩ hr2
 generalize hO1:(fun g=>O g /\ g < w.heap.size) = O1 at hS1
 clear hO1 hck hok hlow hB hE hr hE2 hr2
 have HS1:=hid hS1
 clear hS1
 unfold exV at hC ⊢
 go_enter Tryz.func56,Tryz.ntmps56
 go_upto_region 1 with (fail)
 generalize (((w.alloc (.cells #[I J h.kind,I J h.num,Ψ (bs h.text),Γ ka kn kc,I J h.pl] 102)).alloc (.cells #[I J h2.kind,I J h2.num,Ψ (bs h2.text),Γ la ln lc,I J h2.pl] 102)).alloc (.cells #[I J 0,I J 0] 32)) = w1 at *
 have x0:w1.cell? ⟨w.heap.size,0,none⟩ = some (I J h.kind):=HS1.out.at (g:=w.heap.size) (cs:=exL h ka kn kc) (ty:=102) (by simp) rfl
 have x1:w1.cell? ⟨w.heap.size,1,none⟩ = some (I J h.num):=HS1.out.at (g:=w.heap.size) (cs:=exL h ka kn kc) (ty:=102) (by simp) rfl
 have x2:w1.cell? ⟨w.heap.size,2,none⟩ = some (Ψ (bs h.text)):=HS1.out.at (g:=w.heap.size) (cs:=exL h ka kn kc) (ty:=102) (by simp) rfl
 have x3:w1.cell? ⟨w.heap.size,3,none⟩ = some (Γ ka kn kc):=HS1.out.at (g:=w.heap.size) (cs:=exL h ka kn kc) (ty:=102) (by simp) rfl
 have x4:w1.cell? ⟨w.heap.size,4,none⟩ = some (I J h.pl):=HS1.out.at (g:=w.heap.size) (cs:=exL h ka kn kc) (ty:=102) (by simp) rfl
 have y0:w1.cell? ⟨w.heap.size + 1,0,none⟩ = some (I J h2.kind):=HS1.out.at (g:=w.heap.size + 1) (cs:=exL h2 la ln lc) (ty:=102) (by simp) rfl
 have y1:w1.cell? ⟨w.heap.size + 1,1,none⟩ = some (I J h2.num):=HS1.out.at (g:=w.heap.size + 1) (cs:=exL h2 la ln lc) (ty:=102) (by simp) rfl
 have y2:w1.cell? ⟨w.heap.size + 1,2,none⟩ = some (Ψ (bs h2.text)):=HS1.out.at (g:=w.heap.size + 1) (cs:=exL h2 la ln lc) (ty:=102) (by simp) rfl
 have y3:w1.cell? ⟨w.heap.size + 1,3,none⟩ = some (Γ la ln lc):=HS1.out.at (g:=w.heap.size + 1) (cs:=exL h2 la ln lc) (ty:=102) (by simp) rfl
 have y4:w1.cell? ⟨w.heap.size + 1,4,none⟩ = some (I J h2.pl):=HS1.out.at (g:=w.heap.size + 1) (cs:=exL h2 la ln lc) (ty:=102) (by simp) rfl
 have HC0:=hC O1 s _ w1 HS1.out
 clear hC
 cases hl:costsB c (h,k) (h2,k2) with
 | error f=>
   have HL:Hid (Calls Tryz.prog 94 #[Φ (some ⟨b,0,none⟩),.agg #[I J h.kind,I J h.num,Ψ (bs h.text),Γ ka kn kc,I J h.pl],.agg #[I J h2.kind,I J h2.num,Ψ (bs h2.text),Γ la ln lc,I J h2.pl]] w1 fun e w'=>∃ p q,e = Ω (.tuple #[I J p,I J q,.agg #[I J f.1,I J f.2]]) /\ f.1 ≠ 0 /\ Fr O1 w1 w'):=costs_err HC0 hl
   have HX:Hid (clipB c (h,k) (h2,k2) = .error f):=by show _ = _; simp only [clipB,hl]
   clear hl HC0
   obtain ⟨f1,f2⟩:=f
   simp only at HL
   go_wp2_with fail
   refine HL.out.mono ?_
   rintro e w3 ⟨p,q,rfl,hf,hfr⟩
   have HF:Hid (f1 ≠ 0):=hf
   have hq:(f1 == 0) = false:=by rw [beq_eq_false_iff_ne]; exact hf
   have HB:Hid (LS w O _ b s s none _ w3):=HS1.out.go (O':=O1) (oc':=none) hfr (fun _ h=>.inl h) (fun c hc=>by cases hc)
   clear hf HL x0 x1 x2 x3 x4 y0 y1 y2 y3 y4 HS1 hfr
   have z0:w3.cell? ⟨w.heap.size + 1 + 1,0,none⟩ = some (I J 0):=HB.out.at (g:=w.heap.size + 1 + 1) (cs:=flL (0,0)) (ty:=32) (by simp) rfl
   have z1:w3.cell? ⟨w.heap.size + 1 + 1,1,none⟩ = some (I J 0):=HB.out.at (g:=w.heap.size + 1 + 1) (cs:=flL (0,0)) (ty:=32) (by simp) rfl
   have zf:∀ i,w3.frozen? ⟨w.heap.size + 1 + 1,i,none⟩ = false:=fun i=>HB.out.fz (g:=w.heap.size + 1 + 1) (cs:=flL (0,0)) (ty:=32) (by simp) i
   have hl2:w.heap.size + 1 + 1 < w3.heap.size:=HB.out.lt (g:=w.heap.size + 1 + 1) (cs:=flL (0,0)) (ty:=32) (by simp)
   have hn2:¬ w.heap.size + 1 + 1 = w3.heap.size:=by omega
   go_wp2
   refine bodyPost_ret (v:=flV (f1,f2)) ?_ rfl ?_
   ·simp only [results,hres]
    unfold flV
    simp only
    go_simp
   ·show TPost _ _ _ _ _ _
    rw [HX.out]
    exact ⟨HF.out,rfl,((HB.out.fr.setCell (.inr (by omega)) _ _).setCell (.inr (by omega)) _ _).alloc _⟩
 | ok x=>
   obtain ⟨c',p,q⟩:=x
   have HL:Hid (Calls Tryz.prog 94 #[Φ (some ⟨b,0,none⟩),.agg #[I J h.kind,I J h.num,Ψ (bs h.text),Γ ka kn kc,I J h.pl],.agg #[I J h2.kind,I J h2.num,Ψ (bs h2.text),Γ la ln lc,I J h2.pl]] w1 fun e w'=>e = Ω (.tuple #[I J p,I J q,.agg #[I J 0,I J 0]]) /\ Fr O1 w1 w' /\ ∃ O' s',(∀ g,O' g -> O1 g \/ w1.heap.size <= g) /\ CkAt O' b s' c' w'):=costs_ok HC0 hl
   have HX:Hid (clipB c (h,k) (h2,k2) = .ok { c' with front:=p,back:=q }):=by show _ = _; simp only [clipB,hl]
   clear hl HC0
   go_wp2_with fail
   refine HL.out.mono ?_
   rintro e w3 ⟨rfl,hfr,O',s',hO',hck'⟩
   have hsz:=HS1.out.fr.size
   have HN:Hid ((∀ g,O' g -> O g \/ w.heap.size <= g) /\ Fr O w w3 /\ CkAt O' b s' c' w3 /\ Lc O' w3 (w.heap.size + 1 + 1) (flL (0,0)) 32):=by
    refine ⟨fun g hg=>?_,HS1.out.fr.trans hfr HS1.out.new,hck',(HS1.out.loc (w.heap.size + 1 + 1,flL (0,0),32) (by simp)).1.fr hfr hO'⟩
    rcases hO' g hg with h1 | h1
    ·exact HS1.out.new g h1
    ·exact .inr (by omega)
   clear HL x0 x1 x2 x3 x4 y0 y1 y2 y3 y4 HS1 hfr hO' hck' hsz
   have z0:w3.cell? ⟨w.heap.size + 1 + 1,0,none⟩ = some (I J 0):=HN.out.2.2.2.cell rfl
   have z1:w3.cell? ⟨w.heap.size + 1 + 1,1,none⟩ = some (I J 0):=HN.out.2.2.2.cell rfl
   have zf:∀ i,w3.frozen? ⟨w.heap.size + 1 + 1,i,none⟩ = false:=fun i=>HN.out.2.2.2.fz i
   have b8:w3.cell? ⟨b,8,none⟩ = some (I J c'.front):=HN.out.2.2.1.c8
   have b9:w3.cell? ⟨b,9,none⟩ = some (I J c'.back):=HN.out.2.2.1.c9
   have bf:∀ i,w3.frozen? ⟨b,i,none⟩ = false:=fun i=>HN.out.2.2.1.fz i
   have hl2:w.heap.size + 1 + 1 < w3.heap.size:=HN.out.2.2.2.lt
   have hlb:b < w3.heap.size:=HN.out.2.2.1.lt
   have hn2:¬ w.heap.size + 1 + 1 = w3.heap.size:=by omega
   have hnb:¬ b = w3.heap.size:=by omega
   have hbr:¬ w.heap.size + 1 + 1 = b:=fun e=>HN.out.2.2.2.off (by rw [e]; exact HN.out.2.2.1.inB)
   have hbr2:¬ b = w.heap.size + 1 + 1:=fun e=>hbr e.symm
   generalize c'.front = fr0 at *
   generalize c'.back = bk0 at *
   go_wp2
   refine bodyPost_ret (v:=flV (0,0)) ?_ rfl ?_
   ·simp only [results,hres]
    unfold flV
    simp only
    go_simp
   ·show TPost _ _ _ _ _ _
    rw [HX.out]
    have hob:=HN.out.1 b HN.out.2.2.1.inB
    refine ⟨rfl,((((HN.out.2.1.setCell hob _ _).setCell hob _ _).setCell (.inr (by omega)) _ _).setCell (.inr (by omega)) _ _).alloc _,O',s',HN.out.1,?_⟩
    have h1:CkAt O' b s' { c' with front:=p } (w3.setCell ⟨b,8,none⟩ (I J p)):=HN.out.2.2.1.put rfl rfl rfl rfl rfl rfl
    have h2:CkAt O' b s' { c' with front:=p,back:=q } ((w3.setCell ⟨b,8,none⟩ (I J p)).setCell ⟨b,9,none⟩ (I J q)):=h1.put rfl rfl rfl rfl rfl rfl
    exact (ck_set (ck_set h2 HN.out.2.2.2.off _ _) HN.out.2.2.2.off _ _).alloc _
end Go.Proofs.YtlaodgdlkkmmeaaGreat
