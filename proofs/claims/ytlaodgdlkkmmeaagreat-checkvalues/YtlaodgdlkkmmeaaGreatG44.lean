/-
  A tree as a scheme: newChecker and Check. A tree as a scheme: Check, all of it. Whether a definition may stand at a place: isDef.
-/
import Derived.BigRegion
import Derived.Test.YtlaodgdlkkmmeaaGreatG43
import Derived.Test.YtlaodgdlkkmmeaaGreatG08
namespace Go.Proofs.YtlaodgdlkkmmeaaGreat
open Go.RowKit Go.Deep Go.Maps
open Go.Value renaming int->I,string->Ψ,slice->Γ
open Go.IntKind renaming i64->J
open Go.Obj renaming cells->Δ
open Go.Ending renaming returned->Ω
set_option maxRecDepth 20000
set_option maxHeartbeats 1000000
def sl0 (mb:Nat):Sl:=⟨Γ none 0 0,Γ none 0 0,Γ none 0 0,Γ none 0 0,mb⟩
theorem none_owns {w:World} (e:TypeId) (size:Nat):w.ownsRow 0 e size (Γ none 0 0) 0 []:=⟨by simp,.inl ⟨rfl,rfl⟩⟩
theorem ck0_at (w:World):CkAt (fun g=>w.heap.size <= g) (w.heap.size + 1) (sl0 w.heap.size) ck0 ((w.alloc (.map #[] 0)).alloc (Δ (ckCells ck0 (sl0 w.heap.size)) 73)):=by
 have hsz:(w.alloc (.map #[] 0)).heap.size = w.heap.size + 1:=by simp
 have hb:=heap_alloc_new (w.alloc (.map #[] 0)) (Δ (ckCells ck0 (sl0 w.heap.size)) 73)
 rw [hsz] at hb
 have hn:NmAt ((w.alloc (.map #[] 0)).alloc (Δ (ckCells ck0 (sl0 w.heap.size)) 73)) w.heap.size []:=(nm_made w).keep (by
  have:=(Below.refl (w.alloc (.map #[] 0)).heap.size (w.alloc (.map #[] 0))).alloc (Nat.le_refl _) (Δ (ckCells ck0 (sl0 w.heap.size)) 73)
  exact this.block _ (by rw [hsz]; omega))
 exact ⟨hb,none_owns _ _,none_owns _ _,none_owns _ _,none_owns _ _,hn,fun g hg=>by simp [sl0,Value.ownBlock] at hg,by show w.heap.size <= w.heap.size + 1; omega,fun g hg=>by simp [sl0,Value.ownBlock] at hg,fun g hg=>by simp [sl0,Value.ownBlock] at hg,fun g hg=>by simp [sl0,Value.ownBlock] at hg,fun g hg=>by simp [sl0,Value.ownBlock] at hg,Nat.le_refl _⟩
theorem newChecker_calls (w:World):Calls Tryz.prog 27 #[] w fun e w'=>∃ b,e = Ω (.pointer (some ⟨b,0,none⟩)) /\ Hid (∃ s,CkAt (fun g=>w.heap.size <= g) b s ck0 w' /\ Below w.heap.size w w'):=by
 have H:=ck0_at w
 have HH:=hid H
 clear H
 have hmk:∀ W:World,(Instr.makeMap 70 none).run Tryz.prog W = .ok (.map (some W.heap.size)) (W.alloc (.map #[] 0)):=fun _=>rfl
 go_enter Tryz.func27,Tryz.ntmps27
 go_wp2
 go_ret
 exact ⟨w.heap.size + 1,rfl,sl0 w.heap.size,HH.out,((Below.refl _ _).alloc (Nat.le_refl _) _).alloc (by simp) _⟩
def schV (c:Ck) (s:Sl):Value:=.agg #[Ψ (bs c.letters),s.dv,s.sv,s.pv,I J c.mode,.bool c.banded,I J c.lo,I J c.hi,I J c.front,I J c.back,I J c.least]
/-- A scheme in memory. -/
structure SchAt (w:World) (c:Ck) (s:Sl):Prop where
 defs:w.ownsRow 0 43 4 s.dv c.defs.length (dfRow c.defs)
 subst:w.ownsRow 0 3 1 s.sv c.subst.length (itRow c.subst)
 pieces:w.ownsRow 0 80 2 s.pv c.pieces.length (pcRow c.pieces)
def ChkPost (r:Er Ck) (w:World) (e:Ending) (w':World):Prop:=
 match r with
 | .error f=>f.1 ≠ 0 /\ e = Ω (.tuple #[.agg #[Ψ ⟨#[]⟩,Γ none 0 0,Γ none 0 0,Γ none 0 0,I J 0,.bool false,I J 0,I J 0,I J 0,I J 0,I J 0],flV f]) /\ Below w.heap.size w w'
 | .ok c=>∃ s,e = Ω (.tuple #[schV c s,flV (0,0)]) /\ Below w.heap.size w w' /\ SchAt w' c s
/-- Where Check stands: the checker, the tree in its box, the two results. -/
structure CS (w:World) (bx:Value) (O:Nat -> Prop) (b:Nat) (s:Sl) (c:Ck) (wr:World):Prop where
 ck:CkAt O b s c wr
 off:∀ g,O g -> w.heap.size + 3 <= g
 low:Below w.heap.size w wr
 box:wr.heap[w.heap.size]? = some (Δ #[bx] 24 (0,0))
 r1:wr.heap[w.heap.size + 1]? = some (Δ #[Ψ ⟨#[]⟩,Γ none 0 0,Γ none 0 0,Γ none 0 0,I J 0,.bool false,I J 0,I J 0,I J 0,I J 0,I J 0] 29 (0,0))
 r2:wr.heap[w.heap.size + 1 + 1]? = some (Δ #[I J 0,I J 0] 32 (0,0))
section
variable {w wr w2:World} {bx:Value} {O:Nat -> Prop} {b:Nat} {s:Sl} {c:Ck}
theorem CS.next (h:CS w bx O b s c wr) (hb:Below wr.heap.size wr w2):CS w bx O b s c w2:=
 ⟨h.ck.below hb,h.off,h.low.trans (hb.mono h.low.size),by rw [hb.block _ (lt_block h.box)]; exact h.box,by rw [hb.block _ (lt_block h.r1)]; exact h.r1,by rw [hb.block _ (lt_block h.r2)]; exact h.r2⟩
theorem CS.alloc (h:CS w bx O b s c wr) (o:Obj):CS w bx O b s c (wr.alloc o):=h.next ((Below.refl _ _).alloc (Nat.le_refl _) o)
/-- What is left where the checker is no longer known. -/
structure CR (w:World) (wr:World):Prop where
 low:Below w.heap.size w wr
 r1:wr.heap[w.heap.size + 1]? = some (Δ #[Ψ ⟨#[]⟩,Γ none 0 0,Γ none 0 0,Γ none 0 0,I J 0,.bool false,I J 0,I J 0,I J 0,I J 0,I J 0] 29 (0,0))
 r2:wr.heap[w.heap.size + 1 + 1]? = some (Δ #[I J 0,I J 0] 32 (0,0))
theorem CR.next (h:CR w wr) (hb:Below wr.heap.size wr w2):CR w w2:=
 ⟨h.low.trans (hb.mono h.low.size),by rw [hb.block _ (lt_block h.r1)]; exact h.r1,by rw [hb.block _ (lt_block h.r2)]; exact h.r2⟩
theorem CS.fr (h:CS w bx O b s c wr) (hf:Fr O wr w2):CR w w2:=
 ⟨h.low.trans (hf.below (fun g hg=>by have:=h.off g hg; omega) h.low.size),hf.heap h.r1 (fun ho=>by have:=h.off _ ho; omega),hf.heap h.r2 (fun ho=>by have:=h.off _ ho; omega)⟩
theorem CS.go {O':Nat -> Prop} {s':Sl} {c':Ck} (h:CS w bx O b s c wr) (hf:Fr O wr w2) (hO:∀ g,O' g -> O g \/ wr.heap.size <= g) (hck:CkAt O' b s' c' w2):CS w bx O' b s' c' w2:=by
 have hr:=h.fr hf
 have hsz:=lt_block h.r2
 refine ⟨hck,fun g hg=>?_,hr.low,hf.heap h.box (fun ho=>by have:=h.off _ ho; omega),hr.r1,hr.r2⟩
 rcases hO g hg with h1 | h1
 ·exact h.off g h1
 ·omega
end
theorem below_res {w W:World} (h:Below w.heap.size w W) (v0 v1 v2 v3 v4 v5 v6 v7 v8 v9 v10 u0 u1:Value):Below w.heap.size w (((((((((((((W.setCell ⟨w.heap.size + 1,0,none⟩ v0).setCell ⟨w.heap.size + 1,1,none⟩ v1).setCell ⟨w.heap.size + 1,2,none⟩ v2).setCell ⟨w.heap.size + 1,3,none⟩ v3).setCell ⟨w.heap.size + 1,4,none⟩ v4).setCell ⟨w.heap.size + 1,5,none⟩ v5).setCell ⟨w.heap.size + 1,6,none⟩ v6).setCell ⟨w.heap.size + 1,7,none⟩ v7).setCell ⟨w.heap.size + 1,8,none⟩ v8).setCell ⟨w.heap.size + 1,9,none⟩ v9).setCell ⟨w.heap.size + 1,10,none⟩ v10).setCell ⟨w.heap.size + 1 + 1,0,none⟩ u0).setCell ⟨w.heap.size + 1 + 1,1,none⟩ u1):=by
 have a:∀ (W:World) (i:Nat) (v:Value),Below w.heap.size w W -> Below w.heap.size w (W.setCell ⟨w.heap.size + 1,i,none⟩ v):=fun W i v h=>h.setCell (p:=⟨w.heap.size + 1,i,none⟩) (show w.heap.size <= w.heap.size + 1 by omega) v
 have b:∀ (W:World) (i:Nat) (v:Value),Below w.heap.size w W -> Below w.heap.size w (W.setCell ⟨w.heap.size + 1 + 1,i,none⟩ v):=fun W i v h=>h.setCell (p:=⟨w.heap.size + 1 + 1,i,none⟩) (show w.heap.size <= w.heap.size + 1 + 1 by omega) v
 exact (b _ 1 u1 (b _ 0 u0 (a _ 10 v10 (a _ 9 v9 (a _ 8 v8 (a _ 7 v7 (a _ 6 v6 (a _ 5 v5 (a _ 4 v4 (a _ 3 v3 (a _ 2 v2 (a _ 1 v1 (a _ 0 v0 h)))))))))))))
theorem check_no (L:List It) (ao:Option Addr) (n cc:Nat) (w:World) (hF:ItsAt false (fun _=>True) w L ao n) (hn:n <= maxLen) (hr:treeRight L = false) :
 Calls Tryz.prog 9 #[.agg #[Γ ao n cc]] w fun e w'=>ChkPost (checkG (treeRight L) L) w e w':=by
 have hres:Tryz.f9.results = #[.cell 2 29,.cell 3 32]:=by kernel_rfl
 have HX:Hid (checkG (treeRight L) L = .error (80,0)):=by show checkG _ _ = _; unfold checkG; rw [if_pos hr]
 have hb0:Below w.heap.size w (((w.alloc (Δ #[Γ ao n cc] 24)).alloc (Δ #[Ψ ⟨#[]⟩,Γ none 0 0,Γ none 0 0,Γ none 0 0,I J 0,.bool false,I J 0,I J 0,I J 0,I J 0,I J 0] 29)).alloc (Δ #[I J 0,I J 0] 32)):=(((Below.refl _ _).alloc (Nat.le_refl _) _).alloc (by simp) _).alloc (by simp; omega) _
 have HC:Hid (∀ W,Below w.heap.size w W -> Calls Tryz.prog 26 #[.agg #[Γ ao n cc]] W fun e w'=>e = Ω (.bool false) /\ Below W.heap.size W w'):=fun W hW=>by
  have:=right_calls L ao n cc W (hF.below hW) hn
  rw [hr] at this
  exact this
 have HB0:=hid hb0
 clear hF hn hr hb0
 have HR0:Hid (CR w (((w.alloc (Δ #[Γ ao n cc] 24)).alloc (Δ #[Ψ ⟨#[]⟩,Γ none 0 0,Γ none 0 0,Γ none 0 0,I J 0,.bool false,I J 0,I J 0,I J 0,I J 0,I J 0] 29)).alloc (Δ #[I J 0,I J 0] 32))):=by
  refine ⟨HB0.out,?_,?_⟩
  ·have h1:=heap_alloc_new (w.alloc (Δ #[Γ ao n cc] 24)) (Δ #[Ψ ⟨#[]⟩,Γ none 0 0,Γ none 0 0,Γ none 0 0,I J 0,.bool false,I J 0,I J 0,I J 0,I J 0,I J 0] 29)
   have hb:=(Below.refl _ _).alloc (Nat.le_refl _) (a:=((w.alloc (Δ #[Γ ao n cc] 24)).alloc (Δ #[Ψ ⟨#[]⟩,Γ none 0 0,Γ none 0 0,Γ none 0 0,I J 0,.bool false,I J 0,I J 0,I J 0,I J 0,I J 0] 29))) (Δ #[I J 0,I J 0] 32)
   rw [hb.block _ (by simp)]
   rwa [show (w.alloc (Δ #[Γ ao n cc] 24)).heap.size = w.heap.size + 1 by simp] at h1
  ·have h1:=heap_alloc_new ((w.alloc (Δ #[Γ ao n cc] 24)).alloc (Δ #[Ψ ⟨#[]⟩,Γ none 0 0,Γ none 0 0,Γ none 0 0,I J 0,.bool false,I J 0,I J 0,I J 0,I J 0,I J 0] 29)) (Δ #[I J 0,I J 0] 32)
   rwa [show ((w.alloc (Δ #[Γ ao n cc] 24)).alloc (Δ #[Ψ ⟨#[]⟩,Γ none 0 0,Γ none 0 0,Γ none 0 0,I J 0,.bool false,I J 0,I J 0,I J 0,I J 0,I J 0] 29)).heap.size = w.heap.size + 1 + 1 by simp] at h1
 go_enter Tryz.func9,Tryz.ntmps9
 go_wp2_with fail
 refine (HC.out _ HB0.out).mono ?_
 rintro e w1 ⟨rfl,hb1⟩
 have HR1:Hid (CR w w1):=HR0.out.next hb1
 clear hb1 HR0 HC HB0
 have q0:w1.cell? ⟨w.heap.size + 1,0,none⟩ = some (Ψ ⟨#[]⟩):=blk HR1.out.r1 rfl
 have q1:w1.cell? ⟨w.heap.size + 1,1,none⟩ = some (Γ none 0 0):=blk HR1.out.r1 rfl
 have q2:w1.cell? ⟨w.heap.size + 1,2,none⟩ = some (Γ none 0 0):=blk HR1.out.r1 rfl
 have q3:w1.cell? ⟨w.heap.size + 1,3,none⟩ = some (Γ none 0 0):=blk HR1.out.r1 rfl
 have q4:w1.cell? ⟨w.heap.size + 1,4,none⟩ = some (I J 0):=blk HR1.out.r1 rfl
 have q5:w1.cell? ⟨w.heap.size + 1,5,none⟩ = some (.bool false):=blk HR1.out.r1 rfl
 have q6:w1.cell? ⟨w.heap.size + 1,6,none⟩ = some (I J 0):=blk HR1.out.r1 rfl
 have q7:w1.cell? ⟨w.heap.size + 1,7,none⟩ = some (I J 0):=blk HR1.out.r1 rfl
 have q8:w1.cell? ⟨w.heap.size + 1,8,none⟩ = some (I J 0):=blk HR1.out.r1 rfl
 have q9:w1.cell? ⟨w.heap.size + 1,9,none⟩ = some (I J 0):=blk HR1.out.r1 rfl
 have q10:w1.cell? ⟨w.heap.size + 1,10,none⟩ = some (I J 0):=blk HR1.out.r1 rfl
 have p0:w1.cell? ⟨w.heap.size + 1 + 1,0,none⟩ = some (I J 0):=blk HR1.out.r2 rfl
 have p1:w1.cell? ⟨w.heap.size + 1 + 1,1,none⟩ = some (I J 0):=blk HR1.out.r2 rfl
 have qf:∀ i,w1.frozen? ⟨w.heap.size + 1,i,none⟩ = false:=fun i=>blkf i HR1.out.r1
 have pf:∀ i,w1.frozen? ⟨w.heap.size + 1 + 1,i,none⟩ = false:=fun i=>blkf i HR1.out.r2
 go_wp2
 refine bodyPost_ret (v:=.tuple #[.agg #[Ψ ⟨#[]⟩,Γ none 0 0,Γ none 0 0,Γ none 0 0,I J 0,.bool false,I J 0,I J 0,I J 0,I J 0,I J 0],flV (80,0)]) ?_ rfl ?_
 ·simp only [results,hres]
  unfold flV
  simp only
  go_simp
 ·show ChkPost _ _ _ _
  rw [HX.out]
  refine ⟨by simp,rfl,?_⟩
  exact below_res HR1.out.low _ _ _ _ _ _ _ _ _ _ _ _ _
set_option maxRecDepth 20000
set_option maxHeartbeats 1000000
def endR:Er Ck -> Er Ck
 | .error f=>.error f
 | .ok c=>endsB c
theorem checkG_eq {L:List It} (h:treeRight L = true):checkG (treeRight L) L = endR (takeAll L ck0):=by
 unfold checkG
 rw [h,if_neg (by decide)]
 cases takeAll L ck0 <;> rfl
theorem takeAll_err {c:Ck} {i:It} {r:List It} {f:Int × Int} (h:takeC c i = .error f):takeAll (i :: r) c = .error f:=by simp only [takeAll,h]
theorem takeAll_ok {c c':Ck} {i:It} {r:List It} (h:takeC c i = .ok c'):takeAll (i :: r) c = takeAll r c':=by simp only [takeAll,h]
theorem ck_res13 {w W:World} {O:Nat -> Prop} {b:Nat} {s:Sl} {c:Ck} (h:CkAt O b s c W) (h1:¬ O (w.heap.size + 1)) (h2:¬ O (w.heap.size + 1 + 1)) (v0 v1 v2 v3 v4 v5 v6 v7 v8 v9 v10 u0 u1:Value):CkAt O b s c (((((((((((((W.setCell ⟨w.heap.size + 1,0,none⟩ v0).setCell ⟨w.heap.size + 1,1,none⟩ v1).setCell ⟨w.heap.size + 1,2,none⟩ v2).setCell ⟨w.heap.size + 1,3,none⟩ v3).setCell ⟨w.heap.size + 1,4,none⟩ v4).setCell ⟨w.heap.size + 1,5,none⟩ v5).setCell ⟨w.heap.size + 1,6,none⟩ v6).setCell ⟨w.heap.size + 1,7,none⟩ v7).setCell ⟨w.heap.size + 1,8,none⟩ v8).setCell ⟨w.heap.size + 1,9,none⟩ v9).setCell ⟨w.heap.size + 1,10,none⟩ v10).setCell ⟨w.heap.size + 1 + 1,0,none⟩ u0).setCell ⟨w.heap.size + 1 + 1,1,none⟩ u1):=(ck_set (ck_set (ck_set (ck_set (ck_set (ck_set (ck_set (ck_set (ck_set (ck_set (ck_set (ck_set (ck_set h h1 0 v0) h1 1 v1) h1 2 v2) h1 3 v3) h1 4 v4) h1 5 v5) h1 6 v6) h1 7 v7) h1 8 v8) h1 9 v9) h1 10 v10) h2 0 u0) h2 1 u1)
theorem schAt_of {O:Nat -> Prop} {b:Nat} {s:Sl} {c:Ck} {W:World} (h:CkAt O b s c W):SchAt W c s:=⟨h.defs,h.subst,h.pieces⟩
theorem cr0 (w:World) (ao:Option Addr) (n cc:Nat):CR w (((w.alloc (Δ #[Γ ao n cc] 24)).alloc (Δ #[Ψ ⟨#[]⟩,Γ none 0 0,Γ none 0 0,Γ none 0 0,I J 0,.bool false,I J 0,I J 0,I J 0,I J 0,I J 0] 29)).alloc (Δ #[I J 0,I J 0] 32)) /\ (((w.alloc (Δ #[Γ ao n cc] 24)).alloc (Δ #[Ψ ⟨#[]⟩,Γ none 0 0,Γ none 0 0,Γ none 0 0,I J 0,.bool false,I J 0,I J 0,I J 0,I J 0,I J 0] 29)).alloc (Δ #[I J 0,I J 0] 32)).heap[w.heap.size]? = some (Δ #[Γ ao n cc] 24 (0,0)):=by
 have hb:Below w.heap.size w (((w.alloc (Δ #[Γ ao n cc] 24)).alloc (Δ #[Ψ ⟨#[]⟩,Γ none 0 0,Γ none 0 0,Γ none 0 0,I J 0,.bool false,I J 0,I J 0,I J 0,I J 0,I J 0] 29)).alloc (Δ #[I J 0,I J 0] 32)):=(((Below.refl _ _).alloc (Nat.le_refl _) _).alloc (by simp) _).alloc (by simp; omega) _
 refine ⟨⟨hb,?_,?_⟩,?_⟩
 ·have h1:=heap_alloc_new (w.alloc (Δ #[Γ ao n cc] 24)) (Δ #[Ψ ⟨#[]⟩,Γ none 0 0,Γ none 0 0,Γ none 0 0,I J 0,.bool false,I J 0,I J 0,I J 0,I J 0,I J 0] 29)
  have hb:=(Below.refl _ _).alloc (Nat.le_refl _) (a:=((w.alloc (Δ #[Γ ao n cc] 24)).alloc (Δ #[Ψ ⟨#[]⟩,Γ none 0 0,Γ none 0 0,Γ none 0 0,I J 0,.bool false,I J 0,I J 0,I J 0,I J 0,I J 0] 29))) (Δ #[I J 0,I J 0] 32)
  rw [hb.block _ (by simp)]
  rwa [show (w.alloc (Δ #[Γ ao n cc] 24)).heap.size = w.heap.size + 1 by simp] at h1
 ·have h1:=heap_alloc_new ((w.alloc (Δ #[Γ ao n cc] 24)).alloc (Δ #[Ψ ⟨#[]⟩,Γ none 0 0,Γ none 0 0,Γ none 0 0,I J 0,.bool false,I J 0,I J 0,I J 0,I J 0,I J 0] 29)) (Δ #[I J 0,I J 0] 32)
  rwa [show ((w.alloc (Δ #[Γ ao n cc] 24)).alloc (Δ #[Ψ ⟨#[]⟩,Γ none 0 0,Γ none 0 0,Γ none 0 0,I J 0,.bool false,I J 0,I J 0,I J 0,I J 0,I J 0] 29)).heap.size = w.heap.size + 1 + 1 by simp] at h1
 ·have h1:=heap_alloc_new w (Δ #[Γ ao n cc] 24)
  have hb:=((Below.refl _ _).alloc (Nat.le_refl _) (a:=(w.alloc (Δ #[Γ ao n cc] 24))) (Δ #[Ψ ⟨#[]⟩,Γ none 0 0,Γ none 0 0,Γ none 0 0,I J 0,.bool false,I J 0,I J 0,I J 0,I J 0,I J 0] 29)).alloc (by simp) (Δ #[I J 0,I J 0] 32)
  rw [hb.block _ (by simp)]
  exact h1
theorem check_yes (L:List It) (ao:Option Addr) (n cc:Nat) (w:World) (hF:ItsAt false (fun _=>True) w L ao n) (hn:n <= maxLen) (hr:treeRight L = true) :
 Calls Tryz.prog 9 #[.agg #[Γ ao n cc]] w fun e w'=>ChkPost (checkG (treeRight L) L) w e w':=by
 have hres:Tryz.f9.results = #[.cell 2 29,.cell 3 32]:=by kernel_rfl
 rw [checkG_eq hr]
 have hall:L.all itRight = true /\ L.length <= 100:=by
  have:=hr
  unfold treeRight at this
  simp only [Bool.and_eq_true,decide_eq_true_eq] at this
  exact ⟨this.2,this.1⟩
 have hlen:=itsAt_len hF
 have hn100:n <= 100:=by omega
 obtain ⟨hR0,hBx⟩:=cr0 w ao n cc
 have HC:Hid (∀ W,Below w.heap.size w W -> Calls Tryz.prog 26 #[.agg #[Γ ao n cc]] W fun e w'=>e = .returned (.bool true) /\ Below W.heap.size W w'):=fun W hW=>by
  have:=right_calls L ao n cc W (hF.below hW) hn
  rw [hr] at this
  exact this
 have HR0:Hid (CR w (((w.alloc (Δ #[Γ ao n cc] 24)).alloc (Δ #[Ψ ⟨#[]⟩,Γ none 0 0,Γ none 0 0,Γ none 0 0,I J 0,.bool false,I J 0,I J 0,I J 0,I J 0,I J 0] 29)).alloc (Δ #[I J 0,I J 0] 32)) /\ (((w.alloc (Δ #[Γ ao n cc] 24)).alloc (Δ #[Ψ ⟨#[]⟩,Γ none 0 0,Γ none 0 0,Γ none 0 0,I J 0,.bool false,I J 0,I J 0,I J 0,I J 0,I J 0] 29)).alloc (Δ #[I J 0,I J 0] 32)).heap[w.heap.size]? = some (Δ #[Γ ao n cc] 24 (0,0))):=⟨hR0,hBx⟩
 have hF2:ItsAt false (fun g=>g < w.heap.size) w L ao n:=hF.base (fun g hg _=>hg)
 obtain ⟨g,off,hka,hF'⟩:=itsAt_addr hF2
 have HF:Hid (ItsAt false (fun g=>g < w.heap.size) w L (some ⟨g,off + 0 * 4,none⟩) (n - 0) /\ L.all itRight = true):=⟨hF',hall.1⟩
 generalize hRR:takeAll L ck0 = R
 have HRR:Hid (takeAll L ck0 = R):=hRR
 clear hRR hF hF2 hF' hall hr hlen hR0 hBx hn
 go_enter Tryz.func9,Tryz.ntmps9
 go_wp2_with fail
 refine (HC.out _ HR0.out.1.low).mono ?_
 rintro e w1 ⟨rfl,hb1⟩
 have HR1:Hid (CR w w1 /\ w1.heap[w.heap.size]? = some (Δ #[Γ ao n cc] 24 (0,0))):=⟨HR0.out.1.next hb1,by rw [hb1.block _ (lt_block HR0.out.2)]; exact HR0.out.2⟩
 clear hb1 HR0 HC
 go_wp2_with fail
 refine (newChecker_calls _).mono ?_
 rintro e w2 ⟨b,rfl,hs⟩
 obtain ⟨s0,hck,hb2⟩:=hs.out
 have HS2:Hid (CS w (Γ ao n cc) (fun g=>w1.heap.size <= g) b s0 ck0 w2):=by
  have h2:=HR1.out.1.next hb2
  have hl:=lt_block HR1.out.1.r2
  exact ⟨hck,fun g hg=>by have:w1.heap.size <= g:=hg; omega,h2.low,by rw [hb2.block _ (lt_block HR1.out.2)]; exact HR1.out.2,h2.r1,h2.r2⟩
 clear hs hck hb2 HR1
 have x0:w2.cell? ⟨w.heap.size,0,none⟩ = some (Γ ao n cc):=blk HS2.out.box rfl
 go_wp2_with fail
 go_loopg [18] n (fun k iv wr=>∃ (L':List It) (i:Nat) (O:Nat -> Prop) (s:Sl) (c:Ck),iv = I J (i:Int) /\ i + k = n /\ Hid (ItsAt false (fun g=>g < w.heap.size) wr L' (some ⟨g,off + i * 4,none⟩) (n - i) /\ L'.all itRight = true /\ takeAll L' c = R /\ CkB i c /\ CS w (Γ ao n cc) O b s c wr))
 case atStart=>exact ⟨L,0,_,s0,ck0,rfl,by omega,HF.out.1.below HS2.out.low,HF.out.2,HRR.out,ck0_ok,HS2.out⟩
 case round=>
  clear HS2 x0 HF HRR
  obtain ⟨L',i,O,s,c,rfl,hik,HT⟩:=hrel
  by_cases hi:i < n
  ·obtain ⟨h1,r1,ka1,kc1,kk1,rfl,-,hok1,hkc1,⟨c0,c1,c2,c3⟩,hk1,hr1⟩:=itsAt_head HT.out.1 hi
   have hka2:=hka (by omega)
   subst hka2
   have hbx:∀ o',Below wr.heap.size wr (wr.alloc o'):=fun o'=>(Below.refl _ _).alloc (Nat.le_refl _) o'
   obtain ⟨t1,t2,t3,t4,t5⟩:=HT.out
   have hri:itRight h1 = true /\ r1.all itRight = true:=by simpa using t2
   have HTk:Hid (Calls Tryz.prog 28 #[.pointer (some ⟨b,0,none⟩),.agg #[I J h1.kind,Ψ (bs h1.name),Γ ka1 kc1 kk1,I J h1.pl]] (wr.alloc (Δ #[I J h1.kind,Ψ (bs h1.name),Γ ka1 kc1 kk1,I J h1.pl] 67)) (TPost O b (wr.alloc (Δ #[I J h1.kind,Ψ (bs h1.name),Γ ka1 kc1 kk1,I J h1.pl] 67)) (takeC c h1))):=
    take_calls (B:=w.heap.size) h1 ka1 kc1 kk1 _ (t5.ck.alloc _) t4.ok (fun g hg=>by have:=t5.off g hg; omega) (Nat.le_trans t5.low.size (hbx _).size) (hk1.below (hbx _)) hok1.name hri.1 t4.al (by have:=t4.nm; omega)
   have HR:Hid (ItsAt false (fun g=>g < w.heap.size) wr r1 (some ⟨g,off + (i + 1) * 4,none⟩) (n - (i + 1)) /\ r1.all itRight = true /\ takeAll (h1 :: r1) c = R /\ CkB i c /\ CS w (Γ (some ⟨g,off,none⟩) n cc) O b s c wr /\ itRight h1 = true /\ shortF h1.args):=⟨hr1,hri.2,t3,t4,t5,hri.1,foAt_short hk1⟩
   clear HT hk1 hr1 hok1 hkc1 hbx t1 t2 t3 t4 t5 hri
   cases hh:takeC c h1 with
   | error f=>
     rw [hh] at HTk
     have HX:Hid (R = .error f):=by rw [<- HR.out.2.2.1]; exact takeAll_err hh
     clear hh
     go_wp2_with fail
     refine HTk.out.mono ?_
     intro e w3 hp
     obtain ⟨hf,he,hfr⟩:=hp
     subst he
     have HC3:Hid (CR w w3):=(HR.out.2.2.2.2.1.alloc _).fr hfr
     obtain ⟨f1,f2⟩:=f
     have HF1:Hid (f1 ≠ 0):=hf
     have hq:(f1 != 0) = true:=by simpa using hf
     clear hf hfr HTk HR c0 c1 c2 c3
     have HC4:Hid (CR w (w3.alloc (Δ #[I J f1,I J f2] 32)).drew):=(HC3.out.next ((Below.refl _ _).alloc (Nat.le_refl _) _)).next (Below.refl _ _).drew
     have l3:w.heap.size + 1 + 1 < w3.heap.size:=lt_block HC3.out.r2
     have HC5:Hid (CR w (w3.alloc (Δ #[I J f1,I J f2] 32))):=HC3.out.next ((Below.refl _ _).alloc (Nat.le_refl _) _)
     clear HC3
     have q0:(w3.alloc (Δ #[I J f1,I J f2] 32)).drew.cell? ⟨w.heap.size + 1,0,none⟩ = some (Ψ ⟨#[]⟩):=blk HC4.out.r1 rfl
     have q1:(w3.alloc (Δ #[I J f1,I J f2] 32)).drew.cell? ⟨w.heap.size + 1,1,none⟩ = some (Γ none 0 0):=blk HC4.out.r1 rfl
     have q2:(w3.alloc (Δ #[I J f1,I J f2] 32)).drew.cell? ⟨w.heap.size + 1,2,none⟩ = some (Γ none 0 0):=blk HC4.out.r1 rfl
     have q3:(w3.alloc (Δ #[I J f1,I J f2] 32)).drew.cell? ⟨w.heap.size + 1,3,none⟩ = some (Γ none 0 0):=blk HC4.out.r1 rfl
     have q4:(w3.alloc (Δ #[I J f1,I J f2] 32)).drew.cell? ⟨w.heap.size + 1,4,none⟩ = some (I J 0):=blk HC4.out.r1 rfl
     have q5:(w3.alloc (Δ #[I J f1,I J f2] 32)).drew.cell? ⟨w.heap.size + 1,5,none⟩ = some (.bool false):=blk HC4.out.r1 rfl
     have q6:(w3.alloc (Δ #[I J f1,I J f2] 32)).drew.cell? ⟨w.heap.size + 1,6,none⟩ = some (I J 0):=blk HC4.out.r1 rfl
     have q7:(w3.alloc (Δ #[I J f1,I J f2] 32)).drew.cell? ⟨w.heap.size + 1,7,none⟩ = some (I J 0):=blk HC4.out.r1 rfl
     have q8:(w3.alloc (Δ #[I J f1,I J f2] 32)).drew.cell? ⟨w.heap.size + 1,8,none⟩ = some (I J 0):=blk HC4.out.r1 rfl
     have q9:(w3.alloc (Δ #[I J f1,I J f2] 32)).drew.cell? ⟨w.heap.size + 1,9,none⟩ = some (I J 0):=blk HC4.out.r1 rfl
     have q10:(w3.alloc (Δ #[I J f1,I J f2] 32)).drew.cell? ⟨w.heap.size + 1,10,none⟩ = some (I J 0):=blk HC4.out.r1 rfl
     have p0:(w3.alloc (Δ #[I J f1,I J f2] 32)).drew.cell? ⟨w.heap.size + 1 + 1,0,none⟩ = some (I J 0):=blk HC4.out.r2 rfl
     have p1:(w3.alloc (Δ #[I J f1,I J f2] 32)).drew.cell? ⟨w.heap.size + 1 + 1,1,none⟩ = some (I J 0):=blk HC4.out.r2 rfl
     have qf:∀ i,(w3.alloc (Δ #[I J f1,I J f2] 32)).drew.frozen? ⟨w.heap.size + 1,i,none⟩ = false:=fun i=>blkf i HC4.out.r1
     have pf:∀ i,(w3.alloc (Δ #[I J f1,I J f2] 32)).drew.frozen? ⟨w.heap.size + 1 + 1,i,none⟩ = false:=fun i=>blkf i HC4.out.r2
     have q0a:(w3.alloc (Δ #[I J f1,I J f2] 32)).cell? ⟨w.heap.size + 1,0,none⟩ = some (Ψ ⟨#[]⟩):=blk HC5.out.r1 rfl
     have q1a:(w3.alloc (Δ #[I J f1,I J f2] 32)).cell? ⟨w.heap.size + 1,1,none⟩ = some (Γ none 0 0):=blk HC5.out.r1 rfl
     have q2a:(w3.alloc (Δ #[I J f1,I J f2] 32)).cell? ⟨w.heap.size + 1,2,none⟩ = some (Γ none 0 0):=blk HC5.out.r1 rfl
     have q3a:(w3.alloc (Δ #[I J f1,I J f2] 32)).cell? ⟨w.heap.size + 1,3,none⟩ = some (Γ none 0 0):=blk HC5.out.r1 rfl
     have q4a:(w3.alloc (Δ #[I J f1,I J f2] 32)).cell? ⟨w.heap.size + 1,4,none⟩ = some (I J 0):=blk HC5.out.r1 rfl
     have q5a:(w3.alloc (Δ #[I J f1,I J f2] 32)).cell? ⟨w.heap.size + 1,5,none⟩ = some (.bool false):=blk HC5.out.r1 rfl
     have q6a:(w3.alloc (Δ #[I J f1,I J f2] 32)).cell? ⟨w.heap.size + 1,6,none⟩ = some (I J 0):=blk HC5.out.r1 rfl
     have q7a:(w3.alloc (Δ #[I J f1,I J f2] 32)).cell? ⟨w.heap.size + 1,7,none⟩ = some (I J 0):=blk HC5.out.r1 rfl
     have q8a:(w3.alloc (Δ #[I J f1,I J f2] 32)).cell? ⟨w.heap.size + 1,8,none⟩ = some (I J 0):=blk HC5.out.r1 rfl
     have q9a:(w3.alloc (Δ #[I J f1,I J f2] 32)).cell? ⟨w.heap.size + 1,9,none⟩ = some (I J 0):=blk HC5.out.r1 rfl
     have q10a:(w3.alloc (Δ #[I J f1,I J f2] 32)).cell? ⟨w.heap.size + 1,10,none⟩ = some (I J 0):=blk HC5.out.r1 rfl
     have p0a:(w3.alloc (Δ #[I J f1,I J f2] 32)).cell? ⟨w.heap.size + 1 + 1,0,none⟩ = some (I J 0):=blk HC5.out.r2 rfl
     have p1a:(w3.alloc (Δ #[I J f1,I J f2] 32)).cell? ⟨w.heap.size + 1 + 1,1,none⟩ = some (I J 0):=blk HC5.out.r2 rfl
     have qfa:∀ i,(w3.alloc (Δ #[I J f1,I J f2] 32)).frozen? ⟨w.heap.size + 1,i,none⟩ = false:=fun i=>blkf i HC5.out.r1
     have pfa:∀ i,(w3.alloc (Δ #[I J f1,I J f2] 32)).frozen? ⟨w.heap.size + 1 + 1,i,none⟩ = false:=fun i=>blkf i HC5.out.r2
     have u0:(w3.alloc (Δ #[I J f1,I J f2] 32)).drew.cell? ⟨w3.heap.size,0,none⟩ = some (I J f1):=blk (heap_alloc_new w3 (Δ #[I J f1,I J f2] 32)) rfl
     have u1:(w3.alloc (Δ #[I J f1,I J f2] 32)).drew.cell? ⟨w3.heap.size,1,none⟩ = some (I J f2):=blk (heap_alloc_new w3 (Δ #[I J f1,I J f2] 32)) rfl
     unfold flV
     go_wp2_with fail
     go_region
     go_wp2
     refine bodyPost_ret (v:=.tuple #[.agg #[Ψ ⟨#[]⟩,Γ none 0 0,Γ none 0 0,Γ none 0 0,I J 0,.bool false,I J 0,I J 0,I J 0,I J 0,I J 0],flV (f1,f2)]) ?_ rfl ?_
     ·simp only [results,hres]
      unfold flV
      simp only
      go_simp
     ·show ChkPost _ _ _ _
      rw [HX.out]
      exact ⟨HF1.out,rfl,(below_res HC5.out.low _ _ _ _ _ _ _ _ _ _ _ _ _).drew⟩
   | ok c'=>
     rw [hh] at HTk
     have HG:Hid (takeAll r1 c' = R /\ CkB (i + 1) c'):=⟨by rw [<- HR.out.2.2.1]; exact (takeAll_ok hh).symm,takeC_good HR.out.2.2.2.1 HR.out.2.2.2.2.2.1 HR.out.2.2.2.2.2.2 hh⟩
     clear hh
     go_wp2_with fail
     refine HTk.out.mono ?_
     intro e w3 hp
     obtain ⟨he,hfr,O',s',hO',hck'⟩:=hp
     subst he
     have HN:Hid (ItsAt false (fun g=>g < w.heap.size) (w3.alloc (Δ #[I J 0,I J 0] 32)) r1 (some ⟨g,off + (i + 1) * 4,none⟩) (n - (i + 1)) /\ CS w (Γ (some ⟨g,off,none⟩) n cc) O' b s' c' (w3.alloc (Δ #[I J 0,I J 0] 32))):=by
      have hcs:=(HR.out.2.2.2.2.1.alloc (Δ #[I J h1.kind,Ψ (bs h1.name),Γ ka1 kc1 kk1,I J h1.pl] 67))
      have hgo:=hcs.go hfr hO' hck'
      refine ⟨?_,hgo.alloc _⟩
      have h1:=HR.out.1.below ((Below.refl _ _).alloc (Nat.le_refl _) (Δ #[I J h1.kind,Ψ (bs h1.name),Γ ka1 kc1 kk1,I J h1.pl] 67))
      have h2:=itsAt_keep (w':=w3) (fun q hq hqB=>hfr.block q hq (fun ho=>by have:=hcs.off q ho; omega)) h1
      exact h2.below ((Below.refl _ _).alloc (Nat.le_refl _) _)
     clear hfr hO' hck' HTk c0 c1 c2 c3
     have HRa:Hid (r1.all itRight = true):=HR.out.2.1
     clear HR
     unfold flV
     have n0:((0:Int) != 0) = false:=rfl
     go_wp2_with fail
     go_roundg (gk - 1)
     case measure=>omega
     case rel=>exact ⟨r1,i + 1,O',s',c',by go_num,by omega,HN.out.1,HRa.out,HG.out.1,HG.out.2,HN.out.2⟩
  ·have hin:i = n:=by omega
   obtain ⟨t1,t2,t3,t4,t5⟩:=HT.out
   rw [show n - i = 0 by omega] at t1
   have hL:=itsAt_end t1
   subst hL
   have HX0:Hid (R = .ok c):=t3.symm
   have HEn:Hid (Calls Tryz.prog 29 #[.pointer (some ⟨b,0,none⟩)] wr (TPost O b wr (endsB c))):=end_calls wr t5.ck t4.ok t4.al
   have HS:=hid t5
   clear HT t1 t2 t3 t4 t5
   cases hh:endsB c with
   | error f=>
     rw [hh] at HEn
     have HX:Hid (endR R = .error f):=by rw [HX0.out]; exact hh
     clear hh HX0
     go_wp2_with fail
     refine HEn.out.mono ?_
     intro e w3 hp
     obtain ⟨hf,he,hfr⟩:=hp
     subst he
     have HC3:Hid (CR w w3):=HS.out.fr hfr
     obtain ⟨f1,f2⟩:=f
     have HF1:Hid (f1 ≠ 0):=hf
     have hq:(f1 != 0) = true:=by simpa using hf
     clear hf hfr HEn HS
     have HC4:Hid (CR w (w3.alloc (Δ #[I J f1,I J f2] 32)).drew):=(HC3.out.next ((Below.refl _ _).alloc (Nat.le_refl _) _)).next (Below.refl _ _).drew
     have l3:w.heap.size + 1 + 1 < w3.heap.size:=lt_block HC3.out.r2
     have HC5:Hid (CR w (w3.alloc (Δ #[I J f1,I J f2] 32))):=HC3.out.next ((Below.refl _ _).alloc (Nat.le_refl _) _)
     clear HC3
     have q0:(w3.alloc (Δ #[I J f1,I J f2] 32)).drew.cell? ⟨w.heap.size + 1,0,none⟩ = some (Ψ ⟨#[]⟩):=blk HC4.out.r1 rfl
     have q1:(w3.alloc (Δ #[I J f1,I J f2] 32)).drew.cell? ⟨w.heap.size + 1,1,none⟩ = some (Γ none 0 0):=blk HC4.out.r1 rfl
     have q2:(w3.alloc (Δ #[I J f1,I J f2] 32)).drew.cell? ⟨w.heap.size + 1,2,none⟩ = some (Γ none 0 0):=blk HC4.out.r1 rfl
     have q3:(w3.alloc (Δ #[I J f1,I J f2] 32)).drew.cell? ⟨w.heap.size + 1,3,none⟩ = some (Γ none 0 0):=blk HC4.out.r1 rfl
     have q4:(w3.alloc (Δ #[I J f1,I J f2] 32)).drew.cell? ⟨w.heap.size + 1,4,none⟩ = some (I J 0):=blk HC4.out.r1 rfl
     have q5:(w3.alloc (Δ #[I J f1,I J f2] 32)).drew.cell? ⟨w.heap.size + 1,5,none⟩ = some (.bool false):=blk HC4.out.r1 rfl
     have q6:(w3.alloc (Δ #[I J f1,I J f2] 32)).drew.cell? ⟨w.heap.size + 1,6,none⟩ = some (I J 0):=blk HC4.out.r1 rfl
     have q7:(w3.alloc (Δ #[I J f1,I J f2] 32)).drew.cell? ⟨w.heap.size + 1,7,none⟩ = some (I J 0):=blk HC4.out.r1 rfl
     have q8:(w3.alloc (Δ #[I J f1,I J f2] 32)).drew.cell? ⟨w.heap.size + 1,8,none⟩ = some (I J 0):=blk HC4.out.r1 rfl
     have q9:(w3.alloc (Δ #[I J f1,I J f2] 32)).drew.cell? ⟨w.heap.size + 1,9,none⟩ = some (I J 0):=blk HC4.out.r1 rfl
     have q10:(w3.alloc (Δ #[I J f1,I J f2] 32)).drew.cell? ⟨w.heap.size + 1,10,none⟩ = some (I J 0):=blk HC4.out.r1 rfl
     have p0:(w3.alloc (Δ #[I J f1,I J f2] 32)).drew.cell? ⟨w.heap.size + 1 + 1,0,none⟩ = some (I J 0):=blk HC4.out.r2 rfl
     have p1:(w3.alloc (Δ #[I J f1,I J f2] 32)).drew.cell? ⟨w.heap.size + 1 + 1,1,none⟩ = some (I J 0):=blk HC4.out.r2 rfl
     have qf:∀ i,(w3.alloc (Δ #[I J f1,I J f2] 32)).drew.frozen? ⟨w.heap.size + 1,i,none⟩ = false:=fun i=>blkf i HC4.out.r1
     have pf:∀ i,(w3.alloc (Δ #[I J f1,I J f2] 32)).drew.frozen? ⟨w.heap.size + 1 + 1,i,none⟩ = false:=fun i=>blkf i HC4.out.r2
     have q0a:(w3.alloc (Δ #[I J f1,I J f2] 32)).cell? ⟨w.heap.size + 1,0,none⟩ = some (Ψ ⟨#[]⟩):=blk HC5.out.r1 rfl
     have q1a:(w3.alloc (Δ #[I J f1,I J f2] 32)).cell? ⟨w.heap.size + 1,1,none⟩ = some (Γ none 0 0):=blk HC5.out.r1 rfl
     have q2a:(w3.alloc (Δ #[I J f1,I J f2] 32)).cell? ⟨w.heap.size + 1,2,none⟩ = some (Γ none 0 0):=blk HC5.out.r1 rfl
     have q3a:(w3.alloc (Δ #[I J f1,I J f2] 32)).cell? ⟨w.heap.size + 1,3,none⟩ = some (Γ none 0 0):=blk HC5.out.r1 rfl
     have q4a:(w3.alloc (Δ #[I J f1,I J f2] 32)).cell? ⟨w.heap.size + 1,4,none⟩ = some (I J 0):=blk HC5.out.r1 rfl
     have q5a:(w3.alloc (Δ #[I J f1,I J f2] 32)).cell? ⟨w.heap.size + 1,5,none⟩ = some (.bool false):=blk HC5.out.r1 rfl
     have q6a:(w3.alloc (Δ #[I J f1,I J f2] 32)).cell? ⟨w.heap.size + 1,6,none⟩ = some (I J 0):=blk HC5.out.r1 rfl
     have q7a:(w3.alloc (Δ #[I J f1,I J f2] 32)).cell? ⟨w.heap.size + 1,7,none⟩ = some (I J 0):=blk HC5.out.r1 rfl
     have q8a:(w3.alloc (Δ #[I J f1,I J f2] 32)).cell? ⟨w.heap.size + 1,8,none⟩ = some (I J 0):=blk HC5.out.r1 rfl
     have q9a:(w3.alloc (Δ #[I J f1,I J f2] 32)).cell? ⟨w.heap.size + 1,9,none⟩ = some (I J 0):=blk HC5.out.r1 rfl
     have q10a:(w3.alloc (Δ #[I J f1,I J f2] 32)).cell? ⟨w.heap.size + 1,10,none⟩ = some (I J 0):=blk HC5.out.r1 rfl
     have p0a:(w3.alloc (Δ #[I J f1,I J f2] 32)).cell? ⟨w.heap.size + 1 + 1,0,none⟩ = some (I J 0):=blk HC5.out.r2 rfl
     have p1a:(w3.alloc (Δ #[I J f1,I J f2] 32)).cell? ⟨w.heap.size + 1 + 1,1,none⟩ = some (I J 0):=blk HC5.out.r2 rfl
     have qfa:∀ i,(w3.alloc (Δ #[I J f1,I J f2] 32)).frozen? ⟨w.heap.size + 1,i,none⟩ = false:=fun i=>blkf i HC5.out.r1
     have pfa:∀ i,(w3.alloc (Δ #[I J f1,I J f2] 32)).frozen? ⟨w.heap.size + 1 + 1,i,none⟩ = false:=fun i=>blkf i HC5.out.r2
     have u0:(w3.alloc (Δ #[I J f1,I J f2] 32)).drew.cell? ⟨w3.heap.size,0,none⟩ = some (I J f1):=blk (heap_alloc_new w3 (Δ #[I J f1,I J f2] 32)) rfl
     have u1:(w3.alloc (Δ #[I J f1,I J f2] 32)).drew.cell? ⟨w3.heap.size,1,none⟩ = some (I J f2):=blk (heap_alloc_new w3 (Δ #[I J f1,I J f2] 32)) rfl
     unfold flV
     go_wp2_with fail
     go_region
     go_wp2
     refine bodyPost_ret (v:=.tuple #[.agg #[Ψ ⟨#[]⟩,Γ none 0 0,Γ none 0 0,Γ none 0 0,I J 0,.bool false,I J 0,I J 0,I J 0,I J 0,I J 0],flV (f1,f2)]) ?_ rfl ?_
     ·simp only [results,hres]
      unfold flV
      simp only
      go_simp
     ·show ChkPost _ _ _ _
      rw [HX.out]
      exact ⟨HF1.out,rfl,(below_res HC5.out.low _ _ _ _ _ _ _ _ _ _ _ _ _).drew⟩
   | ok c'=>
     rw [hh] at HEn
     have HX:Hid (endR R = .ok c'):=by rw [HX0.out]; exact hh
     clear hh HX0
     go_wp2_with fail
     refine HEn.out.mono ?_
     intro e w3 hp
     obtain ⟨he,hfr,O',s',hO',hck'⟩:=hp
     subst he
     have HN:Hid (CS w (Γ ao n cc) O' b s' c' (w3.alloc (Δ #[I J 0,I J 0] 32))):=(HS.out.go hfr hO' hck').alloc _
     have HC5:Hid (CR w (w3.alloc (Δ #[I J 0,I J 0] 32))):=⟨HN.out.low,HN.out.r1,HN.out.r2⟩
     have hbo:=HN.out.off b HN.out.ck.inB
     have hbl:b < w3.heap.size:=hck'.lt
     clear hfr hO' hck' HEn HS
     unfold flV
     have n0:((0:Int) != 0) = false:=rfl
     have q0:(w3.alloc (Δ #[I J 0,I J 0] 32)).cell? ⟨w.heap.size + 1,0,none⟩ = some (Ψ ⟨#[]⟩):=blk HC5.out.r1 rfl
     have q1:(w3.alloc (Δ #[I J 0,I J 0] 32)).cell? ⟨w.heap.size + 1,1,none⟩ = some (Γ none 0 0):=blk HC5.out.r1 rfl
     have q2:(w3.alloc (Δ #[I J 0,I J 0] 32)).cell? ⟨w.heap.size + 1,2,none⟩ = some (Γ none 0 0):=blk HC5.out.r1 rfl
     have q3:(w3.alloc (Δ #[I J 0,I J 0] 32)).cell? ⟨w.heap.size + 1,3,none⟩ = some (Γ none 0 0):=blk HC5.out.r1 rfl
     have q4:(w3.alloc (Δ #[I J 0,I J 0] 32)).cell? ⟨w.heap.size + 1,4,none⟩ = some (I J 0):=blk HC5.out.r1 rfl
     have q5:(w3.alloc (Δ #[I J 0,I J 0] 32)).cell? ⟨w.heap.size + 1,5,none⟩ = some (.bool false):=blk HC5.out.r1 rfl
     have q6:(w3.alloc (Δ #[I J 0,I J 0] 32)).cell? ⟨w.heap.size + 1,6,none⟩ = some (I J 0):=blk HC5.out.r1 rfl
     have q7:(w3.alloc (Δ #[I J 0,I J 0] 32)).cell? ⟨w.heap.size + 1,7,none⟩ = some (I J 0):=blk HC5.out.r1 rfl
     have q8:(w3.alloc (Δ #[I J 0,I J 0] 32)).cell? ⟨w.heap.size + 1,8,none⟩ = some (I J 0):=blk HC5.out.r1 rfl
     have q9:(w3.alloc (Δ #[I J 0,I J 0] 32)).cell? ⟨w.heap.size + 1,9,none⟩ = some (I J 0):=blk HC5.out.r1 rfl
     have q10:(w3.alloc (Δ #[I J 0,I J 0] 32)).cell? ⟨w.heap.size + 1,10,none⟩ = some (I J 0):=blk HC5.out.r1 rfl
     have p0:(w3.alloc (Δ #[I J 0,I J 0] 32)).cell? ⟨w.heap.size + 1 + 1,0,none⟩ = some (I J 0):=blk HC5.out.r2 rfl
     have p1:(w3.alloc (Δ #[I J 0,I J 0] 32)).cell? ⟨w.heap.size + 1 + 1,1,none⟩ = some (I J 0):=blk HC5.out.r2 rfl
     have qf:∀ i,(w3.alloc (Δ #[I J 0,I J 0] 32)).frozen? ⟨w.heap.size + 1,i,none⟩ = false:=fun i=>blkf i HC5.out.r1
     have pf:∀ i,(w3.alloc (Δ #[I J 0,I J 0] 32)).frozen? ⟨w.heap.size + 1 + 1,i,none⟩ = false:=fun i=>blkf i HC5.out.r2
     have k0:(w3.alloc (Δ #[I J 0,I J 0] 32)).cell? ⟨b,0,none⟩ = some (Ψ (bs c'.letters)):=HN.out.ck.c0
     have k1:(w3.alloc (Δ #[I J 0,I J 0] 32)).cell? ⟨b,1,none⟩ = some (s'.dv):=HN.out.ck.c1
     have k2:(w3.alloc (Δ #[I J 0,I J 0] 32)).cell? ⟨b,2,none⟩ = some (s'.sv):=HN.out.ck.c2
     have k3:(w3.alloc (Δ #[I J 0,I J 0] 32)).cell? ⟨b,3,none⟩ = some (s'.pv):=HN.out.ck.c3
     have k4:(w3.alloc (Δ #[I J 0,I J 0] 32)).cell? ⟨b,4,none⟩ = some (I J c'.mode):=HN.out.ck.c4
     have k5:(w3.alloc (Δ #[I J 0,I J 0] 32)).cell? ⟨b,5,none⟩ = some (.bool c'.banded):=HN.out.ck.c5
     have k6:(w3.alloc (Δ #[I J 0,I J 0] 32)).cell? ⟨b,6,none⟩ = some (I J c'.lo):=HN.out.ck.c6
     have k7:(w3.alloc (Δ #[I J 0,I J 0] 32)).cell? ⟨b,7,none⟩ = some (I J c'.hi):=HN.out.ck.c7
     have k8:(w3.alloc (Δ #[I J 0,I J 0] 32)).cell? ⟨b,8,none⟩ = some (I J c'.front):=HN.out.ck.c8
     have k9:(w3.alloc (Δ #[I J 0,I J 0] 32)).cell? ⟨b,9,none⟩ = some (I J c'.back):=HN.out.ck.c9
     have k10:(w3.alloc (Δ #[I J 0,I J 0] 32)).cell? ⟨b,10,none⟩ = some (I J c'.least):=HN.out.ck.c10
     obtain ⟨dv,hdv⟩:∃ dv,s'.dv = dv:=⟨_,rfl⟩
     obtain ⟨da,dn,dc,hd2⟩:∃ da dn dc,s'.dv = Γ da dn dc:=by obtain ⟨a,cp,e⟩:=owned_shape HN.out.ck.defs; exact ⟨a,_,cp,e⟩
     obtain ⟨sa,sn,sc,hs2⟩:∃ da dn dc,s'.sv = Γ da dn dc:=by obtain ⟨a,cp,e⟩:=owned_shape HN.out.ck.subst; exact ⟨a,_,cp,e⟩
     obtain ⟨pa,pn,pc,hp2⟩:∃ da dn dc,s'.pv = Γ da dn dc:=by obtain ⟨a,cp,e⟩:=owned_shape HN.out.ck.pieces; exact ⟨a,_,cp,e⟩
     clear hdv dv
     rw [hd2] at k1
     rw [hs2] at k2
     rw [hp2] at k3
     have HV:Hid (s'.dv = Γ da dn dc /\ s'.sv = Γ sa sn sc /\ s'.pv = Γ pa pn pc):=⟨hd2,hs2,hp2⟩
     clear hd2 hs2 hp2
     go_wp2
     refine bodyPost_ret (v:=.tuple #[schV c' s',flV (0,0)]) ?_ rfl ?_
     ·simp only [results,hres]
      unfold flV schV
      rw [HV.out.1,HV.out.2.1,HV.out.2.2]
      simp only
      go_simp
     ·show ChkPost _ _ _ _
      rw [HX.out]
      refine ⟨s',rfl,below_res HC5.out.low _ _ _ _ _ _ _ _ _ _ _ _ _,schAt_of (ck_res13 HN.out.ck (fun ho=>?_) (fun ho=>?_) _ _ _ _ _ _ _ _ _ _ _ _ _)⟩
      ·have:=HN.out.off _ ho; omega
      ·have:=HN.out.off _ ho; omega
theorem check_calls (L:List It) (ao:Option Addr) (n cc:Nat) (w:World) (hF:ItsAt false (fun _=>True) w L ao n) (hn:n <= maxLen) :
 Calls Tryz.prog 9 #[.agg #[Γ ao n cc]] w fun e w'=>ChkPost (checkG (treeRight L) L) w e w':=by
 cases hr:treeRight L
 ·have:=check_no L ao n cc w hF hn hr
  rw [hr] at this; exact this
 ·have:=check_yes L ao n cc w hF hn hr
  rw [hr] at this; exact this
open Go.Value renaming int->I,pointer->Φ
set_option maxRecDepth 20000
set_option maxHeartbeats 1000000
theorem beqz (z k:Int):(z == k) = decide (z = k):=by rw [Bool.eq_iff_iff]; simp
theorem ahead_calls (a p:Int) (g:Nat) (w:World) (hc:w.cell? ⟨g,0,none⟩ = some (I J p)) :
 Calls Tryz.prog 78 #[I J a,Φ (some ⟨g,0,none⟩)] w fun e w'=>e = Ω (.bool (aheadB a p)) /\ w = w':=by
 by_cases h:0 <= a
 ·have hd:decide (0 <= a) = true:=by simpa using h
  go_enter Tryz.func78,Tryz.ntmps78
  go_wp2
  go_ret
  exact ⟨ret_bool (by simp [aheadB,h]),rfl⟩
 ·have hd:decide (0 <= a) = false:=by simpa using h
  go_enter Tryz.func78,Tryz.ntmps78
  go_wp2
  go_ret
  exact ⟨ret_bool (by simp [aheadB]; omega),rfl⟩
theorem isDef_calls (d:Df) (p:Int) (w:World) :
 Calls Tryz.prog 40 #[dfV d,I J p] w fun e w'=>e = Ω (.bool (defB d p)) /\ Below w.heap.size w w':=by
 have hmf:∀ (fn:Fn) (first cap:Array Value) (w:World),(Instr.makeFunc fn first cap).run Tryz.prog w = .ok (.func fn first cap) w:=fun _ _ _ _=>rfl
 have HBl:Hid (Below w.heap.size w ((w.alloc (Δ #[I J d.op,I J d.num,I J d.a,I J d.b] 43)).alloc (Δ #[I J p] 3))):=((Below.refl _ _).alloc (Nat.le_refl _) _).alloc (by simp) _
 have HA:Hid (∀ a,Calls Tryz.prog 78 #[I J a,Φ (some ⟨w.heap.size + 1,0,none⟩)] ((w.alloc (Δ #[I J d.op,I J d.num,I J d.a,I J d.b] 43)).alloc (Δ #[I J p] 3)) fun e w'=>e = Ω (.bool (aheadB a p)) /\ ((w.alloc (Δ #[I J d.op,I J d.num,I J d.a,I J d.b] 43)).alloc (Δ #[I J p] 3)) = w'):=fun a=>by
  refine ahead_calls a p _ _ ?_
  have:=heap_alloc_new (w.alloc (Δ #[I J d.op,I J d.num,I J d.a,I J d.b] 43)) (Δ #[I J p] 3)
  rw [show (w.alloc (Δ #[I J d.op,I J d.num,I J d.a,I J d.b] 43)).heap.size = w.heap.size + 1 by simp] at this
  exact blk this rfl
 unfold dfV
 obtain ⟨op,num,a,b⟩:=d
 simp only at HBl HA ⊢
 have HD:Hid (defB ⟨op,num,a,b⟩ p = if op = 1 then decide (a = 0 /\ b = 0) else if op = 2 then decide (num = 0) && (aheadB a p && decide (b = 0)) else if 3 <= op /\ op <= 7 then decide (num = 0) && (aheadB a p && aheadB b p) else false):=rfl
 generalize defB ⟨op,num,a,b⟩ p = D at *
 by_cases h1:op = 1
 ·subst h1
  have e1:((1:Int) == 1) = true:=rfl
  have HE:Hid (D = decide (a = 0 /\ b = 0)):=HD.out
  clear HD
  by_cases ha:a = 0
  ·subst ha
   have ea:((0:Int) == 0) = true:=rfl
   go_enter Tryz.func40,Tryz.ntmps40
   go_wp2
   go_ret
   exact ⟨ret_bool (by rw [HE.out]; simp [beqz]),HBl.out⟩
  ·have ea:(a == 0) = false:=by simpa using ha
   go_enter Tryz.func40,Tryz.ntmps40
   go_wp2
   go_ret
   exact ⟨ret_bool (by rw [HE.out]; simp [ha]),HBl.out⟩
 have e1:(op == 1) = false:=by simpa using h1
 by_cases h2:op = 2
 ·subst h2
  have e2:((2:Int) == 2) = true:=rfl
  have HE:Hid (D = (decide (num = 0) && (aheadB a p && decide (b = 0)))):=HD.out
  clear HD h1
  by_cases hn:num = 0
  ·subst hn
   have en:((0:Int) == 0) = true:=rfl
   cases haa:aheadB a p
   ·rw [haa] at HE
    have HA2:Hid (Calls Tryz.prog 78 #[I J a,Φ (some ⟨w.heap.size + 1,0,none⟩)] ((w.alloc (Δ #[I J 2,I J 0,I J a,I J b] 43)).alloc (Δ #[I J p] 3)) fun e w'=>e = Ω (.bool false) /\ ((w.alloc (Δ #[I J 2,I J 0,I J a,I J b] 43)).alloc (Δ #[I J p] 3)) = w'):=by have:=HA.out a; rw [haa] at this; exact this
    clear HA haa
    go_enter Tryz.func40,Tryz.ntmps40
    go_wp2_with (go_at_call 78; refine (HA2.out).mono ?_; rintro e w' ⟨rfl,rfl⟩)
    go_ret
    exact ⟨ret_bool (by rw [HE.out]; simp),HBl.out⟩
   ·rw [haa] at HE
    have HA2:Hid (Calls Tryz.prog 78 #[I J a,Φ (some ⟨w.heap.size + 1,0,none⟩)] ((w.alloc (Δ #[I J 2,I J 0,I J a,I J b] 43)).alloc (Δ #[I J p] 3)) fun e w'=>e = Ω (.bool true) /\ ((w.alloc (Δ #[I J 2,I J 0,I J a,I J b] 43)).alloc (Δ #[I J p] 3)) = w'):=by have:=HA.out a; rw [haa] at this; exact this
    clear HA haa
    go_enter Tryz.func40,Tryz.ntmps40
    go_wp2_with (go_at_call 78; refine (HA2.out).mono ?_; rintro e w' ⟨rfl,rfl⟩)
    go_ret
    exact ⟨ret_bool (by rw [HE.out]; simp [beqz]),HBl.out⟩
  ·have en:(num == 0) = false:=by simpa using hn
   go_enter Tryz.func40,Tryz.ntmps40
   go_wp2
   go_ret
   exact ⟨ret_bool (by rw [HE.out]; simp [hn]),HBl.out⟩
 have e2:(op == 2) = false:=by simpa using h2
 by_cases h3:3 <= op /\ op <= 7
 ·have HE:Hid (D = (decide (num = 0) && (aheadB a p && aheadB b p))):=by have:=HD.out; rw [if_neg h1,if_neg h2,if_pos h3] at this; exact this
  clear HD
  have hop:op = 3 \/ op = 4 \/ op = 5 \/ op = 6 \/ op = 7:=by omega
  clear h1 h2 h3 e1 e2
  by_cases hn:num = 0
  ·subst hn
   have en:((0:Int) == 0) = true:=rfl
   cases haa:aheadB a p
   ·rw [haa] at HE
    have hA2:=HA.out a
    rw [haa] at hA2
    clear haa HA
    rcases hop with rfl | rfl | rfl | rfl | rfl
    all_goals
     go_enter Tryz.func40,Tryz.ntmps40
     go_wp2_with (go_at_call 78; refine (hA2).mono ?_; rintro e w' ⟨rfl,rfl⟩)
     go_ret
     exact ⟨ret_bool (by rw [HE.out]; simp),HBl.out⟩
   ·rw [haa] at HE
    have hA2:=HA.out a
    have hB2:=HA.out b
    rw [haa] at hA2
    have HAa:=hid hA2
    have HBb:=hid hB2
    clear haa HA hA2 hB2
    generalize aheadB b p = rb at *
    rcases hop with rfl | rfl | rfl | rfl | rfl
    all_goals
     go_enter Tryz.func40,Tryz.ntmps40
     go_wp2_with fail
     refine (HAa.out).mono ?_
     rintro e w' ⟨rfl,rfl⟩
     go_wp2_with fail
     refine (HBb.out).mono ?_
     rintro e w' ⟨rfl,rfl⟩
     go_wp2
     go_ret
     exact ⟨ret_bool (by rw [HE.out]; simp),HBl.out⟩
  ·have en:(num == 0) = false:=by simpa using hn
   rcases hop with rfl | rfl | rfl | rfl | rfl
   all_goals
    go_enter Tryz.func40,Tryz.ntmps40
    go_wp2
    go_ret
    exact ⟨ret_bool (by rw [HE.out]; simp [hn]),HBl.out⟩
 ·have HE:Hid (D = false):=by have:=HD.out; rw [if_neg h1,if_neg h2,if_neg h3] at this; exact this
  have e3:(op == 3) = false:=by rw [beq_eq_false_iff_ne]; omega
  have e4:(op == 4) = false:=by rw [beq_eq_false_iff_ne]; omega
  have e5:(op == 5) = false:=by rw [beq_eq_false_iff_ne]; omega
  have e6:(op == 6) = false:=by rw [beq_eq_false_iff_ne]; omega
  have e7:(op == 7) = false:=by rw [beq_eq_false_iff_ne]; omega
  clear HD h1 h2 h3
  go_enter Tryz.func40,Tryz.ntmps40
  go_wp2
  go_ret
  exact ⟨ret_bool (by rw [HE.out]),HBl.out⟩
end Go.Proofs.YtlaodgdlkkmmeaaGreat
