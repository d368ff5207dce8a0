/-
  The first item that has an expression that is deeper than may be.
-/
import Derived.Test.YtlaodgdlkkmmeaaGreatG15
namespace Go.Proofs.YtlaodgdlkkmmeaaGreat
open Go.RowKit Go.Deep
open Go.Value renaming int->I,string->Ψ,slice->Γ
open Go.IntKind renaming i64->J
open Go.Obj renaming cells->Δ
open Go.Ending renaming returned->Ω
set_option maxRecDepth 20000
set_option maxHeartbeats 2000000
theorem itsAt_addr {o:Bool} {S:Nat -> Prop} {w:World} {L:List It} {ka:Option Addr} {kn:Nat} (h:ItsAt o S w L ka kn):∃ g off,(0 < kn -> ka = some ⟨g,off,none⟩) /\ ItsAt o S w L (some ⟨g,off + 0 * 4,none⟩) (kn - 0):=by
 cases L with
 | nil=>
   have h0:kn = 0:=h
   exact ⟨0,0,fun h1=>by omega,h0⟩
 | cons i r=>
   have hh:=h
   obtain ⟨g,off,_,_,_,_,_,ha,_⟩:=hh
   exact ⟨g,off,fun _=>ha,by rw [Nat.zero_mul,Nat.add_zero,<- ha]; exact h⟩
theorem itsAt_head {o:Bool} {S:Nat -> Prop} {w:World} {L:List It} {g off i kn:Nat} (h:ItsAt o S w L (some ⟨g,off + i * 4,none⟩) (kn - i)) (hi:i < kn) :
 ∃ it r ka kc kk,L = it :: r /\ S g /\ ItOk it /\ kc <= maxLen /\ (w.cell? ⟨g,off + i * 4,none⟩ = some (I J it.kind) /\ w.cell? ⟨g,off + i * 4 + 1,none⟩ = some (Ψ (bs it.name)) /\ w.cell? ⟨g,off + i * 4 + 2,none⟩ = some (Γ ka kc kk) /\ w.cell? ⟨g,off + i * 4 + 3,none⟩ = some (I J it.pl)) /\
   FoAt o S w it.args ka kc /\ ItsAt o S w r (some ⟨g,off + (i + 1) * 4,none⟩) (kn - (i + 1)):=by
 cases L with
 | nil=>have:kn - i = 0:=h; omega
 | cons it r=>
   obtain ⟨g',off',ka,kc,kk,m,hn,ha,hS,_,hok,hkc,hc,hk,hr⟩:=h
   cases ha
   refine ⟨it,r,ka,kc,kk,rfl,hS,hok,hkc,⟨hc 0 _ rfl,hc 1 _ rfl,hc 2 _ rfl,hc 3 _ rfl⟩,hk,?_⟩
   rw [show off + (i + 1) * 4 = off + i * 4 + 4 by omega,show kn - (i + 1) = m by omega]
   exact hr
theorem itsAt_end {o:Bool} {S:Nat -> Prop} {w:World} {L:List It} {a:Option Addr} (h:ItsAt o S w L a 0):L = []:=by
 cases L with
 | nil=>rfl
 | cons i r=>obtain ⟨_,_,_,_,_,m,hm,_⟩:=h; omega
theorem foAt_end {o:Bool} {S:Nat -> Prop} {w:World} {F:Fo} {a:Option Addr} (h:FoAt o S w F a 0):F = .nil:=by
 cases F with
 | nil=>rfl
 | node b0 o0 h2 k r=>obtain ⟨_,_,_,_,_,m,hm,_⟩:=h; omega
def deepW (i:It):Bool:=decide (32 < depW i.args)
def deepR (L:List It):Int × Int:=match L.find? deepW with | some i=>(71,i.pl) | none=>(0,0)
theorem deepR_cons (i:It) (r:List It):deepR (i :: r) = if deepW i then (71,i.pl) else deepR r:=by
 unfold deepR
 rw [List.find?_cons]
 cases deepW i <;> rfl
theorem tooDeep_calls {o:Bool} {S:Nat -> Prop} (L:List It) (ao:Option Addr) (n c:Nat) (w:World) (h:ItsAt o S w L ao n) (hn:n <= 4002) :
 Calls Tryz.prog 39 #[Γ ao n c] w fun e w'=>e = Ω (.agg #[I J (deepR L).1,I J (deepR L).2]) /\ Below w.heap.size w w':=by
 have hres:Tryz.f39.results = #[.cell 2 32]:=by kernel_rfl
 obtain ⟨g,off,hka,hF⟩:=itsAt_addr h
 have hbx:Below w.heap.size w (w.alloc (Δ #[I J 0,I J 0] 32)):=(Below.refl _ _).alloc (Nat.le_refl _) _
 have HF:Hid (ItsAt o S (w.alloc (Δ #[I J 0,I J 0] 32)) L (some ⟨g,off + 0 * 4,none⟩) (n - 0)):=hF.below hbx
 have HD:Hid (∀ (e:Ex) (ka:Option Addr) (kn kc:Nat) (w:World),ExAt o S w e ka kn ->
  Calls Tryz.prog 77 #[.agg #[I J e.1.kind,I J e.1.num,Ψ (bs e.1.text),Γ ka kn kc,I J e.1.pl]] w fun e' w'=>e' = Ω (I J (wrap64 (depW e.2 + 1))) /\ Below w.heap.size w w'):=fun e ka kn kc w h1=>depth_calls _ e ka kn kc w o S h1 (Nat.lt_succ_self _)
 generalize hR:deepR L = R at *
 have HR:Hid (deepR L = R):=hR
 clear hF h hR hbx
 have HA0:Hid ((w.alloc (Δ #[I J 0,I J 0] 32)).heap[w.heap.size]? = some (Δ #[I J 0,I J 0] 32 (0,0)) /\ Below w.heap.size w (w.alloc (Δ #[I J 0,I J 0] 32))):=⟨heap_alloc_new w _,(Below.refl _ _).alloc (Nat.le_refl _) _⟩
 go_enter Tryz.func39,Tryz.ntmps39
 go_wp2_with fail
 go_loopg [9] n (fun k iv wr=>∃ (L':List It) (i:Nat),iv = I J (i:Int) /\ i + k = n /\ Hid (ItsAt o S wr L' (some ⟨g,off + i * 4,none⟩) (n - i) /\ deepR L' = R) /\ Hid (wr.heap[w.heap.size]? = some (Δ #[I J 0,I J 0] 32 (0,0)) /\ Below w.heap.size w wr))
 case atStart=>exact ⟨L,0,rfl,by omega,⟨HF.out,HR.out⟩,HA0.out⟩
 case round=>
  clear HF HA0 HR
  obtain ⟨L',i,rfl,hik,HT,HA⟩:=hrel
  generalize wr = wo at *
  generalize gk = go at *
  by_cases hi:i < n
  ·obtain ⟨it,r,ka,kc,kk,rfl,-,hok,hkc,⟨c0,c1,c2,c3⟩,hk2,hr2⟩:=itsAt_head HT.out.1 hi
   have hka2:=hka (by omega)
   subst hka2
   obtain ⟨g5,off5,hkb,hF5⟩:=foAt_addr hk2
   have hkm:=hkc
   unfold maxLen at hkm
   have hbx:Below wo.heap.size wo (wo.alloc (Δ #[I J it.kind,Ψ (bs it.name),Γ ka kc kk,I J it.pl] 67)):=(Below.refl _ _).alloc (Nat.le_refl _) _
   have HI:Hid (FoAt o S (wo.alloc (Δ #[I J it.kind,Ψ (bs it.name),Γ ka kc kk,I J it.pl] 67)) it.args (some ⟨g5,off5 + 0 * 5,none⟩) (kc - 0)):=hF5.below hbx
   have HRs:Hid (ItsAt o S wo r (some ⟨g,off + (i + 1) * 4,none⟩) (n - (i + 1)) /\ (if deepW it then (71,it.pl) else deepR r) = R):=⟨hr2,by have:=HT.out.2; rw [deepR_cons] at this; exact this⟩
   have HW0:Hid (Below wo.heap.size wo (wo.alloc (Δ #[I J it.kind,Ψ (bs it.name),Γ ka kc kk,I J it.pl] 67)) /\ (wo.alloc (Δ #[I J it.kind,Ψ (bs it.name),Γ ka kc kk,I J it.pl] 67)).heap[wo.heap.size]? = some (Δ #[I J it.kind,Ψ (bs it.name),Γ ka kc kk,I J it.pl] 67 (0,0))):=⟨hbx,heap_alloc_new wo _⟩
   clear hbx hF5 hk2 hr2 hok hkc HT
   go_wp2_with fail
   go_loopg [16] kc (fun k jv ws=>∃ (G:Fo) (j:Nat),jv = I J (j:Int) /\ j + k = kc /\ Hid (FoAt o S ws G (some ⟨g5,off5 + j * 5,none⟩) (kc - j) /\ decide (32 < depW G) = deepW it) /\ Hid (Below wo.heap.size wo ws /\ ws.heap[wo.heap.size]? = some (Δ #[I J it.kind,Ψ (bs it.name),Γ ka kc kk,I J it.pl] 67 (0,0))))
   case atStart=>exact ⟨it.args,0,rfl,by omega,⟨HI.out,rfl⟩,HW0.out⟩
   case round=>
    clear HI HW0
    obtain ⟨G,j,rfl,hjk,HG,HB⟩:=hrel
    by_cases hj:j < kc
    ·obtain ⟨b0,o0,h2,k2,r2,ka2,kc2,kk2,rfl,-,hok,hkc2,⟨e0,e1,e2,e3,e4⟩,hk2,hr2⟩:=foAt_head HG.out.1 hj
     have hkb2:=hkb (by omega)
     subst hkb2
     have HE2:Hid (∀ o',ExAt o S (wr.alloc o') (h2,k2) ka2 kc2):=fun o'=>⟨hok,hkc2,hk2.below ((Below.refl _ _).alloc (Nat.le_refl _) _)⟩
     have HR2:Hid (FoAt o S wr r2 (some ⟨g5,off5 + (j + 1) * 5,none⟩) (kc - (j + 1)) /\ decide (32 < max (wrap64 (depW k2 + 1)) (depW r2)) = deepW it):=⟨hr2,HG.out.2⟩
     clear HG hk2 hr2 hok hkc2
     go_wp2_with fail
     refine (HD.out (h2,k2) ka2 kc2 kk2 _ (HE2.out _)).mono ?_
     rintro e' w3 ⟨rfl,hb3⟩
     have hb4:=below_box' hb3
     have HR3:Hid (FoAt o S w3 r2 (some ⟨g5,off5 + (j + 1) * 5,none⟩) (kc - (j + 1))):=HR2.out.1.below hb4
     have HB3:Hid (Below wo.heap.size wo w3 /\ w3.heap[wo.heap.size]? = some (Δ #[I J it.kind,Ψ (bs it.name),Γ (some ⟨g5,off5,none⟩) kc kk,I J it.pl] 67 (0,0))):=⟨HB.out.1.trans (hb4.mono HB.out.1.size),by rw [hb4.block _ (lt_block HB.out.2)]; exact HB.out.2⟩
     have HS3:Hid (decide (32 < max (wrap64 (depW k2 + 1)) (depW r2)) = deepW it):=HR2.out.2
     clear hb3 hb4 HE2 HR2 HB
     generalize wrap64 (depW k2 + 1) = dk at *
     by_cases hdk:32 < dk
     ·have HX:Hid (R = (71,it.pl)):=by
       have h1:=HS3.out
       rw [show decide (32 < max dk (depW r2)) = true by simp; omega] at h1
       have h3:=HRs.out.2
       rw [<- h1,if_pos rfl] at h3
       exact h3.symm
      have HH3:Hid (w3.heap[w.heap.size]? = some (Δ #[I J 0,I J 0] 32 (0,0)) /\ Below w.heap.size w w3):=by
       have h1:=lt_block HA.out.1
       exact ⟨by rw [HB3.out.1.block _ h1]; exact HA.out.1,HA.out.2.trans (HB3.out.1.mono HA.out.2.size)⟩
      have p3:=blk (i:=3) HB3.out.2 rfl
      have z0:=blk (i:=0) HH3.out.1 rfl
      have z1:=blk (i:=1) HH3.out.1 rfl
      have f0:=blkf 0 HH3.out.1
      have f1:=blkf 1 HH3.out.1
      have HBf:Hid (Below w.heap.size w ((w3.setCell ⟨w.heap.size,0,none⟩ (I J 71)).setCell ⟨w.heap.size,1,none⟩ (I J it.pl))):=(HH3.out.2.setCell (p:=⟨w.heap.size,0,none⟩) (Nat.le_refl _) _).setCell (p:=⟨w.heap.size,1,none⟩) (Nat.le_refl _) _
      clear HB3 HR3 HS3
      go_wp2
      refine bodyPost_ret (v:=.agg #[I J 71,I J it.pl]) ?_ rfl ⟨?_,HBf.out⟩
      ·simp only [results,hres]
       go_simp
      ·rw [HX.out]
     ·have HG2:Hid (decide (32 < depW r2) = deepW it):=by
       show _ = _
       rw [<- HS3.out]
       congr 1
       simp only [eq_iff_iff]
       omega
      clear HS3
      go_wp2_with fail
      go_roundg (gk - 1)
      case measure=>omega
      case rel=>exact ⟨r2,j + 1,by go_num,by omega,⟨HR3.out,HG2.out⟩,HB3.out⟩
    ·have HX:Hid (deepW it = false):=by
      have h1:=HG.out.1
      rw [show kc - j = 0 by omega] at h1
      have h2:=HG.out.2
      rw [foAt_end h1] at h2
      rw [<- h2]; rfl
     have HR2:Hid (ItsAt o S wr r (some ⟨g,off + (i + 1) * 4,none⟩) (n - (i + 1)) /\ deepR r = R):=by
      have h1:=HRs.out
      rw [HX.out,if_neg (by decide)] at h1
      exact ⟨h1.1.below HB.out.1,h1.2⟩
     have HA2:Hid (wr.heap[w.heap.size]? = some (Δ #[I J 0,I J 0] 32 (0,0)) /\ Below w.heap.size w wr):=by
      have h1:=lt_block HA.out.1
      exact ⟨by rw [HB.out.1.block _ h1]; exact HA.out.1,HA.out.2.trans (HB.out.1.mono HA.out.2.size)⟩
     clear HG HB HRs
     go_wp2_with fail
     go_roundg (go - 1)
     case measure=>omega
     case rel=>exact ⟨r,i + 1,by go_num,by omega,HR2,HA2⟩
  ·have HX:Hid (R = (0,0)):=by
    have h1:=HT.out.1
    rw [show n - i = 0 by omega] at h1
    have h2:=HT.out.2
    rw [itsAt_end h1] at h2
    exact h2.symm
   have z0:=blk (i:=0) HA.out.1 rfl
   have z1:=blk (i:=1) HA.out.1 rfl
   have f0:=blkf 0 HA.out.1
   have f1:=blkf 1 HA.out.1
   have HBf:Hid (Below w.heap.size w ((wo.setCell ⟨w.heap.size,0,none⟩ (I J 0)).setCell ⟨w.heap.size,1,none⟩ (I J 0))):=(HA.out.2.setCell (p:=⟨w.heap.size,0,none⟩) (Nat.le_refl _) _).setCell (p:=⟨w.heap.size,1,none⟩) (Nat.le_refl _) _
   clear HT
   go_wp2
   refine bodyPost_ret (v:=.agg #[I J 0,I J 0]) ?_ rfl ⟨?_,HBf.out⟩
   ·simp only [results,hres]
    go_simp
   ·rw [HX.out]
end Go.Proofs.YtlaodgdlkkmmeaaGreat
