/-
  Whether an item says again what may be said but once: twice.
-/
import Derived.Test.YtlaodgdlkkmmeaaGreatG35
namespace Go.Proofs.YtlaodgdlkkmmeaaGreat
open Go.RowKit Go.Deep Go.Maps
open Go.Value renaming int->I,pointer->Φ,string->Ψ,slice->Γ
open Go.IntKind renaming i64->J
open Go.Obj renaming cells->Δ
open Go.Ending renaming returned->Ω
set_option maxRecDepth 20000
set_option maxHeartbeats 4000000
def itL (i:It) (ka:Option Addr) (kn kc:Nat):List Value:=[I J i.kind,Ψ (bs i.name),Γ ka kn kc,I J i.pl]
def itV (i:It) (ka:Option Addr) (kn kc:Nat):Value:=.agg #[I J i.kind,Ψ (bs i.name),Γ ka kn kc,I J i.pl]
theorem below_put {B g:Nat} {w V:World} (h:Below B w V) (hg:B <= g) (i:Nat) (u:Value):Below B w (V.setCell ⟨g,i,none⟩ u):=h.setCell (show B <= (⟨g,i,none⟩:Addr).block from hg) u
theorem CkAt.hadk {O:Nat -> Prop} {b:Nat} {s:Sl} {c:Ck} {w:World} (h:CkAt O b s c w) {k:Nat} (hk:k <= 10):w.cell? ⟨b,13 + k,none⟩ = some (.bool (c.had k)):=by
 refine blk h.block ?_
 have:k = 0 \/ k = 1 \/ k = 2 \/ k = 3 \/ k = 4 \/ k = 5 \/ k = 6 \/ k = 7 \/ k = 8 \/ k = 9 \/ k = 10:=by omega
 rcases this with rfl | rfl | rfl | rfl | rfl | rfl | rfl | rfl | rfl | rfl | rfl <;> rfl
theorem twice_let {O:Nat -> Prop} {b:Nat} {s:Sl} {c:Ck} (i:It) (ka:Option Addr) (kn kc:Nat) (w:World) (hck:CkAt O b s c w) (hk:i.kind = 1) (hn:i.name.length <= maxLen) :
 Calls Tryz.prog 48 #[Φ (some ⟨b,0,none⟩),itV i ka kn kc] w fun e w'=>e = Ω (.bool (lookN c.names i.name).isSome) /\ Below w.heap.size w w':=by
 obtain ⟨r,hr⟩:∃ r,r = lookN c.names i.name:=⟨_,rfl⟩
 obtain ⟨m,hm⟩:∃ m,m = r.getD mn0:=⟨_,rfl⟩
 obtain ⟨found,hfo⟩:∃ f,f = r.isSome:=⟨_,rfl⟩
 rw [<- hr,<- hfo]
 have hA:∀ W,Below w.heap.size w W -> W.heap[w.heap.size]? = some (Δ (itL i ka kn kc).toArray 67 (0,0)) -> W.cell? ⟨b,12,none⟩ = some (.map (some s.mb)) /\ W.cell? ⟨w.heap.size,1,none⟩ = some (Ψ (bs i.name)) /\ (Instr.lookup 70 (.map (some s.mb)) (Ψ (bs i.name)) true).run Tryz.prog W = .ok (.tuple #[.agg #[.bool m.isText,Ψ (bs m.text),I J m.place,I J m.num],.bool found]) W:=fun W hW hb=>by
  have hc:=hck.below hW
  have:=nm_look hc.names i.name hn
  rw [<- hr,<- hm,<- hfo] at this
  exact ⟨hc.c12,blk hb rfl,this⟩
 obtain ⟨mt,mx,mp,mn⟩:=m
 simp only at hA
 obtain ⟨bx,hbx⟩:∃ bx,bx = bs mx:=⟨_,rfl⟩
 rw [<- hbx] at hA
 obtain ⟨tx,htx⟩:∃ tx,tx = bs i.name:=⟨_,rfl⟩
 rw [<- htx] at hA
 have HSS:Hid (∀ W,Below (w.heap.size + 1) (w.alloc (Δ #[I J i.kind,Ψ tx,Γ ka kn kc,I J i.pl] 67)) W -> W.cell? ⟨b,12,none⟩ = some (.map (some s.mb)) /\ W.cell? ⟨w.heap.size,1,none⟩ = some (.string tx) /\ (Instr.lookup 70 (.map (some s.mb)) (.string tx) true).run Tryz.prog W = .ok (.tuple #[.agg #[.bool mt,Ψ bx,I J mp,I J mn],.bool found]) W):=fun W hW=>by
  refine hA W (((Below.refl w.heap.size w).alloc (Nat.le_refl _) (Δ #[I J i.kind,Ψ tx,Γ ka kn kc,I J i.pl] 67)).trans ⟨hW.os,hW.tape,hW.output,hW.size,fun q hq=>hW.block q (by omega)⟩) ?_
  rw [hW.block _ (by omega),htx]
  exact heap_alloc_new w _
 have hq:(i.kind == 1) = true:=by rw [beq_iff_eq]; exact hk
 unfold itV
 rw [<- htx]
 clear hA hck hn hr hm hfo hbx htx hk
 go_enter Tryz.func48,Tryz.ntmps48
 go_upto_region 3 with (fail)
 have hs0:(w.alloc (Δ #[I J i.kind,Ψ tx,Γ ka kn kc,I J i.pl] 67)).heap.size = w.heap.size + 1:=by simp
 obtain ⟨w1,hw1⟩:∃ w1,w1 = w.alloc (Δ #[I J i.kind,Ψ tx,Γ ka kn kc,I J i.pl] 67):=⟨_,rfl⟩
 rw [<- hw1] at HSS hs0 ⊢
 have HB1:Hid (∀ W,Below (w.heap.size + 1) w1 W -> Below w.heap.size w W):=fun W hW=>by
  rw [hw1] at hW
  exact ((Below.refl w.heap.size w).alloc (Nat.le_refl _) _).trans ⟨hW.os,hW.tape,hW.output,hW.size,fun q hq=>hW.block q (by omega)⟩
 have hb0:Below (w.heap.size + 1) w1 w1.drew:=by rw [<- hs0]; exact (Below.refl _ _).drew
 clear hw1 hq
 ·have HS0:Hid (w1.drew.cell? ⟨b,12,none⟩ = some (.map (some s.mb)) /\ w1.drew.cell? ⟨w.heap.size,1,none⟩ = some (.string tx) /\ (Instr.lookup 70 (.map (some s.mb)) (.string tx) true).run Tryz.prog w1.drew = .ok (.tuple #[.agg #[.bool mt,Ψ bx,I J mp,I J mn],.bool found]) w1.drew):=HSS.out _ hb0
  refine wp_region_Y (fun j=>[].contains j) (fun W=>W.cell? ⟨b,12,none⟩ = some (.map (some s.mb)) /\ W.cell? ⟨w.heap.size,1,none⟩ = some (.string tx) /\ (Instr.lookup 70 (.map (some s.mb)) (.string tx) true).run Tryz.prog W = .ok (.tuple #[.agg #[.bool mt,Ψ bx,I J mp,I J mn],.bool found]) W) (by kernel_rfl) ?_
  refine tkL (i:=0) 12 (v:=Φ (some ⟨b,0,none⟩)) rfl rfl HS0.out (fun W hW=>by obtain ⟨_,_,_⟩:=hW; go_simp) ?_
  simp only [Act.put,lA,lB,lC]
  refine tkL (i:=1) 13 (v:=Φ (some ⟨b,0,none⟩)) rfl rfl HS0.out (fun W hW=>by obtain ⟨_,_,_⟩:=hW; go_simp) ?_
  simp only [Act.put,lA,lB,lC]
  refine tkL (i:=2) 14 (v:=Φ (some ⟨b,12,none⟩)) rfl rfl HS0.out (fun W hW=>by obtain ⟨_,_,_⟩:=hW; go_simp) ?_
  simp only [Act.put,lA,lB,lC]
  refine tkL (i:=3) 15 (v:=.map (some s.mb)) rfl rfl HS0.out (fun W hW=>by obtain ⟨_,_,_⟩:=hW; go_simp) ?_
  simp only [Act.put,lA,lB,lC]
  refine tkL (i:=4) 16 (v:=Φ (some ⟨w.heap.size,1,none⟩)) rfl rfl HS0.out (fun W hW=>by obtain ⟨_,_,_⟩:=hW; go_simp) ?_
  simp only [Act.put,lA,lB,lC]
  refine tkL (i:=5) 17 (v:=.string tx) rfl rfl HS0.out (fun W hW=>by obtain ⟨_,_,_⟩:=hW; go_simp) ?_
  simp only [Act.put,lA,lB,lC]
  refine tkL (i:=6) 18 (v:=.tuple #[.agg #[.bool mt,Ψ bx,I J mp,I J mn],.bool found]) rfl rfl HS0.out (fun W hW=>by obtain ⟨_,_,_⟩:=hW; go_simp) ?_
  simp only [Act.put,lA,lB,lC]
  refine tkL (i:=7) 11 (v:=.tuple #[.agg #[.bool mt,Ψ bx,I J mp,I J mn],.bool found]) rfl rfl HS0.out (fun W hW=>by obtain ⟨_,_,_⟩:=hW; go_simp) ?_
  simp only [Act.put,lA,lB,lC]
  refine tkL (i:=8) 19 (v:=.agg #[.bool mt,Ψ bx,I J mp,I J mn]) rfl rfl HS0.out (fun W hW=>by obtain ⟨_,_,_⟩:=hW; go_simp) ?_
  simp only [Act.put,lA,lB,lC]
  refine tkL (i:=9) 20 (v:=.bool found) rfl rfl HS0.out (fun W hW=>by obtain ⟨_,_,_⟩:=hW; go_simp) ?_
  simp only [Act.put,lA,lB,lC]
  refine wpAnyY_one (i:=10) rfl (by kernel_rfl) (fun K hK=>?_)
  refine alloc109_step rfl rfl rfl ?_
  intro V g5 hV hG
  have hbV:Below (w.heap.size + 1) w1 V:=by rw [hV]; exact hb0.alloc (by rw [<- hs0]; exact hb0.size) _
  have hlV:w.heap.size + 1 <= g5:=by rw [hG,<- hs0]; exact hb0.size
  have hhV:V.heap[g5]? = some (Δ (mnL mn0).toArray 109 (0,0)):=by rw [hV,hG]; exact heap_alloc_new _ _
  refine hK.out _ _ (fun _=>HSS.out _ hbV) ?_
  clear hK K HS0 hb0 hV hG
  simp only [Act.put,lA,lB,lC]
  refine wpAnyY_one (i:=11) rfl (by kernel_rfl) (fun K hK=>?_)
  refine store109_step rfl rfl rfl rfl rfl hhV ?_
  intro V2 hV2
  have hbV2:Below (w.heap.size + 1) w1 V2:=by rw [hV2]; exact below_put (below_put (below_put (below_put hbV hlV _ _) hlV _ _) hlV _ _) hlV _ _
  refine hK.out _ _ (fun _=>HSS.out _ hbV2) ?_
  clear hK K hV2 hhV hbV
  have HS0:Hid (V2.cell? ⟨b,12,none⟩ = some (.map (some s.mb)) /\ V2.cell? ⟨w.heap.size,1,none⟩ = some (.string tx) /\ (Instr.lookup 70 (.map (some s.mb)) (.string tx) true).run Tryz.prog V2 = .ok (.tuple #[.agg #[.bool mt,Ψ bx,I J mp,I J mn],.bool found]) V2):=HSS.out _ hbV2
  refine tkL (i:=12) 6 (v:=.bool found) rfl rfl HS0.out (fun W hW=>by obtain ⟨_,_,_⟩:=hW; go_simp) ?_
  simp only [Act.put,lA,lB,lC]
  refine wpAnyY_done (by kernel_rfl) ?_ _
  go_wp2
  go_ret
  exact ⟨rfl,HB1.out _ hbV2⟩
theorem twice_calls {O:Nat -> Prop} {b:Nat} {s:Sl} {c:Ck} (i:It) (ka:Option Addr) (kn kc:Nat) (w:World) (hck:CkAt O b s c w) (hk1:1 <= i.kind) (hk2:i.kind <= 10) (hn:i.name.length <= maxLen) :
 Calls Tryz.prog 48 #[Φ (some ⟨b,0,none⟩),itV i ka kn kc] w fun e w'=>e = Ω (.bool (twiceB c i)) /\ Below w.heap.size w w':=by
 by_cases h1:i.kind = 1
 ·unfold twiceB
  rw [if_pos h1]
  exact twice_let i ka kn kc w hck h1 hn
 ·by_cases h56:i.kind = 5 \/ i.kind = 6
  ·unfold twiceB
   rw [if_neg h1,if_pos h56]
   have hq1:(i.kind == 1) = false:=by rw [beq_eq_false_iff_ne]; exact h1
   have HB:Hid (∀ o,Below w.heap.size w (w.alloc o)):=fun o=>(Below.refl _ _).alloc (Nat.le_refl _) o
   unfold itV
   rcases h56 with h5 | h6
   ·have hq5:(i.kind == 5) = true:=by rw [beq_iff_eq]; exact h5
    clear hck hk1 hk2 hn h1 h5
    go_enter Tryz.func48,Tryz.ntmps48
    go_wp2
    go_ret
    exact ⟨rfl,HB.out _⟩
   ·have hq5:(i.kind == 5) = false:=by rw [beq_eq_false_iff_ne]; omega
    have hq6:(i.kind == 6) = true:=by rw [beq_iff_eq]; exact h6
    clear hck hk1 hk2 hn h1 h6
    go_enter Tryz.func48,Tryz.ntmps48
    go_wp2
    go_ret
    exact ⟨rfl,HB.out _⟩
  ·unfold twiceB
   rw [if_neg h1,if_neg h56]
   have hq1:(i.kind == 1) = false:=by rw [beq_eq_false_iff_ne]; exact h1
   have hq5:(i.kind == 5) = false:=by rw [beq_eq_false_iff_ne]; exact fun h=>h56 (.inl h)
   have hq6:(i.kind == 6) = false:=by rw [beq_eq_false_iff_ne]; exact fun h=>h56 (.inr h)
   obtain ⟨k,hkk⟩:∃ k:Nat,i.kind = (k:Int):=⟨i.kind.toNat,by omega⟩
   have hcell:w.cell? ⟨b,13 + k,none⟩ = some (.bool (c.had i.kind.toNat)):=by rw [hkk]; exact hck.hadk (by omega)
   have hlt:b < w.heap.size:=hck.lt
   have HB:Hid (∀ o n,Below w.heap.size w ((w.alloc o).drewN n)):=fun o n=>below_dn ((Below.refl _ _).alloc (Nat.le_refl _) o) n
   obtain ⟨hd,hhd⟩:∃ hd,hd = c.had i.kind.toNat:=⟨_,rfl⟩
   rw [<- hhd] at hcell ⊢
   clear hhd
   unfold itV
   have hk0:(0:Int) <= (k:Int):=by omega
   have hk11:(k:Int) < 11:=by omega
   have hk11':k < 11:=by omega
   rw [hkk] at hq1 hq5 hq6
   rw [hkk]
   clear hck hn h1 h56 hkk hk1 hk2
   go_enter Tryz.func48,Tryz.ntmps48
   go_upto_region 8 with (fail)
   go_quiet (fail)
   go_wp2
   go_ret
   exact ⟨rfl,HB.out _ _⟩
end Go.Proofs.YtlaodgdlkkmmeaaGreat
