/-
  A piece of a gap's cost: gap. A name is given: let. How far from the diagonal paths may go: band.
-/
import Derived.Test.YtlaodgdlkkmmeaaGreatG36
namespace Go.Proofs.YtlaodgdlkkmmeaaGreat
open Go.RowKit Go.Deep Go.Maps
open Go.Value renaming int->I,pointer->Φ,string->Ψ,slice->Γ
open Go.IntKind renaming i64->J
open Go.Obj renaming cells->Δ
open Go.Ending renaming returned->Ω
set_option maxRecDepth 20000
set_option maxHeartbeats 4000000
theorem askQ_ok {q:Mn -> Int} {c c':Ck} {h:Hd} {k:Fo} {m:Mn} (hok:CkOk c) (hr:okE h k) (htx:h.text.length <= maxLen) (hs:shortF k) (he:askQ q c (h,k) = .ok (c',m)):CkOk c' /\ MnOk c'.values.length m /\ Sm c c' /\ q m = 0:=by
 unfold askQ at he
 split at he
 ·cases he
 ·rename_i c1 m1 hx
  split at he
  ·rename_i h0
   cases he
   obtain ⟨k1,k2,k3⟩:=askE_ok hok hr htx hs hx
   exact ⟨k1,k2,k3,h0⟩
  ·cases he
theorem costsB_ok {c c':Ck} {h h2:Hd} {k k2:Fo} {p q:Int} (hok:CkOk c) (hr:okE h k) (htx:h.text.length <= maxLen) (hs:shortF k) (hr2:okE h2 k2) (htx2:h2.text.length <= maxLen) (hs2:shortF k2) (he:costsB c (h,k) (h2,k2) = .ok (c',p,q)):CkOk c' /\ Sm c c':=by
 unfold costsB at he
 split at he
 ·cases he
 ·rename_i c1 m1 hx
  split at he
  ·cases he
  ·rename_i c2 m2 hy
   cases he
   obtain ⟨k1,-,k3,-⟩:=askQ_ok hok hr htx hs hx
   obtain ⟨j1,-,j3,-⟩:=askQ_ok k1 hr2 htx2 hs2 hy
   exact ⟨j1,k3.trans j3⟩
theorem info80:(Tryz.prog.info? 80).map (fun i=>(i.zero,i.size,i.bytes)) = some (some (.agg #[I J 0,I J 0]),2,16):=by kernel_rfl
theorem pc_one (p:Int × Int):∀ u ∈ pcCells p,u.oneCell' = true:=by
 intro u hu
 simp [pcCells] at hu
 rcases hu with rfl | rfl <;> rfl
theorem LS.addPc {w W w4:World} {O0 O:Nat -> Prop} {b:Nat} {s0 s:Sl} {c:Ck} {L:List Lo} {d:Int × Int} (h:LS w O0 O b s0 s (some c) L W) (hp:c.pieces.length < 4) {v':Value} (hown:w4.ownsRow 0 80 2 v' (c.pieces.length + 1) (pcRow c.pieces ++ pcCells d)) (hg:W.grownBy w4 s.pv.ownBlock) (hfr:∀ g,v'.ownBlock = some g -> some g = s.pv.ownBlock \/ W.heap.size <= g) :
 w4.cell? ⟨b,3,none⟩ = some s.pv /\ w4.frozen? ⟨b,3,none⟩ = false /\ ∃ O2 s2,LS w O0 O2 b s0 s2 (some { c with pieces:=c.pieces ++ [d] }) L (w4.setCell ⟨b,3,none⟩ v'):=by
 obtain ⟨a1,a2,a3⟩:=h.ck c rfl
 obtain ⟨k1,k2,k3⟩:=a1.addPc hown hg hfr
 have hsz:=h.fr.size
 have hsz4:W.heap.size <= (w4.setCell ⟨b,3,none⟩ v').heap.size:=by have:=hg.size; simpa [World.setCell] using this
 refine ⟨k1,k2,fun g=>(O g \/ W.heap.size <= g) /\ g < (w4.setCell ⟨b,3,none⟩ v').heap.size,{ s with pv:=v' },fun c' hc=>?_,?_,fun g hg2=>?_,fun g hg2=>hg2.2,fun x hx=>?_,h.nd⟩
 ·cases hc
  exact ⟨k3.tight,⟨a2.vals,a2.same,a2.few,a2.names,a2.alpha,a2.sub,by simp; omega⟩,a3⟩
 ·exact (h.fr.grown hg (fun k hk=>h.new k (a1.inP k hk))).setCell (h.new b a1.inB) _ _
 ·rcases hg2.1 with h1 | h1
  ·exact h.new g h1
  ·exact .inr (by omega)
 ·obtain ⟨l1,l2⟩:=h.loc x hx
  refine ⟨⟨heap_other ?_ (fun e=>l1.off (e ▸ a1.inB)),fun hh=>?_⟩,l2⟩
  ·rw [hg.block _ l1.lt (fun e=>l1.off (a1.inP _ e.symm))]; exact l1.heap
  ·rcases hh.1 with h1 | h1
   ·exact l1.off h1
   ·have:=l1.lt; omega
theorem gap_calls {B:Nat} {O:Nat -> Prop} {b:Nat} {s:Sl} {c:Ck} (h:Hd) (k:Fo) (ka:Option Addr) (kn kc:Nat) (h2:Hd) (k2:Fo) (la:Option Addr) (ln lc:Nat) (w:World) (hck:CkAt O b s c w) (hok:CkOk c) (hlow:∀ g,O g -> B <= g) (hB:B <= w.heap.size)
 (hE:ExAt false (fun g=>g < B) w (h,k) ka kn) (hr:okE h k) (hE2:ExAt false (fun g=>g < B) w (h2,k2) la ln) (hr2:okE h2 k2) :
 Calls Tryz.prog 53 #[Φ (some ⟨b,0,none⟩),exV h ka kn kc,exV h2 la ln lc] w (TPost O b w (gapB c (h,k) (h2,k2))):=by
 have hres:Tryz.f53.results = #[.cell 6 32]:=by kernel_rfl
 have hS1:=LS.start3 hck hok h ka kn kc h2 la ln lc
 have hC:∀ O' s' L W,LS w O O' b s s' (some c) L W -> Calls Tryz.prog 94 #[Φ (some ⟨b,0,none⟩),exV h ka kn kc,exV h2 la ln lc] W (CPost O' b W (costsB c (h,k) (h2,k2))):=fun O' s' L W hL=>by
  have hlow':∀ g,O' g -> B <= g:=fun q hq=>by rcases hL.new q hq with h1 | h1; exact hlow q h1; omega
  have hkp:∀ q,q < w.heap.size -> q < B -> W.heap[q]? = w.heap[q]?:=fun q hq hqB=>hL.fr.block q hq (fun ho=>by have:=hlow q ho; omega)
  exact costs_calls h k ka kn kc h2 k2 la ln lc W (hL.ck c rfl).1 hok hlow' (Nat.le_trans hB hL.fr.size) ⟨hE.hd,hE.few,foAt_keep hkp hE.kids⟩ hr ⟨hE2.hd,hE2.few,foAt_keep hkp hE2.kids⟩ hr2
 have hpcs:=hok.pcs
 have hokC:∀ c' p q,costsB c (h,k) (h2,k2) = .ok (c',p,q) -> CkOk c' /\ Sm c c':=fun c' p q he=>costsB_ok hok hr hE.hd.text (foAt_short hE.kids) hr2 hE2.hd.text (foAt_short hE2.kids) he
 obtain ⟨pa,pcap,hpv⟩:=owned_shape hck.pieces
 generalize hO1:(fun g=>O g /\ g < w.heap.size) = O1 at hS1
 clear hO1 hck hok hlow hB hE hr hE2 hr2
 have HS1:=hid hS1
 clear hS1
 unfold exV at hC ⊢
 go_enter Tryz.func53,Tryz.ntmps53
 go_upto_region 1 with (fail)
 generalize (((w.alloc (Δ #[I J h.kind,I J h.num,Ψ (bs h.text),Γ ka kn kc,I J h.pl] 102)).alloc (Δ #[I J h2.kind,I J h2.num,Ψ (bs h2.text),Γ la ln lc,I J h2.pl] 102)).alloc (Δ #[I J 0,I J 0] 32)) = w1 at *
 have x0:w1.cell? ⟨w.heap.size,0,none⟩ = some (I J h.kind):=HS1.out.at (g:=w.heap.size) (cs:=exL h ka kn kc) (ty:=102) (by simp) rfl
 have x1:w1.cell? ⟨w.heap.size,1,none⟩ = some (I J h.num):=HS1.out.at (g:=w.heap.size) (cs:=exL h ka kn kc) (ty:=102) (by simp) rfl
 have x2:w1.cell? ⟨w.heap.size,2,none⟩ = some (Ψ (bs h.text)):=HS1.out.at (g:=w.heap.size) (cs:=exL h ka kn kc) (ty:=102) (by simp) rfl
 have x3:w1.cell? ⟨w.heap.size,3,none⟩ = some (Γ ka kn kc):=HS1.out.at (g:=w.heap.size) (cs:=exL h ka kn kc) (ty:=102) (by simp) rfl
 have x4:w1.cell? ⟨w.heap.size,4,none⟩ = some (I J h.pl):=HS1.out.at (g:=w.heap.size) (cs:=exL h ka kn kc) (ty:=102) (by simp) rfl
 have y0:w1.cell? ⟨w.heap.size + 1,0,none⟩ = some (I J h2.kind):=HS1.out.at (g:=w.heap.size + 1) (cs:=exL h2 la ln lc) (ty:=102) (by simp) rfl
 have y1:w1.cell? ⟨w.heap.size + 1,1,none⟩ = some (I J h2.num):=HS1.out.at (g:=w.heap.size + 1) (cs:=exL h2 la ln lc) (ty:=102) (by simp) rfl
 have y2:w1.cell? ⟨w.heap.size + 1,2,none⟩ = some (Ψ (bs h2.text)):=HS1.out.at (g:=w.heap.size + 1) (cs:=exL h2 la ln lc) (ty:=102) (by simp) rfl
 have y3:w1.cell? ⟨w.heap.size + 1,3,none⟩ = some (Γ la ln lc):=HS1.out.at (g:=w.heap.size + 1) (cs:=exL h2 la ln lc) (ty:=102) (by simp) rfl
 have y4:w1.cell? ⟨w.heap.size + 1,4,none⟩ = some (I J h2.pl):=HS1.out.at (g:=w.heap.size + 1) (cs:=exL h2 la ln lc) (ty:=102) (by simp) rfl
 have HC0:=hC O1 s _ w1 HS1.out
 clear hC
 have b3:w1.cell? ⟨b,3,none⟩ = some (Γ pa c.pieces.length pcap):=by have:=(HS1.out.ck c rfl).1.c3; rw [hpv] at this; exact this
 by_cases hp4:c.pieces.length = 4
 ·have HX:Hid (gapB c (h,k) (h2,k2) = .error (72,c.pl)):=by show _ = _; unfold gapB; rw [if_pos hp4]
  have HW:Hid (Calls Tryz.prog 49 #[Φ (some ⟨b,0,none⟩),I J 72] w1 fun e w'=>e = Ω (.agg #[I J 72,I J c.pl]) /\ Below w1.heap.size w1 w'):=wrongC_calls 72 w1 (HS1.out.ck c rfl).1
  have hq4:((c.pieces.length:Int) == 4) = true:=by rw [beq_iff_eq]; omega
  generalize c.pieces.length = np at *
  generalize c.pl = cpl at *
  clear HC0 hp4 hpv hokC hpcs
  go_wp2_with fail
  refine HW.out.mono ?_
  rintro e w3 ⟨rfl,hb⟩
  have HB:=HS1.out.next hb
  have HB':Hid (LS w O O1 b s s (some c) _ w3):=HB
  have z0:w3.cell? ⟨w.heap.size + 1 + 1,0,none⟩ = some (I J 0):=HB.at (g:=w.heap.size + 1 + 1) (cs:=flL (0,0)) (ty:=32) (by simp) rfl
  have z1:w3.cell? ⟨w.heap.size + 1 + 1,1,none⟩ = some (I J 0):=HB.at (g:=w.heap.size + 1 + 1) (cs:=flL (0,0)) (ty:=32) (by simp) rfl
  have zf:∀ i,w3.frozen? ⟨w.heap.size + 1 + 1,i,none⟩ = false:=fun i=>HB'.out.fz (g:=w.heap.size + 1 + 1) (cs:=flL (0,0)) (ty:=32) (by simp) i
  clear HB hb HW HS1 x0 x1 x2 x3 x4 y0 y1 y2 y3 y4 b3
  go_wp2
  refine bodyPost_ret (v:=flV (72,cpl)) ?_ rfl ?_
  ·simp only [results,hres]
   unfold flV
   simp only
   go_simp
  ·show TPost _ _ _ _ _ _
   rw [HX.out]
   exact ⟨by simp,rfl,(HB'.out.fr.setCell (.inr (by omega)) _ _).setCell (.inr (by omega)) _ _⟩
 have hq4:((c.pieces.length:Int) == 4) = false:=by rw [beq_eq_false_iff_ne]; omega
 cases hl:costsB c (h,k) (h2,k2) with
 | error f=>
   have HL:Hid (Calls Tryz.prog 94 #[Φ (some ⟨b,0,none⟩),.agg #[I J h.kind,I J h.num,Ψ (bs h.text),Γ ka kn kc,I J h.pl],.agg #[I J h2.kind,I J h2.num,Ψ (bs h2.text),Γ la ln lc,I J h2.pl]] w1 fun e w'=>∃ p q,e = Ω (.tuple #[I J p,I J q,.agg #[I J f.1,I J f.2]]) /\ f.1 ≠ 0 /\ Fr O1 w1 w'):=costs_err HC0 hl
   have HX:Hid (gapB c (h,k) (h2,k2) = .error f):=by show _ = _; unfold gapB; rw [if_neg hp4]; simp only [hl]
   clear hl HC0 hp4 hpv hokC hpcs
   generalize c.pieces.length = np at *
   obtain ⟨f1,f2⟩:=f
   simp only at HL
   go_wp2_with fail
   refine HL.out.mono ?_
   rintro e w3 ⟨p,q,rfl,hf,hfr⟩
   have HF:Hid (f1 ≠ 0):=hf
   have hq:(f1 == 0) = false:=by rw [beq_eq_false_iff_ne]; exact hf
   have HB:Hid (LS w O _ b s s none _ w3):=HS1.out.go (O':=O1) (oc':=none) hfr (fun _ h=>.inl h) (fun c hc=>by cases hc)
   clear hf HL x0 x1 x2 x3 x4 y0 y1 y2 y3 y4 b3 HS1 hfr
   have z0:w3.cell? ⟨w.heap.size + 1 + 1,0,none⟩ = some (I J 0):=HB.out.at (g:=w.heap.size + 1 + 1) (cs:=flL (0,0)) (ty:=32) (by simp) rfl
   have z1:w3.cell? ⟨w.heap.size + 1 + 1,1,none⟩ = some (I J 0):=HB.out.at (g:=w.heap.size + 1 + 1) (cs:=flL (0,0)) (ty:=32) (by simp) rfl
   have zf:∀ i,w3.frozen? ⟨w.heap.size + 1 + 1,i,none⟩ = false:=fun i=>HB.out.fz (g:=w.heap.size + 1 + 1) (cs:=flL (0,0)) (ty:=32) (by simp) i
   have hl2:w.heap.size + 1 + 1 < w3.heap.size:=HB.out.lt (g:=w.heap.size + 1 + 1) (cs:=flL (0,0)) (ty:=32) (by simp)
   have hn2:¬ w.heap.size + 1 + 1 = w3.heap.size:=by omega
   go_wp2
   refine bodyPost_ret (v:=flV (f1,f2)) ?_ rfl ?_
   ·simp only [results,hres]
    unfold flV
    simp only
    go_simp
   ·show TPost _ _ _ _ _ _
    rw [HX.out]
    exact ⟨HF.out,rfl,((HB.out.fr.setCell (.inr (by omega)) _ _).setCell (.inr (by omega)) _ _).alloc _⟩
 | ok x=>
   obtain ⟨c',p,q⟩:=x
   have HL:Hid (Calls Tryz.prog 94 #[Φ (some ⟨b,0,none⟩),.agg #[I J h.kind,I J h.num,Ψ (bs h.text),Γ ka kn kc,I J h.pl],.agg #[I J h2.kind,I J h2.num,Ψ (bs h2.text),Γ la ln lc,I J h2.pl]] w1 fun e w'=>e = Ω (.tuple #[I J p,I J q,.agg #[I J 0,I J 0]]) /\ Fr O1 w1 w' /\ ∃ O' s',(∀ g,O' g -> O1 g \/ w1.heap.size <= g) /\ CkAt O' b s' c' w'):=costs_ok HC0 hl
   have HX:Hid (gapB c (h,k) (h2,k2) = .ok { c' with pieces:=c'.pieces ++ [(p,q)] }):=by show _ = _; unfold gapB; rw [if_neg hp4]; simp only [hl]
   obtain ⟨hok',hsm⟩:=hokC c' p q hl
   have HPL:Hid (c'.pieces.length < 4 /\ CkOk c'):=⟨by rw [hsm.pieces]; omega,hok'⟩
   clear hl HC0 hp4 hokC hok' hsm hpcs hpv
   generalize c.pieces.length = np at *
   go_wp2_with fail
   refine HL.out.mono ?_
   rintro e w3 ⟨rfl,hfr,O',s',hO',hck'⟩
   have hLS:=HS1.out.go (s':=s') (oc':=none) hfr hO' (fun c hc=>by cases hc)
   have HN:Hid (LS w O (fun g=>O' g /\ g < w3.heap.size) b s' s' (some c') [(w.heap.size + 1 + 1,flL (0,0),32),(w.heap.size + 1,exL h2 la ln lc,102),(w.heap.size,exL h ka kn kc,102)] w3):=⟨fun c2 hc=>by cases hc; exact ⟨hck'.tight,HPL.out.2,rfl⟩,hLS.fr,hLS.new,hLS.tight,hLS.loc,hLS.nd⟩
   clear HL x0 x1 x2 x3 x4 y0 y1 y2 y3 y4 HS1 hfr hO' hck' b3 hLS
   obtain ⟨pa',pcap',hpv'⟩:=owned_shape (HN.out.ck c' rfl).1.pieces
   obtain ⟨i0,hi,hz0,hz1,hz2⟩:=info_parts info80
   have hlb:b < w3.heap.size:=(HN.out.ck c' rfl).1.lt
   have b3:w3.cell? ⟨b,3,none⟩ = some (Γ pa' c'.pieces.length pcap'):=by have:=(HN.out.ck c' rfl).1.c3; rw [hpv'] at this; exact this
   have hnp:c'.pieces.length < 4:=HPL.out.1
   have HN2:Hid (LS w O (fun g=>O' g /\ g < w3.heap.size) b s' s' (some c') ((w3.heap.size,flL (0,0),32) :: [(w.heap.size + 1 + 1,flL (0,0),32),(w.heap.size + 1,exL h2 la ln lc,102),(w.heap.size,exL h ka kn kc,102)]) (w3.alloc (Δ #[I J 0,I J 0] 32))):=HN.out.alloc (flL (0,0)) 32
   have HJO:Hid (∀ o',((w3.alloc (Δ #[I J 0,I J 0] 32)).alloc o').ownsRow 0 80 2 (Γ pa' c'.pieces.length pcap') c'.pieces.length (pcRow c'.pieces)):=fun o'=>by
    have:=((HN2.out.ck c' rfl).1.alloc o').pieces
    rw [hpv'] at this; exact this
   have HJE:Hid (∀ o' v' w5,w5.ownsRow 0 80 2 v' (c'.pieces.length + 1) (pcRow c'.pieces ++ pcCells (p,q)) -> ((w3.alloc (Δ #[I J 0,I J 0] 32)).alloc o').grownBy w5 (Value.slice pa' c'.pieces.length pcap').ownBlock -> (∀ g,v'.ownBlock = some g -> some g = (Value.slice pa' c'.pieces.length pcap').ownBlock \/ ((w3.alloc (Δ #[I J 0,I J 0] 32)).alloc o').heap.size <= g) ->
    w5.cell? ⟨b,3,none⟩ = some (Γ pa' c'.pieces.length pcap') /\ w5.frozen? ⟨b,3,none⟩ = false /\ Hid (∃ O2 s2,LS w O O2 b s' s2 (some { c' with pieces:=c'.pieces ++ [(p,q)] }) ((w3.heap.size,flL (0,0),32) :: [(w.heap.size + 1 + 1,flL (0,0),32),(w.heap.size + 1,exL h2 la ln lc,102),(w.heap.size,exL h ka kn kc,102)]) (w5.setCell ⟨b,3,none⟩ v'))):=by
    intro o' v' w5 ho hg hfr
    rw [<- hpv'] at hg hfr ⊢
    exact (HN2.out.next ((Below.refl _ _).alloc (Nat.le_refl _) o')).addPc HPL.out.1 ho hg hfr
   have hnew:Hid (∀ o (j:Nat) (u:Value),(pcCells (p,q))[j]? = some u -> ((w3.alloc o).alloc (Δ #[I J p,I J q] 80)).cell? ((⟨w3.heap.size + 1,0,none⟩:Addr).add j) = some u):=fun o=>by
    have:=cells_new (w3.alloc o) (pcCells (p,q)) 80
    rw [show (w3.alloc o).heap.size = w3.heap.size + 1 by simp] at this; exact this
   generalize c'.pieces.length = np' at *
   clear HN HN2 HPL hpv'
   go_upto_region 6 with (first
    | (at_builtin; refine wpList_append_fresh rfl (.tmp 35) (.tmp 39) 27 rfl 0 80 i0 _ 2 16 Tryz.underlying27 hi hz0 hz1 hz2 rfl (by decide) _ _ _ rfl (HJO.out _) ⟨w3.heap.size + 1,0,none⟩ 1 1 (pcCells (p,q)) rfl rfl (hnew.out _) (pc_one _) (by unfold maxLen; omega) (by omega) (Nat.zero_le _) ?_
       intro v' w5 ho hg hfr
       obtain ⟨k1,k2,k3⟩:=HJE.out _ _ _ ho hg hfr
       obtain ⟨ao3,cap3,rfl⟩:=owned_shape ho
       clear ho hg hfr HJE HJO hnew))
   generalize w5.setCell ⟨b,3,none⟩ (Γ ao3 (np' + 1) cap3) = V at *
   obtain ⟨O2,s2,hL2⟩:=k3.out
   have HB:=hid hL2
   clear k1 k2 k3 hL2 b3 hi hz0 hz1 hz2 i0 hlb
   have y0:V.cell? ⟨w3.heap.size,0,none⟩ = some (I J 0):=HB.out.at (g:=w3.heap.size) (cs:=flL (0,0)) (ty:=32) (by simp) rfl
   have y1:V.cell? ⟨w3.heap.size,1,none⟩ = some (I J 0):=HB.out.at (g:=w3.heap.size) (cs:=flL (0,0)) (ty:=32) (by simp) rfl
   have z0:V.cell? ⟨w.heap.size + 1 + 1,0,none⟩ = some (I J 0):=HB.out.at (g:=w.heap.size + 1 + 1) (cs:=flL (0,0)) (ty:=32) (by simp) rfl
   have z1:V.cell? ⟨w.heap.size + 1 + 1,1,none⟩ = some (I J 0):=HB.out.at (g:=w.heap.size + 1 + 1) (cs:=flL (0,0)) (ty:=32) (by simp) rfl
   have zf:∀ i,V.frozen? ⟨w.heap.size + 1 + 1,i,none⟩ = false:=fun i=>HB.out.fz (g:=w.heap.size + 1 + 1) (cs:=flL (0,0)) (ty:=32) (by simp) i
   go_wp2
   refine bodyPost_ret (v:=flV (0,0)) ?_ rfl ?_
   ·simp only [results,hres]
    unfold flV
    simp only
    go_simp
   ·show TPost _ _ _ _ _ _
    rw [HX.out]
    have hoff:=(HB.out.loc (w.heap.size + 1 + 1,flL (0,0),32) (by simp)).1.off
    exact ⟨rfl,(HB.out.fr.setCell (.inr (by omega)) _ _).setCell (.inr (by omega)) _ _,O2,s2,HB.out.new,ck_set (ck_set (HB.out.ck _ rfl).1 hoff _ _) hoff _ _⟩
open Go.Value renaming int->I,pointer->Φ,string->Ψ
set_option maxRecDepth 20000
set_option maxHeartbeats 4000000
def let2 (name:List UInt8):Er (Ck × Mn) -> Er Ck
 | .error f=>.error f
 | .ok (c1,m)=>.ok { c1 with names:=(name,m) :: c1.names }
theorem LS.putName {w W:World} {O0 O:Nat -> Prop} {b:Nat} {s0 s:Sl} {c:Ck} {L:List Lo} (h:LS w O0 O b s0 s (some c) L W) (hn:c.names.length < 1000) (name:List UInt8) (hs:name.length <= maxLen) (m:Mn) (hm:MnOk c.values.length m) :
 ∃ w',(Instr.mapUpdate 70 (.map (some s.mb)) (Ψ (bs name)) (mnV m)).run Tryz.prog W = .ok () w' /\ LS w O0 O b s0 s (some { c with names:=(name,m) :: c.names }) L w':=by
 obtain ⟨a1,a2,a3⟩:=h.ck c rfl
 obtain ⟨w',hrun,hN,hg⟩:=nm_put a1.names hn name hs m
 have hmb:∀ g,g ≠ s.mb -> g < W.heap.size -> w'.heap[g]? = W.heap[g]?:=fun g hne hlt=>hg.block g hlt (fun e=>hne (by cases e; rfl))
 have hb:w'.heap[b]? = W.heap[b]?:=hmb b (fun e=>nm_ne a1.names a1.block e.symm) a1.lt
 refine ⟨w',hrun,fun c' hc=>?_,?_,h.new,fun g hg2=>Nat.lt_of_lt_of_le (h.tight g hg2) hg.size,fun x hx=>?_,h.nd⟩
 ·cases hc
  refine ⟨⟨by rw [hb]; exact a1.block,?_,?_,?_,?_,hN,a1.apart,a1.inB,a1.inD,a1.inS,a1.inP,a1.inV,a1.inM⟩,⟨a2.vals,a2.same,a2.few,fun t m' hl=>?_,a2.alpha,a2.sub,a2.pcs⟩,a3⟩
  ·exact owned_of_block a1.defs fun g _ hv hbk=>hmb g (fun e=>own_nm a1.defs a1.names (e ▸ hv)) (lt_block hbk)
  ·exact owned_of_block a1.subst fun g _ hv hbk=>hmb g (fun e=>own_nm a1.subst a1.names (e ▸ hv)) (lt_block hbk)
  ·exact owned_of_block a1.pieces fun g _ hv hbk=>hmb g (fun e=>own_nm a1.pieces a1.names (e ▸ hv)) (lt_block hbk)
  ·exact owned_of_block a1.values fun g _ hv hbk=>hmb g (fun e=>own_nm a1.values a1.names (e ▸ hv)) (lt_block hbk)
  ·simp only [lookN] at hl
   split at hl
   ·cases hl; exact hm
   ·exact a2.names t m' hl
 ·exact h.fr.grown hg (fun k hk=>by cases hk; exact h.new _ a1.inM)
 ·obtain ⟨l1,l2⟩:=h.loc x hx
  exact ⟨⟨by rw [hmb x.1 (fun e=>l1.off (by rw [e]; exact a1.inM)) l1.lt]; exact l1.heap,l1.off⟩,l2⟩
theorem let_calls {B:Nat} {O:Nat -> Prop} {b:Nat} {s:Sl} {c:Ck} (name:List UInt8) (h:Hd) (k:Fo) (ka:Option Addr) (kn kc:Nat) (w:World) (hck:CkAt O b s c w) (hok:CkOk c) (hlow:∀ g,O g -> B <= g) (hB:B <= w.heap.size)
 (hE:ExAt false (fun g=>g < B) w (h,k) ka kn) (hr:okE h k) (hnm:c.names.length < 1000) (hname:name.length <= maxLen) :
 Calls Tryz.prog 50 #[Φ (some ⟨b,0,none⟩),Ψ (bs name),exV h ka kn kc] w (TPost O b w (letB c name (h,k))):=by
 have hres:Tryz.f50.results = #[.cell 6 32]:=by kernel_rfl
 have hS1:=LS.start2 hck hok h ka kn kc
 have hC:∀ O' s' L W,LS w O O' b s s' (some c) L W -> Calls Tryz.prog 88 #[Φ (some ⟨b,0,none⟩),exV h ka kn kc] W (XPost O' b s' W (askE c (h,k))):=fun O' s' L W hL=>by
  have hlow':∀ g,O' g -> B <= g:=fun q hq=>by rcases hL.new q hq with h1 | h1; exact hlow q h1; omega
  have hkp:∀ q,q < w.heap.size -> q < B -> W.heap[q]? = w.heap[q]?:=fun q hq hqB=>hL.fr.block q hq (fun ho=>by have:=hlow q ho; omega)
  exact exprC_calls h k ka kn kc W (hL.ck c rfl).1 hok hlow' (Nat.le_trans hB hL.fr.size) ⟨hE.hd,hE.few,foAt_keep hkp hE.kids⟩ hr
 have hokE:∀ c' m,askE c (h,k) = .ok (c',m) -> CkOk c' /\ MnOk c'.values.length m /\ Sm c c':=fun c' m he=>askE_ok hok hr hE.hd.text (foAt_short hE.kids) he
 generalize hO1:(fun g=>O g /\ g < w.heap.size) = O1 at hS1
 clear hO1 hck hok hlow hB hE hr
 have HS1:=hid hS1
 clear hS1
 unfold exV at hC ⊢
 obtain ⟨tn,htn⟩:∃ tn,tn = bs name:=⟨_,rfl⟩
 rw [<- htn]
 have HTN:Hid (tn = bs name):=htn
 clear htn
 go_enter Tryz.func50,Tryz.ntmps50
 go_upto_region 1 with (fail)
 generalize ((w.alloc (Δ #[I J h.kind,I J h.num,Ψ (bs h.text),.slice ka kn kc,I J h.pl] 102)).alloc (Δ #[I J 0,I J 0] 32)) = w1 at *
 have x0:w1.cell? ⟨w.heap.size,0,none⟩ = some (I J h.kind):=HS1.out.at (g:=w.heap.size) (cs:=exL h ka kn kc) (ty:=102) (by simp) rfl
 have x1:w1.cell? ⟨w.heap.size,1,none⟩ = some (I J h.num):=HS1.out.at (g:=w.heap.size) (cs:=exL h ka kn kc) (ty:=102) (by simp) rfl
 have x2:w1.cell? ⟨w.heap.size,2,none⟩ = some (Ψ (bs h.text)):=HS1.out.at (g:=w.heap.size) (cs:=exL h ka kn kc) (ty:=102) (by simp) rfl
 have x3:w1.cell? ⟨w.heap.size,3,none⟩ = some (.slice ka kn kc):=HS1.out.at (g:=w.heap.size) (cs:=exL h ka kn kc) (ty:=102) (by simp) rfl
 have x4:w1.cell? ⟨w.heap.size,4,none⟩ = some (I J h.pl):=HS1.out.at (g:=w.heap.size) (cs:=exL h ka kn kc) (ty:=102) (by simp) rfl
 have HC0:=HS1.out.asks (hC O1 s _ w1 HS1.out) (fun c' m hm=>(hokE c' m hm).1)
 obtain ⟨r,hrr⟩:∃ r,r = askE c (h,k):=⟨_,rfl⟩
 rw [<- hrr] at HC0 hokE
 have HC:=hid HC0
 have HX:Hid (letB c name (h,k) = let2 name r):=by show _ = _; rw [hrr]; rfl
 clear hC HC0 HS1 hrr
 generalize bs h.text = tx at *
 go_wp2_with fail
 refine HC.out.mono ?_
 rintro e w3 ⟨m,f,oc,O2,s2,rfl,HR⟩
 clear HC x0 x1 x2 x3 x4
 cases r with
 | error f'=>
   obtain ⟨⟨rfl,hf,rfl,rfl⟩,hL⟩:=HR.out
   have HX2:Hid (letB c name (h,k) = .error f):=HX.out
   have HB:=hid hL
   clear HX HR hL hokE
   obtain ⟨f1,f2⟩:=f
   simp only at hf ⊢
   have HF:Hid (f1 ≠ 0):=hf
   have hq:(f1 == 0) = false:=by rw [beq_eq_false_iff_ne]; exact hf
   clear hf
   have z0:w3.cell? ⟨w.heap.size + 1,0,none⟩ = some (I J 0):=HB.out.at (g:=w.heap.size + 1) (cs:=flL (0,0)) (ty:=32) (by simp) rfl
   have z1:w3.cell? ⟨w.heap.size + 1,1,none⟩ = some (I J 0):=HB.out.at (g:=w.heap.size + 1) (cs:=flL (0,0)) (ty:=32) (by simp) rfl
   have zf:∀ i,w3.frozen? ⟨w.heap.size + 1,i,none⟩ = false:=fun i=>HB.out.fz (g:=w.heap.size + 1) (cs:=flL (0,0)) (ty:=32) (by simp) i
   have hl1:w.heap.size + 1 < w3.heap.size:=HB.out.lt (g:=w.heap.size + 1) (cs:=flL (0,0)) (ty:=32) (by simp)
   have hl0:w.heap.size < w3.heap.size:=by omega
   have hn1:¬ w.heap.size + 1 = w3.heap.size:=by omega
   have hn2:¬ w.heap.size = w3.heap.size:=by omega
   go_wp2
   refine bodyPost_ret (v:=flV (f1,f2)) ?_ rfl ?_
   ·simp only [results,hres]
    unfold flV
    simp only
    go_simp
   ·show TPost _ _ _ _ _ _
    rw [HX2.out]
    exact ⟨HF.out,rfl,(((HB.out.fr.setCell (.inr (by omega)) _ _).setCell (.inr (by omega)) _ _).alloc _).alloc _⟩
 | ok x=>
   obtain ⟨c1,m'⟩:=x
   obtain ⟨⟨rfl,rfl,rfl⟩,hL⟩:=HR.out
   obtain ⟨k1,k2,k3⟩:=hokE c1 m rfl
   have HX2:Hid (letB c name (h,k) = .ok { c1 with names:=(name,m) :: c1.names }):=HX.out
   have hnm1:c1.names.length < 1000:=by rw [k3.names]; exact hnm
   have HV:Hid (LS w O O2 b s s2 (some c1) ((w3.heap.size + 1,flL (0,0),32) :: (w3.heap.size,mnL m,109) :: [(w.heap.size + 1,flL (0,0),32),(w.heap.size,exL h ka kn kc,102)]) ((w3.alloc (Δ #[.bool m.isText,Ψ (bs m.text),I J m.place,I J m.num] 109)).alloc (Δ #[I J 0,I J 0] 32))):=by
    have h1:=(hL.alloc (mnL m) 109).alloc (flL (0,0)) 32
    rw [show (w3.alloc (Δ (mnL m).toArray 109)).heap.size = w3.heap.size + 1 by simp] at h1
    exact h1
   have HPN:Hid (∀ W,LS w O O2 b s s2 (some c1) ((w3.heap.size + 1,flL (0,0),32) :: (w3.heap.size,mnL m,109) :: [(w.heap.size + 1,flL (0,0),32),(w.heap.size,exL h ka kn kc,102)]) W -> ∃ w',(Instr.mapUpdate 70 (.map (some s2.mb)) (.string tn) (.agg #[.bool m.isText,Ψ (bs m.text),I J m.place,I J m.num])).run Tryz.prog W = .ok () w' /\ LS w O O2 b s s2 (some { c1 with names:=(name,m) :: c1.names }) ((w3.heap.size + 1,flL (0,0),32) :: (w3.heap.size,mnL m,109) :: [(w.heap.size + 1,flL (0,0),32),(w.heap.size,exL h ka kn kc,102)]) w'):=fun W hW=>by
    rw [HTN.out]
    exact hW.putName hnm1 name hname m k2
   have HSS:Hid (∀ W,LS w O O2 b s s2 (some c1) ((w3.heap.size + 1,flL (0,0),32) :: (w3.heap.size,mnL m,109) :: [(w.heap.size + 1,flL (0,0),32),(w.heap.size,exL h ka kn kc,102)]) W -> W.cell? ⟨b,12,none⟩ = some (.map (some s2.mb)) /\ W.cell? ⟨w3.heap.size,0,none⟩ = some (.bool m.isText) /\ W.cell? ⟨w3.heap.size,1,none⟩ = some (Ψ (bs m.text)) /\ W.cell? ⟨w3.heap.size,2,none⟩ = some (I J m.place) /\ W.cell? ⟨w3.heap.size,3,none⟩ = some (I J m.num)):=fun W hW=>
    ⟨(hW.ck c1 rfl).1.c12,hW.at (g:=w3.heap.size) (cs:=mnL m) (ty:=109) (by simp) rfl,hW.at (g:=w3.heap.size) (cs:=mnL m) (ty:=109) (by simp) rfl,hW.at (g:=w3.heap.size) (cs:=mnL m) (ty:=109) (by simp) rfl,hW.at (g:=w3.heap.size) (cs:=mnL m) (ty:=109) (by simp) rfl⟩
   clear HX HR hL hokE k1 k2 k3 hnm1
   obtain ⟨mt,mx,mp,mn⟩:=m
   simp only at HV HPN HSS ⊢
   generalize bs mx = bx at *
   go_upto_region 3 with (fail)
   generalize ((w3.alloc (Δ #[.bool mt,Ψ bx,I J mp,I J mn] 109)).alloc (Δ #[I J 0,I J 0] 32)) = V at *
   have HV1:=hid (HV.out.drew)
   have HS0:Hid (V.drew.cell? ⟨b,12,none⟩ = some (.map (some s2.mb)) /\ V.drew.cell? ⟨w3.heap.size,0,none⟩ = some (.bool mt) /\ V.drew.cell? ⟨w3.heap.size,1,none⟩ = some (.string bx) /\ V.drew.cell? ⟨w3.heap.size,2,none⟩ = some (I J mp) /\ V.drew.cell? ⟨w3.heap.size,3,none⟩ = some (I J mn)):=HSS.out _ HV1.out
   obtain ⟨w5,hrun,hL5⟩:=HPN.out _ HV1.out
   have HL5:=hid hL5
   refine wp_region_Y (fun j=>[6].contains j) (fun W=>W.cell? ⟨b,12,none⟩ = some (.map (some s2.mb)) /\ W.cell? ⟨w3.heap.size,0,none⟩ = some (.bool mt) /\ W.cell? ⟨w3.heap.size,1,none⟩ = some (.string bx) /\ W.cell? ⟨w3.heap.size,2,none⟩ = some (I J mp) /\ W.cell? ⟨w3.heap.size,3,none⟩ = some (I J mn)) (by kernel_rfl) ?_
   refine tkL (i:=0) 18 (v:=Φ (some ⟨b,0,none⟩)) rfl rfl HS0.out (fun W hW=>by obtain ⟨_,_,_,_,_⟩:=hW; go_simp) ?_
   simp only [Act.put,lA,lB,lC]
   refine tkL (i:=1) 19 (v:=Φ (some ⟨b,0,none⟩)) rfl rfl HS0.out (fun W hW=>by obtain ⟨_,_,_,_,_⟩:=hW; go_simp) ?_
   simp only [Act.put,lA,lB,lC]
   refine tkL (i:=2) 20 (v:=Φ (some ⟨b,12,none⟩)) rfl rfl HS0.out (fun W hW=>by obtain ⟨_,_,_,_,_⟩:=hW; go_simp) ?_
   simp only [Act.put,lA,lB,lC]
   refine tkL (i:=3) 21 (v:=.map (some s2.mb)) rfl rfl HS0.out (fun W hW=>by obtain ⟨_,_,_,_,_⟩:=hW; go_simp) ?_
   simp only [Act.put,lA,lB,lC]
   refine tkL (i:=4) 22 (v:=.string tn) rfl rfl HS0.out (fun W hW=>by obtain ⟨_,_,_,_,_⟩:=hW; go_simp) ?_
   simp only [Act.put,lA,lB,lC]
   refine tkL (i:=5) 23 (v:=.agg #[.bool mt,Ψ bx,I J mp,I J mn]) rfl rfl HS0.out (fun W hW=>by obtain ⟨_,_,_,_,_⟩:=hW; go_simp) ?_
   simp only [Act.put,lA,lB,lC]
   refine wpAnyY_one (i:=6) rfl (by kernel_rfl) (fun K hK=>?_)
   go_simp
   refine hK.out _ _ (fun h=>absurd h (by decide)) ?_
   clear hK K HS0 HSS HPN hrun hL5 HV HV1
   refine wpAnyY_done (by kernel_rfl) ?_ _
   have y0:w5.cell? ⟨w3.heap.size + 1,0,none⟩ = some (I J 0):=HL5.out.at (g:=w3.heap.size + 1) (cs:=flL (0,0)) (ty:=32) (by simp) rfl
   have y1:w5.cell? ⟨w3.heap.size + 1,1,none⟩ = some (I J 0):=HL5.out.at (g:=w3.heap.size + 1) (cs:=flL (0,0)) (ty:=32) (by simp) rfl
   have z0:w5.cell? ⟨w.heap.size + 1,0,none⟩ = some (I J 0):=HL5.out.at (g:=w.heap.size + 1) (cs:=flL (0,0)) (ty:=32) (by simp) rfl
   have z1:w5.cell? ⟨w.heap.size + 1,1,none⟩ = some (I J 0):=HL5.out.at (g:=w.heap.size + 1) (cs:=flL (0,0)) (ty:=32) (by simp) rfl
   have zf:∀ i,w5.frozen? ⟨w.heap.size + 1,i,none⟩ = false:=fun i=>HL5.out.fz (g:=w.heap.size + 1) (cs:=flL (0,0)) (ty:=32) (by simp) i
   go_wp2
   refine bodyPost_ret (v:=flV (0,0)) ?_ rfl ?_
   ·simp only [results,hres]
    unfold flV
    simp only
    go_simp
   ·show TPost _ _ _ _ _ _
    rw [HX2.out]
    have hoff:=(HL5.out.loc (w.heap.size + 1,flL (0,0),32) (by simp)).1.off
    exact ⟨rfl,(HL5.out.fr.setCell (.inr (by omega)) _ _).setCell (.inr (by omega)) _ _,O2,s2,HL5.out.new,ck_set (ck_set (HL5.out.ck _ rfl).1 hoff _ _) hoff _ _⟩
set_option maxRecDepth 20000
set_option maxHeartbeats 8000000
theorem LS.putB {w W:World} {O0 O:Nat -> Prop} {b:Nat} {s0 s:Sl} {c c':Ck} {L:List Lo} {i:Nat} {u:Value} (h:LS w O0 O b s0 s (some c) L W) (hc:(ckCells c s).setIfInBounds i u = ckCells c' s) (h1:c'.defs = c.defs) (h2:c'.subst = c.subst) (h3:c'.pieces = c.pieces) (h4:c'.values = c.values) (h5:c'.names = c.names) (hok:CkOk c') :
 LS w O0 O b s0 s (some c') L (W.setCell ⟨b,i,none⟩ u):=by
 obtain ⟨a1,a2,a3⟩:=h.ck c rfl
 refine ⟨fun c2 hc2=>by cases hc2; exact ⟨a1.put hc h1 h2 h3 h4 h5,hok,a3⟩,h.fr.setCell (h.new b a1.inB) i u,h.new,fun g hg=>by have:=h.tight g hg; simpa [World.setCell] using this,fun x hx=>⟨(h.loc x hx).1.other (fun e=>(h.loc x hx).1.off (by rw [e]; exact a1.inB)) i u,(h.loc x hx).2⟩,h.nd⟩
theorem storeI_step {o:Oper} {y:Nat -> Option Bool} {a:Act} {w:World} {K:Act -> World -> Prop} {Q:Exit -> Act -> World -> Prop} {p q g i:Nat} {u:Int} {u0:Value} (h1:o.op = .store 3 (.tmp p) (.tmp q)) (h2:o.dst = none) (h3:o.guard = none)
 (e1:a.tmps[p]?.getD undef = Φ (some ⟨g,i,none⟩)) (e2:a.tmps[q]?.getD undef = I J u) (hc:w.cell? ⟨g,i,none⟩ = some u0) (hf:w.frozen? ⟨g,i,none⟩ = false)
 (h:∀ V,V = w.setCell ⟨g,i,none⟩ (I J u) -> K a V) :
 if Region.wanted o y = true then Oper.wp Tryz.prog o a w K Q else K (a.put o.dst undef) w:=by
 obtain ⟨dst,op,type,pos,after,guard⟩:=o
 simp only at h1 h2 h3
 subst h1 h2 h3
 have:=h _ rfl
 clear h
 go_simp
 exact this
theorem storeB_step {o:Oper} {y:Nat -> Option Bool} {a:Act} {w:World} {K:Act -> World -> Prop} {Q:Exit -> Act -> World -> Prop} {p g i:Nat} {t:Bool} {u0:Value} (h1:o.op = .store 4 (.tmp p) (.const (.bool t))) (h2:o.dst = none) (h3:o.guard = none)
 (e1:a.tmps[p]?.getD undef = Φ (some ⟨g,i,none⟩)) (hc:w.cell? ⟨g,i,none⟩ = some u0) (hf:w.frozen? ⟨g,i,none⟩ = false)
 (h:∀ V,V = w.setCell ⟨g,i,none⟩ (.bool t) -> K a V) :
 if Region.wanted o y = true then Oper.wp Tryz.prog o a w K Q else K (a.put o.dst undef) w:=by
 obtain ⟨dst,op,type,pos,after,guard⟩:=o
 simp only at h1 h2 h3
 subst h1 h2 h3
 have:=h _ rfl
 clear h
 go_simp
 exact this
def band2 (p:Int):Er (Ck × Mn) -> Er Ck
 | .error f=>.error f
 | .ok (c2,m2)=>.ok { c2 with banded:=true,lo:=p,hi:=m2.place }
theorem band_calls {B:Nat} {O:Nat -> Prop} {b:Nat} {s:Sl} {c:Ck} (h:Hd) (k:Fo) (ka:Option Addr) (kn kc:Nat) (h2:Hd) (k2:Fo) (la:Option Addr) (ln lc:Nat) (w:World) (hck:CkAt O b s c w) (hok:CkOk c) (hlow:∀ g,O g -> B <= g) (hB:B <= w.heap.size)
 (hE:ExAt false (fun g=>g < B) w (h,k) ka kn) (hr:okE h k) (hE2:ExAt false (fun g=>g < B) w (h2,k2) la ln) (hr2:okE h2 k2) :
 Calls Tryz.prog 55 #[Φ (some ⟨b,0,none⟩),exV h ka kn kc,exV h2 la ln lc] w (TPost O b w (bandB c (h,k) (h2,k2))):=by
 have hres:Tryz.f55.results = #[.cell 6 32]:=by kernel_rfl
 have hS1:=LS.start3 hck hok h ka kn kc h2 la ln lc
 obtain ⟨r1,hr1⟩:∃ r,r = askQ (numFrom (-72057594037927936)) c (h,k):=⟨_,rfl⟩
 have HA1:Hid (∀ O' s' L W g,LS w O O' b s s' (some c) L W -> (g,[I J (-72057594037927936)],3) ∈ L -> Calls Tryz.prog 89 #[Φ (some ⟨b,0,none⟩),.agg #[I J h.kind,I J h.num,Ψ (bs h.text),Γ ka kn kc,I J h.pl],.func (.func 126) #[] #[Φ (some ⟨g,0,none⟩)]] W fun e w'=>∃ mt mx mp mn f1 f2,e = Ω (.tuple #[.agg #[.bool mt,Ψ mx,I J mp,I J mn],.agg #[I J f1,I J f2]]) /\ Hid (∃ m oc O2 s2,(m.isText = mt /\ bs m.text = mx /\ m.place = mp /\ m.num = mn) /\ RQ r1 m (f1,f2) oc /\ LS w O O2 b s s2 oc L w')):=by
  intro O' s' L W g h1' h2'
  refine (h1'.askNum h k ka kn kc (-72057594037927936) g h2' hlow hB hE hr).mono ?_
  rintro e w' ⟨m,f,oc,O2,s2,rfl,h3⟩
  exact ⟨_,_,_,_,_,_,rfl,m,oc,O2,s2,⟨rfl,rfl,rfl,rfl⟩,by rw [hr1]; exact h3.out.1,h3.out.2⟩
 have HA2:Hid (∀ c1 q1,∀ O' s' L W g,LS w O O' b s s' (some c1) L W -> (g,[I J q1],3) ∈ L -> Calls Tryz.prog 89 #[Φ (some ⟨b,0,none⟩),.agg #[I J h2.kind,I J h2.num,Ψ (bs h2.text),Γ la ln lc,I J h2.pl],.func (.func 126) #[] #[Φ (some ⟨g,0,none⟩)]] W fun e w'=>∃ mt mx mp mn f1 f2,e = Ω (.tuple #[.agg #[.bool mt,Ψ mx,I J mp,I J mn],.agg #[I J f1,I J f2]]) /\ Hid (∃ m oc O2 s2,(m.isText = mt /\ bs m.text = mx /\ m.place = mp /\ m.num = mn) /\ RQ (askQ (numFrom q1) c1 (h2,k2)) m (f1,f2) oc /\ LS w O O2 b s s2 oc L w')):=by
  intro c1 q1 O' s' L W g h1' h2'
  refine (h1'.askNum h2 k2 la ln lc q1 g h2' hlow hB hE2 hr2).mono ?_
  rintro e w' ⟨m,f,oc,O2,s2,rfl,h3⟩
  exact ⟨_,_,_,_,_,_,rfl,m,oc,O2,s2,⟨rfl,rfl,rfl,rfl⟩,h3.out.1,h3.out.2⟩
 have HSS:Hid (∀ O' s' oc L W,LS w O O' b s s' oc L W -> (w.heap.size,exL h ka kn kc,102) ∈ L -> W.cell? ⟨w.heap.size,0,none⟩ = some (I J h.kind) /\ W.cell? ⟨w.heap.size,1,none⟩ = some (I J h.num) /\ W.cell? ⟨w.heap.size,2,none⟩ = some (Ψ (bs h.text)) /\ W.cell? ⟨w.heap.size,3,none⟩ = some (Γ ka kn kc) /\ W.cell? ⟨w.heap.size,4,none⟩ = some (I J h.pl)):=fun O' s' oc L W h1 h2=>⟨h1.at h2 rfl,h1.at h2 rfl,h1.at h2 rfl,h1.at h2 rfl,h1.at h2 rfl⟩
 have HX:Hid (bandB c (h,k) (h2,k2) = match r1 with | .error f=>.error f | .ok (c1,m1)=>band2 m1.place (askQ (numFrom m1.num) c1 (h2,k2))):=by show _ = _; rw [hr1]; rfl
 generalize hO1:(fun g=>O g /\ g < w.heap.size) = O1 at hS1
 clear hO1 hck hok hlow hB hE hr hE2 hr2 hr1
 unfold exV
 have HS1:=hid hS1
 clear hS1
 go_enter Tryz.func55,Tryz.ntmps55
 go_upto_region 1 with (fail)
 generalize (((w.alloc (.cells #[I J h.kind,I J h.num,Ψ (bs h.text),Γ ka kn kc,I J h.pl] 102)).alloc (.cells #[I J h2.kind,I J h2.num,Ψ (bs h2.text),Γ la ln lc,I J h2.pl] 102)).alloc (.cells #[I J 0,I J 0] 32)) = w1 at *
 go_cut [7,8] (fun mv fv wc=>∃ g7 g8 mt mx mp mn f1 f2,mv = Φ (some ⟨g7,0,none⟩) /\ fv = Φ (some ⟨g8,0,none⟩) /\ AR r1 w O b s mt mx mp mn f1 f2 (fun m=>[(g7,mnL m,109),(g8,flL (f1,f2),32),(w.heap.size + 1 + 1,flL (0,0),32),(w.heap.size + 1,exL h2 la ln lc,102),(w.heap.size,exL h ka kn kc,102)]) wc)
 case first=>
  have hy1:EC w.heap.size h ka kn kc w1:=HSS.out _ _ _ _ _ HS1.out (by simp)
  have hy:EC w.heap.size h ka kn kc w1.drew:=hy1
  have hl1:w.heap.size < w1.heap.size:=HS1.out.lt (g:=w.heap.size) (cs:=exL h ka kn kc) (ty:=102) (by simp)
  go_region_held3 (fun W=>W.cell? ⟨w.heap.size,0,none⟩ = some (I J h.kind) /\ W.cell? ⟨w.heap.size,1,none⟩ = some (I J h.num) /\ W.cell? ⟨w.heap.size,2,none⟩ = some (Ψ (bs h.text)) /\ W.cell? ⟨w.heap.size,3,none⟩ = some (Γ ka kn kc) /\ W.cell? ⟨w.heap.size,4,none⟩ = some (I J h.pl)) (first | (with_reducible exact hy) | (with_reducible exact hyV) | (with_reducible exact (hy1.alloc _).drew) | (with_reducible exact ((hy1.alloc _).alloc _).drew) | (with_reducible exact (((hy1.alloc _).alloc _).alloc _).drew) | (with_reducible exact hyV.alloc _) | (with_reducible exact (hyV.alloc _).alloc _) | (with_reducible exact ((((hyV.put (b:=_) (by omega) 0 _).put (b:=_) (by omega) 1 _).put (b:=_) (by omega) 2 _).put (b:=_) (by omega) 3 _)) | (with_reducible exact (((((hyV.put (b:=_) (by omega) 0 _).put (b:=_) (by omega) 1 _).put (b:=_) (by omega) 2 _).put (b:=_) (by omega) 3 _).alloc _)) | (with_reducible exact ((((((hyV.put (b:=_) (by omega) 0 _).put (b:=_) (by omega) 1 _).put (b:=_) (by omega) 2 _).put (b:=_) (by omega) 3 _).put (b:=_) (by omega) 0 _).put (b:=_) (by omega) 1 _)) | (with_reducible exact (((hyV.put (b:=_) (by omega) 0 _).put (b:=_) (by omega) 1 _).alloc _))) (first
   | (go_at_call 95; (with_reducible refine (numberFrom_calls _ _).mono ?_); rintro e V1 ⟨rfl,rfl⟩)
   | (go_at_call 89; (with_reducible refine (HA1.out _ _ _ _ (w1.heap.size) (HS1.out.allocE (g:=w1.heap.size) [I J (-72057594037927936)] 3 rfl (by simp)).drew (by simp)).mono ?_); rintro e V2 ⟨mt,mx,mp,mn,f1,f2,rfl,hV⟩; obtain ⟨m,oc,O2,s2,⟨rfl,rfl,rfl,rfl⟩,hRQ,hLSC⟩:=hV.out; have hyV:EC w.heap.size h ka kn kc V2:=HSS.out _ _ _ _ _ hLSC (by simp); have hl2:w.heap.size < V2.heap.size:=hLSC.lt (g:=w.heap.size) (cs:=exL h ka kn kc) (ty:=102) (by simp))
   | (go_at_call 89; (with_reducible refine (HA1.out _ _ _ _ (w1.heap.size) ((HS1.out.allocE (g:=w1.heap.size) [I J (-72057594037927936)] 3 rfl (by simp)).allocE (g:=w1.heap.size + 1) [I J 0,I J 0] 32 rfl (by simp)).drew (by simp)).mono ?_); rintro e V2 ⟨mt,mx,mp,mn,f1,f2,rfl,hV⟩; obtain ⟨m,oc,O2,s2,⟨rfl,rfl,rfl,rfl⟩,hRQ,hLSCF⟩:=hV.out; have hyV:EC w.heap.size h ka kn kc V2:=HSS.out _ _ _ _ _ hLSCF (by simp); have hl2:w.heap.size < V2.heap.size:=hLSCF.lt (g:=w.heap.size) (cs:=exL h ka kn kc) (ty:=102) (by simp); obtain ⟨lr,nr,or_,r0,r1,rf,ra0,ra1,rg⟩:=hLSCF.fh (g:=w1.heap.size + 1) (by simp))
   | (go_at_call 89; (with_reducible refine (HA1.out _ _ _ _ (w1.heap.size) (((HS1.out.allocE (g:=w1.heap.size) [I J (-72057594037927936)] 3 rfl (by simp)).allocE (g:=w1.heap.size + 1) [I J 0,I J 0] 32 rfl (by simp)).allocE (g:=w1.heap.size + 1 + 1) [.bool false,Ψ ⟨#[]⟩,I J 0,I J 0] 109 rfl (by simp)).drew (by simp)).mono ?_); rintro e V2 ⟨mt,mx,mp,mn,f1,f2,rfl,hV⟩; obtain ⟨m,oc,O2,s2,⟨rfl,rfl,rfl,rfl⟩,hRQ,hLSCFM⟩:=hV.out; have hyV:EC w.heap.size h ka kn kc V2:=HSS.out _ _ _ _ _ hLSCFM (by simp); have hl2:w.heap.size < V2.heap.size:=hLSCFM.lt (g:=w.heap.size) (cs:=exL h ka kn kc) (ty:=102) (by simp); obtain ⟨lq,nq,oq,q0,q1,q2,q3,qf,qa0,qa1,qa2,qa3,qg⟩:=hLSCFM.mh (g:=w1.heap.size + 1 + 1) (by simp); obtain ⟨lr,nr,or_,r0,r1,rf,ra0,ra1,rg⟩:=hLSCFM.fh (g:=w1.heap.size + 1) (by simp))
   | (go_at_call 89; (with_reducible refine (HA1.out _ _ _ _ (w1.heap.size) ((HS1.out.allocE (g:=w1.heap.size) [I J (-72057594037927936)] 3 rfl (by simp)).allocE (g:=w1.heap.size + 1) [.bool false,Ψ ⟨#[]⟩,I J 0,I J 0] 109 rfl (by simp)).drew (by simp)).mono ?_); rintro e V2 ⟨mt,mx,mp,mn,f1,f2,rfl,hV⟩; obtain ⟨m,oc,O2,s2,⟨rfl,rfl,rfl,rfl⟩,hRQ,hLSCM⟩:=hV.out; have hyV:EC w.heap.size h ka kn kc V2:=HSS.out _ _ _ _ _ hLSCM (by simp); have hl2:w.heap.size < V2.heap.size:=hLSCM.lt (g:=w.heap.size) (cs:=exL h ka kn kc) (ty:=102) (by simp); obtain ⟨lq,nq,oq,q0,q1,q2,q3,qf,qa0,qa1,qa2,qa3,qg⟩:=hLSCM.mh (g:=w1.heap.size + 1) (by simp))
   | (go_at_call 89; (with_reducible refine (HA1.out _ _ _ _ (w1.heap.size) (((HS1.out.allocE (g:=w1.heap.size) [I J (-72057594037927936)] 3 rfl (by simp)).allocE (g:=w1.heap.size + 1) [.bool false,Ψ ⟨#[]⟩,I J 0,I J 0] 109 rfl (by simp)).allocE (g:=w1.heap.size + 1 + 1) [I J 0,I J 0] 32 rfl (by simp)).drew (by simp)).mono ?_); rintro e V2 ⟨mt,mx,mp,mn,f1,f2,rfl,hV⟩; obtain ⟨m,oc,O2,s2,⟨rfl,rfl,rfl,rfl⟩,hRQ,hLSCMF⟩:=hV.out; have hyV:EC w.heap.size h ka kn kc V2:=HSS.out _ _ _ _ _ hLSCMF (by simp); have hl2:w.heap.size < V2.heap.size:=hLSCMF.lt (g:=w.heap.size) (cs:=exL h ka kn kc) (ty:=102) (by simp); obtain ⟨lq,nq,oq,q0,q1,q2,q3,qf,qa0,qa1,qa2,qa3,qg⟩:=hLSCMF.mh (g:=w1.heap.size + 1) (by simp); obtain ⟨lr,nr,or_,r0,r1,rf,ra0,ra1,rg⟩:=hLSCMF.fh (g:=w1.heap.size + 1 + 1) (by simp))
   | (go_at_call 89; (with_reducible refine (HA1.out _ _ _ _ (w1.heap.size + 1) ((HS1.out.allocE (g:=w1.heap.size) [I J 0,I J 0] 32 rfl (by simp)).allocE (g:=w1.heap.size + 1) [I J (-72057594037927936)] 3 rfl (by simp)).drew (by simp)).mono ?_); rintro e V2 ⟨mt,mx,mp,mn,f1,f2,rfl,hV⟩; obtain ⟨m,oc,O2,s2,⟨rfl,rfl,rfl,rfl⟩,hRQ,hLSFC⟩:=hV.out; have hyV:EC w.heap.size h ka kn kc V2:=HSS.out _ _ _ _ _ hLSFC (by simp); have hl2:w.heap.size < V2.heap.size:=hLSFC.lt (g:=w.heap.size) (cs:=exL h ka kn kc) (ty:=102) (by simp); obtain ⟨lr,nr,or_,r0,r1,rf,ra0,ra1,rg⟩:=hLSFC.fh (g:=w1.heap.size) (by simp))
   | (go_at_call 89; (with_reducible refine (HA1.out _ _ _ _ (w1.heap.size + 1) (((HS1.out.allocE (g:=w1.heap.size) [I J 0,I J 0] 32 rfl (by simp)).allocE (g:=w1.heap.size + 1) [I J (-72057594037927936)] 3 rfl (by simp)).allocE (g:=w1.heap.size + 1 + 1) [.bool false,Ψ ⟨#[]⟩,I J 0,I J 0] 109 rfl (by simp)).drew (by simp)).mono ?_); rintro e V2 ⟨mt,mx,mp,mn,f1,f2,rfl,hV⟩; obtain ⟨m,oc,O2,s2,⟨rfl,rfl,rfl,rfl⟩,hRQ,hLSFCM⟩:=hV.out; have hyV:EC w.heap.size h ka kn kc V2:=HSS.out _ _ _ _ _ hLSFCM (by simp); have hl2:w.heap.size < V2.heap.size:=hLSFCM.lt (g:=w.heap.size) (cs:=exL h ka kn kc) (ty:=102) (by simp); obtain ⟨lq,nq,oq,q0,q1,q2,q3,qf,qa0,qa1,qa2,qa3,qg⟩:=hLSFCM.mh (g:=w1.heap.size + 1 + 1) (by simp); obtain ⟨lr,nr,or_,r0,r1,rf,ra0,ra1,rg⟩:=hLSFCM.fh (g:=w1.heap.size) (by simp))
   | (go_at_call 89; (with_reducible refine (HA1.out _ _ _ _ (w1.heap.size + 1 + 1) (((HS1.out.allocE (g:=w1.heap.size) [I J 0,I J 0] 32 rfl (by simp)).allocE (g:=w1.heap.size + 1) [.bool false,Ψ ⟨#[]⟩,I J 0,I J 0] 109 rfl (by simp)).allocE (g:=w1.heap.size + 1 + 1) [I J (-72057594037927936)] 3 rfl (by simp)).drew (by simp)).mono ?_); rintro e V2 ⟨mt,mx,mp,mn,f1,f2,rfl,hV⟩; obtain ⟨m,oc,O2,s2,⟨rfl,rfl,rfl,rfl⟩,hRQ,hLSFMC⟩:=hV.out; have hyV:EC w.heap.size h ka kn kc V2:=HSS.out _ _ _ _ _ hLSFMC (by simp); have hl2:w.heap.size < V2.heap.size:=hLSFMC.lt (g:=w.heap.size) (cs:=exL h ka kn kc) (ty:=102) (by simp); obtain ⟨lq,nq,oq,q0,q1,q2,q3,qf,qa0,qa1,qa2,qa3,qg⟩:=hLSFMC.mh (g:=w1.heap.size + 1) (by simp); obtain ⟨lr,nr,or_,r0,r1,rf,ra0,ra1,rg⟩:=hLSFMC.fh (g:=w1.heap.size) (by simp))
   | (go_at_call 89; (with_reducible refine (HA1.out _ _ _ _ (w1.heap.size + 1) ((HS1.out.allocE (g:=w1.heap.size) [.bool false,Ψ ⟨#[]⟩,I J 0,I J 0] 109 rfl (by simp)).allocE (g:=w1.heap.size + 1) [I J (-72057594037927936)] 3 rfl (by simp)).drew (by simp)).mono ?_); rintro e V2 ⟨mt,mx,mp,mn,f1,f2,rfl,hV⟩; obtain ⟨m,oc,O2,s2,⟨rfl,rfl,rfl,rfl⟩,hRQ,hLSMC⟩:=hV.out; have hyV:EC w.heap.size h ka kn kc V2:=HSS.out _ _ _ _ _ hLSMC (by simp); have hl2:w.heap.size < V2.heap.size:=hLSMC.lt (g:=w.heap.size) (cs:=exL h ka kn kc) (ty:=102) (by simp); obtain ⟨lq,nq,oq,q0,q1,q2,q3,qf,qa0,qa1,qa2,qa3,qg⟩:=hLSMC.mh (g:=w1.heap.size) (by simp))
   | (go_at_call 89; (with_reducible refine (HA1.out _ _ _ _ (w1.heap.size + 1) (((HS1.out.allocE (g:=w1.heap.size) [.bool false,Ψ ⟨#[]⟩,I J 0,I J 0] 109 rfl (by simp)).allocE (g:=w1.heap.size + 1) [I J (-72057594037927936)] 3 rfl (by simp)).allocE (g:=w1.heap.size + 1 + 1) [I J 0,I J 0] 32 rfl (by simp)).drew (by simp)).mono ?_); rintro e V2 ⟨mt,mx,mp,mn,f1,f2,rfl,hV⟩; obtain ⟨m,oc,O2,s2,⟨rfl,rfl,rfl,rfl⟩,hRQ,hLSMCF⟩:=hV.out; have hyV:EC w.heap.size h ka kn kc V2:=HSS.out _ _ _ _ _ hLSMCF (by simp); have hl2:w.heap.size < V2.heap.size:=hLSMCF.lt (g:=w.heap.size) (cs:=exL h ka kn kc) (ty:=102) (by simp); obtain ⟨lq,nq,oq,q0,q1,q2,q3,qf,qa0,qa1,qa2,qa3,qg⟩:=hLSMCF.mh (g:=w1.heap.size) (by simp); obtain ⟨lr,nr,or_,r0,r1,rf,ra0,ra1,rg⟩:=hLSMCF.fh (g:=w1.heap.size + 1 + 1) (by simp))
   | (go_at_call 89; (with_reducible refine (HA1.out _ _ _ _ (w1.heap.size + 1 + 1) (((HS1.out.allocE (g:=w1.heap.size) [.bool false,Ψ ⟨#[]⟩,I J 0,I J 0] 109 rfl (by simp)).allocE (g:=w1.heap.size + 1) [I J 0,I J 0] 32 rfl (by simp)).allocE (g:=w1.heap.size + 1 + 1) [I J (-72057594037927936)] 3 rfl (by simp)).drew (by simp)).mono ?_); rintro e V2 ⟨mt,mx,mp,mn,f1,f2,rfl,hV⟩; obtain ⟨m,oc,O2,s2,⟨rfl,rfl,rfl,rfl⟩,hRQ,hLSMFC⟩:=hV.out; have hyV:EC w.heap.size h ka kn kc V2:=HSS.out _ _ _ _ _ hLSMFC (by simp); have hl2:w.heap.size < V2.heap.size:=hLSMFC.lt (g:=w.heap.size) (cs:=exL h ka kn kc) (ty:=102) (by simp); obtain ⟨lq,nq,oq,q0,q1,q2,q3,qf,qa0,qa1,qa2,qa3,qg⟩:=hLSMFC.mh (g:=w1.heap.size) (by simp); obtain ⟨lr,nr,or_,r0,r1,rf,ra0,ra1,rg⟩:=hLSMFC.fh (g:=w1.heap.size + 1) (by simp)))
  all_goals (go_wp2_with fail; go_meet)
  all_goals (first
   | (have hf:=((((hLSMFC.front (L1:=[_,_]) rfl).store109 m rfl rfl).front (L1:=[_,_]) rfl).store32 (f0:=(0,0)) (f1,f2) rfl); refine ⟨w1.heap.size,w1.heap.size + 1,m.isText,bs m.text,m.place,m.num,f1,f2,rfl,rfl,?_⟩; unfold AR; refine ⟨m,oc,O2,s2,⟨hRQ,rfl,rfl,rfl,rfl⟩,?_⟩; have hg:=hf.sub (L':=[(w1.heap.size,mnL m,109),(w1.heap.size + 1,flL (f1,f2),32),(w.heap.size + 1 + 1,flL (0,0),32),(w.heap.size + 1,exL h2 la ln lc,102),(w.heap.size,exL h ka kn kc,102)]) (by simp [mnL,flL]) (by have:=hf.nd; simp at this ⊢; omega); with_reducible exact hg)
   | (have hf:=((((hLSMCF.front (L1:=[_,_]) rfl).store109 m rfl rfl).front (L1:=[_]) rfl).store32 (f0:=(0,0)) (f1,f2) rfl); refine ⟨w1.heap.size,w1.heap.size + 1 + 1,m.isText,bs m.text,m.place,m.num,f1,f2,rfl,rfl,?_⟩; unfold AR; refine ⟨m,oc,O2,s2,⟨hRQ,rfl,rfl,rfl,rfl⟩,?_⟩; have hg:=hf.sub (L':=[(w1.heap.size,mnL m,109),(w1.heap.size + 1 + 1,flL (f1,f2),32),(w.heap.size + 1 + 1,flL (0,0),32),(w.heap.size + 1,exL h2 la ln lc,102),(w.heap.size,exL h ka kn kc,102)]) (by simp [mnL,flL]) (by have:=hf.nd; simp at this ⊢; omega); with_reducible exact hg)
   | (have hf:=(((hLSMC.front (L1:=[_]) rfl).store109 m rfl rfl).allocE (g:=V2.heap.size) [I J f1,I J f2] 32 rfl (by simp)); refine ⟨w1.heap.size,V2.heap.size,m.isText,bs m.text,m.place,m.num,f1,f2,rfl,rfl,?_⟩; unfold AR; refine ⟨m,oc,O2,s2,⟨hRQ,rfl,rfl,rfl,rfl⟩,?_⟩; have hg:=hf.sub (L':=[(w1.heap.size,mnL m,109),(V2.heap.size,flL (f1,f2),32),(w.heap.size + 1 + 1,flL (0,0),32),(w.heap.size + 1,exL h2 la ln lc,102),(w.heap.size,exL h ka kn kc,102)]) (by simp [mnL,flL]) (by have:=hf.nd; simp at this ⊢; omega); with_reducible exact hg)
   | (have hf:=((((hLSFMC.front (L1:=[_]) rfl).store109 m rfl rfl).front (L1:=[_,_]) rfl).store32 (f0:=(0,0)) (f1,f2) rfl); refine ⟨w1.heap.size + 1,w1.heap.size,m.isText,bs m.text,m.place,m.num,f1,f2,rfl,rfl,?_⟩; unfold AR; refine ⟨m,oc,O2,s2,⟨hRQ,rfl,rfl,rfl,rfl⟩,?_⟩; have hg:=hf.sub (L':=[(w1.heap.size + 1,mnL m,109),(w1.heap.size,flL (f1,f2),32),(w.heap.size + 1 + 1,flL (0,0),32),(w.heap.size + 1,exL h2 la ln lc,102),(w.heap.size,exL h ka kn kc,102)]) (by simp [mnL,flL]) (by have:=hf.nd; simp at this ⊢; omega); with_reducible exact hg)
   | (have hf:=(((hLSFCM.store109 m rfl rfl).front (L1:=[_,_]) rfl).store32 (f0:=(0,0)) (f1,f2) rfl); refine ⟨w1.heap.size + 1 + 1,w1.heap.size,m.isText,bs m.text,m.place,m.num,f1,f2,rfl,rfl,?_⟩; unfold AR; refine ⟨m,oc,O2,s2,⟨hRQ,rfl,rfl,rfl,rfl⟩,?_⟩; have hg:=hf.sub (L':=[(w1.heap.size + 1 + 1,mnL m,109),(w1.heap.size,flL (f1,f2),32),(w.heap.size + 1 + 1,flL (0,0),32),(w.heap.size + 1,exL h2 la ln lc,102),(w.heap.size,exL h ka kn kc,102)]) (by simp [mnL,flL]) (by have:=hf.nd; simp at this ⊢; omega); with_reducible exact hg)
   | (have hf:=(((hLSFC.front (L1:=[_]) rfl).store32 (f0:=(0,0)) (f1,f2) rfl).allocE (g:=V2.heap.size) [.bool m.isText,Ψ (bs m.text),I J m.place,I J m.num] 109 rfl (by simp)); refine ⟨V2.heap.size,w1.heap.size,m.isText,bs m.text,m.place,m.num,f1,f2,rfl,rfl,?_⟩; unfold AR; refine ⟨m,oc,O2,s2,⟨hRQ,rfl,rfl,rfl,rfl⟩,?_⟩; have hg:=hf.sub (L':=[(V2.heap.size,mnL m,109),(w1.heap.size,flL (f1,f2),32),(w.heap.size + 1 + 1,flL (0,0),32),(w.heap.size + 1,exL h2 la ln lc,102),(w.heap.size,exL h ka kn kc,102)]) (by simp [mnL,flL]) (by have:=hf.nd; simp at this ⊢; omega); with_reducible exact hg)
   | (have hf:=((((hLSCMF.front (L1:=[_]) rfl).store109 m rfl rfl).front (L1:=[_]) rfl).store32 (f0:=(0,0)) (f1,f2) rfl); refine ⟨w1.heap.size + 1,w1.heap.size + 1 + 1,m.isText,bs m.text,m.place,m.num,f1,f2,rfl,rfl,?_⟩; unfold AR; refine ⟨m,oc,O2,s2,⟨hRQ,rfl,rfl,rfl,rfl⟩,?_⟩; have hg:=hf.sub (L':=[(w1.heap.size + 1,mnL m,109),(w1.heap.size + 1 + 1,flL (f1,f2),32),(w.heap.size + 1 + 1,flL (0,0),32),(w.heap.size + 1,exL h2 la ln lc,102),(w.heap.size,exL h ka kn kc,102)]) (by simp [mnL,flL]) (by have:=hf.nd; simp at this ⊢; omega); with_reducible exact hg)
   | (have hf:=((hLSCM.store109 m rfl rfl).allocE (g:=V2.heap.size) [I J f1,I J f2] 32 rfl (by simp)); refine ⟨w1.heap.size + 1,V2.heap.size,m.isText,bs m.text,m.place,m.num,f1,f2,rfl,rfl,?_⟩; unfold AR; refine ⟨m,oc,O2,s2,⟨hRQ,rfl,rfl,rfl,rfl⟩,?_⟩; have hg:=hf.sub (L':=[(w1.heap.size + 1,mnL m,109),(V2.heap.size,flL (f1,f2),32),(w.heap.size + 1 + 1,flL (0,0),32),(w.heap.size + 1,exL h2 la ln lc,102),(w.heap.size,exL h ka kn kc,102)]) (by simp [mnL,flL]) (by have:=hf.nd; simp at this ⊢; omega); with_reducible exact hg)
   | (have hf:=(((hLSCFM.store109 m rfl rfl).front (L1:=[_]) rfl).store32 (f0:=(0,0)) (f1,f2) rfl); refine ⟨w1.heap.size + 1 + 1,w1.heap.size + 1,m.isText,bs m.text,m.place,m.num,f1,f2,rfl,rfl,?_⟩; unfold AR; refine ⟨m,oc,O2,s2,⟨hRQ,rfl,rfl,rfl,rfl⟩,?_⟩; have hg:=hf.sub (L':=[(w1.heap.size + 1 + 1,mnL m,109),(w1.heap.size + 1,flL (f1,f2),32),(w.heap.size + 1 + 1,flL (0,0),32),(w.heap.size + 1,exL h2 la ln lc,102),(w.heap.size,exL h ka kn kc,102)]) (by simp [mnL,flL]) (by have:=hf.nd; simp at this ⊢; omega); with_reducible exact hg)
   | (have hf:=((hLSCF.store32 (f0:=(0,0)) (f1,f2) rfl).allocE (g:=V2.heap.size) [.bool m.isText,Ψ (bs m.text),I J m.place,I J m.num] 109 rfl (by simp)); refine ⟨V2.heap.size,w1.heap.size + 1,m.isText,bs m.text,m.place,m.num,f1,f2,rfl,rfl,?_⟩; unfold AR; refine ⟨m,oc,O2,s2,⟨hRQ,rfl,rfl,rfl,rfl⟩,?_⟩; have hg:=hf.sub (L':=[(V2.heap.size,mnL m,109),(w1.heap.size + 1,flL (f1,f2),32),(w.heap.size + 1 + 1,flL (0,0),32),(w.heap.size + 1,exL h2 la ln lc,102),(w.heap.size,exL h ka kn kc,102)]) (by simp [mnL,flL]) (by have:=hf.nd; simp at this ⊢; omega); with_reducible exact hg)
   | (have hf:=((hLSC.allocE (g:=V2.heap.size) [.bool m.isText,Ψ (bs m.text),I J m.place,I J m.num] 109 rfl (by simp)).allocE (g:=V2.heap.size + 1) [I J f1,I J f2] 32 rfl (by simp)); refine ⟨V2.heap.size,V2.heap.size + 1,m.isText,bs m.text,m.place,m.num,f1,f2,rfl,rfl,?_⟩; unfold AR; refine ⟨m,oc,O2,s2,⟨hRQ,rfl,rfl,rfl,rfl⟩,?_⟩; have hg:=hf.sub (L':=[(V2.heap.size,mnL m,109),(V2.heap.size + 1,flL (f1,f2),32),(w.heap.size + 1 + 1,flL (0,0),32),(w.heap.size + 1,exL h2 la ln lc,102),(w.heap.size,exL h ka kn kc,102)]) (by simp [mnL,flL]) (by have:=hf.nd; simp at this ⊢; omega); with_reducible exact hg)
   | (have hf:=((hLSC.allocE (g:=V2.heap.size) [I J f1,I J f2] 32 rfl (by simp)).allocE (g:=V2.heap.size + 1) [.bool m.isText,Ψ (bs m.text),I J m.place,I J m.num] 109 rfl (by simp)); refine ⟨V2.heap.size + 1,V2.heap.size,m.isText,bs m.text,m.place,m.num,f1,f2,rfl,rfl,?_⟩; unfold AR; refine ⟨m,oc,O2,s2,⟨hRQ,rfl,rfl,rfl,rfl⟩,?_⟩; have hg:=hf.sub (L':=[(V2.heap.size + 1,mnL m,109),(V2.heap.size,flL (f1,f2),32),(w.heap.size + 1 + 1,flL (0,0),32),(w.heap.size + 1,exL h2 la ln lc,102),(w.heap.size,exL h ka kn kc,102)]) (by simp [mnL,flL]) (by have:=hf.nd; simp at this ⊢; omega); with_reducible exact hg))
 case rest=>
  obtain ⟨g7,g8,mt,mx,mp,mn,f1,f2,rfl,rfl,m,oc,O2,s2,⟨hRQ,e1,e2,e3,e4⟩,hL⟩:=hcut
  clear HA1 HSS HS1
  cases r1 with
  | error f'=>
    obtain ⟨rfl,hf,-,rfl⟩:=hRQ
    have HX2:Hid (bandB c (h,k) (h2,k2) = .error (f1,f2)):=HX.out
    have HF:Hid (f1 ≠ 0):=hf
    have hq:(f1 == 0) = false:=by rw [beq_eq_false_iff_ne]; exact hf
    have HL:=hid hL
    have y0:wc.cell? ⟨g8,0,none⟩ = some (I J f1):=HL.out.at (g:=g8) (cs:=flL (f1,f2)) (ty:=32) (by simp) rfl
    have y1:wc.cell? ⟨g8,1,none⟩ = some (I J f2):=HL.out.at (g:=g8) (cs:=flL (f1,f2)) (ty:=32) (by simp) rfl
    have z0:wc.cell? ⟨w.heap.size + 1 + 1,0,none⟩ = some (I J 0):=HL.out.at (g:=w.heap.size + 1 + 1) (cs:=flL (0,0)) (ty:=32) (by simp) rfl
    have z1:wc.cell? ⟨w.heap.size + 1 + 1,1,none⟩ = some (I J 0):=HL.out.at (g:=w.heap.size + 1 + 1) (cs:=flL (0,0)) (ty:=32) (by simp) rfl
    have zf:∀ i,wc.frozen? ⟨w.heap.size + 1 + 1,i,none⟩ = false:=fun i=>HL.out.fz (g:=w.heap.size + 1 + 1) (cs:=flL (0,0)) (ty:=32) (by simp) i
    clear HX HA2 hf hL e1 e2 e3 e4
    go_wp2
    refine bodyPost_ret (v:=flV (f1,f2)) ?_ rfl ?_
    ·simp only [results,hres]
     unfold flV
     simp only
     go_simp
    ·show TPost _ _ _ _ _ _
     rw [HX2.out]
     exact ⟨HF.out,rfl,(HL.out.fr.setCell (.inr (by omega)) _ _).setCell (.inr (by omega)) _ _⟩
  | ok x=>
    obtain ⟨c1,m'⟩:=x
    obtain ⟨hf,rfl,rfl⟩:=hRQ
    cases hf
    obtain ⟨r2,hr2⟩:∃ r,r = askQ (numFrom m.num) c1 (h2,k2):=⟨_,rfl⟩
    have HX2:Hid (bandB c (h,k) (h2,k2) = band2 m.place r2):=by show _ = _; rw [hr2]; exact HX.out
    have HL:=hid hL
    obtain ⟨q1,hq1⟩:∃ q,q = m.num:=⟨_,rfl⟩
    have HSS2:Hid (∀ O' s' oc L W,LS w O O' b s s' oc L W -> (w.heap.size + 1,exL h2 la ln lc,102) ∈ L -> (g7,mnL m,109) ∈ L -> W.cell? ⟨w.heap.size + 1,0,none⟩ = some (I J h2.kind) /\ W.cell? ⟨w.heap.size + 1,1,none⟩ = some (I J h2.num) /\ W.cell? ⟨w.heap.size + 1,2,none⟩ = some (Ψ (bs h2.text)) /\ W.cell? ⟨w.heap.size + 1,3,none⟩ = some (Γ la ln lc) /\ W.cell? ⟨w.heap.size + 1,4,none⟩ = some (I J h2.pl) /\ W.cell? ⟨g7,3,none⟩ = some (I J q1)):=fun O' s' oc L W h1 h2 h3=>⟨h1.at h2 rfl,h1.at h2 rfl,h1.at h2 rfl,h1.at h2 rfl,h1.at h2 rfl,by rw [hq1]; exact h1.at h3 rfl⟩
    rw [<- hq1] at hr2
    have HA3:=HA2.out c1 q1
    rw [<- hr2] at HA3
    have HA3':Hid _:=HA3
    have y0:wc.cell? ⟨g8,0,none⟩ = some (I J 0):=HL.out.at (g:=g8) (cs:=flL (0,0)) (ty:=32) (by simp) rfl
    clear HA2 HX hL e1 e2 e3 e4 hr2 hq1
    go_upto_region 4 with (fail)
    clear y0
    have HS0:=hid (HL.out.drew)
    clear HL
    obtain ⟨wd,hwd⟩:∃ wd,wd = wc:=⟨_,rfl⟩
    subst hwd
    go_cut [9] (fun mv wc=>∃ g9 mt mx mp mn f1 f2,mv = Φ (some ⟨g9,0,none⟩) /\ AR r2 w O b s mt mx mp mn f1 f2 (fun m_x=>[(g9,mnL m_x,109),(g7,mnL m,109),(g8,flL (f1,f2),32),(w.heap.size + 1 + 1,flL (0,0),32)]) wc)
    case first=>
     refine wp_region_Y (fun j=>[].contains j) (fun W=>W.cell? ⟨w.heap.size + 1,0,none⟩ = some (I J h2.kind) /\ W.cell? ⟨w.heap.size + 1,1,none⟩ = some (I J h2.num) /\ W.cell? ⟨w.heap.size + 1,2,none⟩ = some (Ψ (bs h2.text)) /\ W.cell? ⟨w.heap.size + 1,3,none⟩ = some (Γ la ln lc) /\ W.cell? ⟨w.heap.size + 1,4,none⟩ = some (I J h2.pl) /\ W.cell? ⟨g7,3,none⟩ = some (I J q1)) (by kernel_rfl) ?_
     refine tkL (i:=0) 22 (v:=Φ (some ⟨b,0,none⟩)) rfl rfl (HSS2.out _ _ _ _ _ HS0.out (by simp) (by simp)) (fun W hW=>by obtain ⟨_,_,_,_,_,_⟩:=hW; go_simp) ?_
     simp only [Act.put,lA,lB,lC]
     refine tkL (i:=1) 23 (v:=.agg #[I J h2.kind,I J h2.num,Ψ (bs h2.text),Γ la ln lc,I J h2.pl]) rfl rfl (HSS2.out _ _ _ _ _ HS0.out (by simp) (by simp)) (fun W hW=>by obtain ⟨_,_,_,_,_,_⟩:=hW; go_simp) ?_
     simp only [Act.put,lA,lB,lC]
     refine tkL (i:=2) 24 (v:=Φ (some ⟨g7,3,none⟩)) rfl rfl (HSS2.out _ _ _ _ _ HS0.out (by simp) (by simp)) (fun W hW=>by obtain ⟨_,_,_,_,_,_⟩:=hW; go_simp) ?_
     simp only [Act.put,lA,lB,lC]
     refine tkL (i:=3) 25 (v:=I J q1) rfl rfl (HSS2.out _ _ _ _ _ HS0.out (by simp) (by simp)) (fun W hW=>by obtain ⟨_,_,_,_,_,_⟩:=hW; go_simp) ?_
     simp only [Act.put,lA,lB,lC]
     refine wpAnyY_two (i:=4) (j:=9) rfl rfl (by kernel_rfl) (fun K hK=>?_) (fun K hK=>?_)
     ·refine call95t_step rfl rfl rfl rfl ?_
      intro V1 gd hV hG
      have HS2:=hid (HS0.out.allocE _ 3 hV hG)
      refine hK.out _ _ (fun _=>HSS2.out _ _ _ _ _ HS2.out (by simp) (by simp)) ?_
      clear hK K HS0 hV hG
      simp only [Act.put,lA,lB,lC]
      refine wpAnyY_two (i:=5) (j:=9) rfl rfl (by kernel_rfl) (fun K hK=>?_) (fun K hK=>?_)
      ·refine call89_step rfl rfl rfl rfl rfl rfl ?_
       refine (HA3'.out _ _ _ _ gd HS2.out (by simp)).mono ?_
       rintro e V3 ⟨mt_x,mx_x,mp_x,mn_x,f1_x,f2_x,rfl,hV⟩
       refine ⟨_,rfl,?_⟩
       obtain ⟨m_x,oc_x,O2_x,s2_x,hm,hRQ,hLS⟩:=hV.out
       have HS4:=hid hLS
       have HR:Hid (RQ r2 m_x (f1_x,f2_x) oc_x /\ m_x.isText = mt_x /\ bs m_x.text = mx_x /\ m_x.place = mp_x /\ m_x.num = mn_x):=⟨hRQ,hm⟩
       refine hK.out _ _ (fun _=>HSS2.out _ _ _ _ _ HS4.out (by simp) (by simp)) ?_
       clear hK K HS2 hV hm hRQ hLS
       simp only [Act.put,lA,lB,lC]
       refine tkL (i:=6) 21 (v:=.tuple #[.agg #[.bool mt_x,Ψ mx_x,I J mp_x,I J mn_x],.agg #[I J f1_x,I J f2_x]]) rfl rfl (HSS2.out _ _ _ _ _ HS4.out (by simp) (by simp)) (fun W hW=>by obtain ⟨_,_,_,_,_,_⟩:=hW; go_simp) ?_
       simp only [Act.put,lA,lB,lC]
       refine tkL (i:=7) 28 (v:=.agg #[.bool mt_x,Ψ mx_x,I J mp_x,I J mn_x]) rfl rfl (HSS2.out _ _ _ _ _ HS4.out (by simp) (by simp)) (fun W hW=>by obtain ⟨_,_,_,_,_,_⟩:=hW; go_simp) ?_
       simp only [Act.put,lA,lB,lC]
       refine tkL (i:=8) 29 (v:=.agg #[I J f1_x,I J f2_x]) rfl rfl (HSS2.out _ _ _ _ _ HS4.out (by simp) (by simp)) (fun W hW=>by obtain ⟨_,_,_,_,_,_⟩:=hW; go_simp) ?_
       simp only [Act.put,lA,lB,lC]
       refine wpAnyY_one (i:=9) rfl (by kernel_rfl) (fun K hK=>?_)
       refine alloc109_step rfl rfl rfl ?_
       intro V5 g9 hV hG
       have HS6:=hid (HS4.out.allocE (mnL mn0) 109 hV hG)
       refine hK.out _ _ (fun _=>HSS2.out _ _ _ _ _ HS6.out (by simp) (by simp)) ?_
       clear hK K HS4 hV hG
       simp only [Act.put,lA,lB,lC]
       refine wpAnyY_one (i:=10) rfl (by kernel_rfl) (fun K hK=>?_)
       have HF9:Hid (LS w O O2_x b s s2_x oc_x [(g9,mnL mn0,109),(gd,[I J q1],3),(g7,mnL m,109),(g8,flL (0,0),32),(w.heap.size + 1 + 1,flL (0,0),32),(w.heap.size + 1,exL h2 la ln lc,102),(w.heap.size,exL h ka kn kc,102)] V5):=HS6.out.front (L1:=[]) (L2:=[(gd,[I J q1],3),(g7,mnL m,109),(g8,flL (0,0),32),(w.heap.size + 1 + 1,flL (0,0),32),(w.heap.size + 1,exL h2 la ln lc,102),(w.heap.size,exL h ka kn kc,102)]) rfl
       refine store109_step rfl rfl rfl rfl rfl (HF9.out.blk (List.mem_cons_self ..)) ?_
       intro V7 hV
       have HS8:Hid (LS w O O2_x b s s2_x oc_x [(g9,mnL m_x,109),(gd,[I J q1],3),(g7,mnL m,109),(g8,flL (0,0),32),(w.heap.size + 1 + 1,flL (0,0),32),(w.heap.size + 1,exL h2 la ln lc,102),(w.heap.size,exL h ka kn kc,102)] V7):=HF9.out.store109 m_x HR.out.2.2.1.symm (by rw [hV,HR.out.2.1,HR.out.2.2.2.1,HR.out.2.2.2.2])
       refine hK.out _ _ (fun _=>HSS2.out _ _ _ _ _ HS8.out (by simp) (by simp)) ?_
       clear hK K HS6 hV HF9
       refine wpAnyY_one (i:=11) rfl (by kernel_rfl) (fun K hK=>?_)
       have HF12:Hid (LS w O O2_x b s s2_x oc_x [(g8,flL (0,0),32),(g9,mnL m_x,109),(gd,[I J q1],3),(g7,mnL m,109),(w.heap.size + 1 + 1,flL (0,0),32),(w.heap.size + 1,exL h2 la ln lc,102),(w.heap.size,exL h ka kn kc,102)] V7):=HS8.out.front (L1:=[(g9,mnL m_x,109),(gd,[I J q1],3),(g7,mnL m,109)]) (L2:=[(w.heap.size + 1 + 1,flL (0,0),32),(w.heap.size + 1,exL h2 la ln lc,102),(w.heap.size,exL h ka kn kc,102)]) rfl
       refine store32_step rfl rfl rfl rfl rfl (HF12.out.blk (List.mem_cons_self ..)) ?_
       intro V10 hV
       have HS11:=hid (HF12.out.store32 (f1_x,f2_x) hV)
       refine hK.out _ _ (fun _=>HSS2.out _ _ _ _ _ HS11.out (by simp) (by simp)) ?_
       clear hK K HS8 hV HF12
       refine wpAnyY_done (by kernel_rfl) ?_ _
       go_wp2_with fail
       go_meet
       exact ⟨g9,mt_x,mx_x,mp_x,mn_x,f1_x,f2_x,rfl,m_x,oc_x,O2_x,s2_x,HR.out,HS11.out.sub (by simp) (by have:=HS11.out.nd; simp at this ⊢; omega)⟩
      ·refine alloc109_step rfl rfl rfl ?_
       intro V13 g9 hV hG
       have HS14:=hid (HS2.out.allocE (mnL mn0) 109 hV hG)
       refine hK.out _ _ (fun _=>HSS2.out _ _ _ _ _ HS14.out (by simp) (by simp)) ?_
       clear hK K HS2 hV hG
       simp only [Act.put,lA,lB,lC]
       refine wpAnyY_one (i:=5) rfl (by kernel_rfl) (fun K hK=>?_)
       refine call89_step rfl rfl rfl rfl rfl rfl ?_
       refine (HA3'.out _ _ _ _ gd HS14.out (by simp)).mono ?_
       rintro e V15 ⟨mt_x,mx_x,mp_x,mn_x,f1_x,f2_x,rfl,hV⟩
       refine ⟨_,rfl,?_⟩
       obtain ⟨m_x,oc_x,O2_x,s2_x,hm,hRQ,hLS⟩:=hV.out
       have HS16:=hid hLS
       have HR:Hid (RQ r2 m_x (f1_x,f2_x) oc_x /\ m_x.isText = mt_x /\ bs m_x.text = mx_x /\ m_x.place = mp_x /\ m_x.num = mn_x):=⟨hRQ,hm⟩
       refine hK.out _ _ (fun _=>HSS2.out _ _ _ _ _ HS16.out (by simp) (by simp)) ?_
       clear hK K HS14 hV hm hRQ hLS
       simp only [Act.put,lA,lB,lC]
       refine tkL (i:=6) 21 (v:=.tuple #[.agg #[.bool mt_x,Ψ mx_x,I J mp_x,I J mn_x],.agg #[I J f1_x,I J f2_x]]) rfl rfl (HSS2.out _ _ _ _ _ HS16.out (by simp) (by simp)) (fun W hW=>by obtain ⟨_,_,_,_,_,_⟩:=hW; go_simp) ?_
       simp only [Act.put,lA,lB,lC]
       refine tkL (i:=7) 28 (v:=.agg #[.bool mt_x,Ψ mx_x,I J mp_x,I J mn_x]) rfl rfl (HSS2.out _ _ _ _ _ HS16.out (by simp) (by simp)) (fun W hW=>by obtain ⟨_,_,_,_,_,_⟩:=hW; go_simp) ?_
       simp only [Act.put,lA,lB,lC]
       refine tkL (i:=8) 29 (v:=.agg #[I J f1_x,I J f2_x]) rfl rfl (HSS2.out _ _ _ _ _ HS16.out (by simp) (by simp)) (fun W hW=>by obtain ⟨_,_,_,_,_,_⟩:=hW; go_simp) ?_
       simp only [Act.put,lA,lB,lC]
       refine wpAnyY_one (i:=10) rfl (by kernel_rfl) (fun K hK=>?_)
       have HF19:Hid (LS w O O2_x b s s2_x oc_x [(g9,mnL mn0,109),(gd,[I J q1],3),(g7,mnL m,109),(g8,flL (0,0),32),(w.heap.size + 1 + 1,flL (0,0),32),(w.heap.size + 1,exL h2 la ln lc,102),(w.heap.size,exL h ka kn kc,102)] V15):=HS16.out.front (L1:=[]) (L2:=[(gd,[I J q1],3),(g7,mnL m,109),(g8,flL (0,0),32),(w.heap.size + 1 + 1,flL (0,0),32),(w.heap.size + 1,exL h2 la ln lc,102),(w.heap.size,exL h ka kn kc,102)]) rfl
       refine store109_step rfl rfl rfl rfl rfl (HF19.out.blk (List.mem_cons_self ..)) ?_
       intro V17 hV
       have HS18:Hid (LS w O O2_x b s s2_x oc_x [(g9,mnL m_x,109),(gd,[I J q1],3),(g7,mnL m,109),(g8,flL (0,0),32),(w.heap.size + 1 + 1,flL (0,0),32),(w.heap.size + 1,exL h2 la ln lc,102),(w.heap.size,exL h ka kn kc,102)] V17):=HF19.out.store109 m_x HR.out.2.2.1.symm (by rw [hV,HR.out.2.1,HR.out.2.2.2.1,HR.out.2.2.2.2])
       refine hK.out _ _ (fun _=>HSS2.out _ _ _ _ _ HS18.out (by simp) (by simp)) ?_
       clear hK K HS16 hV HF19
       refine wpAnyY_one (i:=11) rfl (by kernel_rfl) (fun K hK=>?_)
       have HF22:Hid (LS w O O2_x b s s2_x oc_x [(g8,flL (0,0),32),(g9,mnL m_x,109),(gd,[I J q1],3),(g7,mnL m,109),(w.heap.size + 1 + 1,flL (0,0),32),(w.heap.size + 1,exL h2 la ln lc,102),(w.heap.size,exL h ka kn kc,102)] V17):=HS18.out.front (L1:=[(g9,mnL m_x,109),(gd,[I J q1],3),(g7,mnL m,109)]) (L2:=[(w.heap.size + 1 + 1,flL (0,0),32),(w.heap.size + 1,exL h2 la ln lc,102),(w.heap.size,exL h ka kn kc,102)]) rfl
       refine store32_step rfl rfl rfl rfl rfl (HF22.out.blk (List.mem_cons_self ..)) ?_
       intro V20 hV
       have HS21:=hid (HF22.out.store32 (f1_x,f2_x) hV)
       refine hK.out _ _ (fun _=>HSS2.out _ _ _ _ _ HS21.out (by simp) (by simp)) ?_
       clear hK K HS18 hV HF22
       refine wpAnyY_done (by kernel_rfl) ?_ _
       go_wp2_with fail
       go_meet
       exact ⟨g9,mt_x,mx_x,mp_x,mn_x,f1_x,f2_x,rfl,m_x,oc_x,O2_x,s2_x,HR.out,HS21.out.sub (by simp) (by have:=HS21.out.nd; simp at this ⊢; omega)⟩
     ·refine alloc109_step rfl rfl rfl ?_
      intro V23 g9 hV hG
      have HS24:=hid (HS0.out.allocE (mnL mn0) 109 hV hG)
      refine hK.out _ _ (fun _=>HSS2.out _ _ _ _ _ HS24.out (by simp) (by simp)) ?_
      clear hK K HS0 hV hG
      simp only [Act.put,lA,lB,lC]
      refine wpAnyY_one (i:=4) rfl (by kernel_rfl) (fun K hK=>?_)
      refine call95t_step rfl rfl rfl rfl ?_
      intro V25 gd hV hG
      have HS26:=hid (HS24.out.allocE _ 3 hV hG)
      refine hK.out _ _ (fun _=>HSS2.out _ _ _ _ _ HS26.out (by simp) (by simp)) ?_
      clear hK K HS24 hV hG
      simp only [Act.put,lA,lB,lC]
      refine wpAnyY_one (i:=5) rfl (by kernel_rfl) (fun K hK=>?_)
      refine call89_step rfl rfl rfl rfl rfl rfl ?_
      refine (HA3'.out _ _ _ _ gd HS26.out (by simp)).mono ?_
      rintro e V27 ⟨mt_x,mx_x,mp_x,mn_x,f1_x,f2_x,rfl,hV⟩
      refine ⟨_,rfl,?_⟩
      obtain ⟨m_x,oc_x,O2_x,s2_x,hm,hRQ,hLS⟩:=hV.out
      have HS28:=hid hLS
      have HR:Hid (RQ r2 m_x (f1_x,f2_x) oc_x /\ m_x.isText = mt_x /\ bs m_x.text = mx_x /\ m_x.place = mp_x /\ m_x.num = mn_x):=⟨hRQ,hm⟩
      refine hK.out _ _ (fun _=>HSS2.out _ _ _ _ _ HS28.out (by simp) (by simp)) ?_
      clear hK K HS26 hV hm hRQ hLS
      simp only [Act.put,lA,lB,lC]
      refine tkL (i:=6) 21 (v:=.tuple #[.agg #[.bool mt_x,Ψ mx_x,I J mp_x,I J mn_x],.agg #[I J f1_x,I J f2_x]]) rfl rfl (HSS2.out _ _ _ _ _ HS28.out (by simp) (by simp)) (fun W hW=>by obtain ⟨_,_,_,_,_,_⟩:=hW; go_simp) ?_
      simp only [Act.put,lA,lB,lC]
      refine tkL (i:=7) 28 (v:=.agg #[.bool mt_x,Ψ mx_x,I J mp_x,I J mn_x]) rfl rfl (HSS2.out _ _ _ _ _ HS28.out (by simp) (by simp)) (fun W hW=>by obtain ⟨_,_,_,_,_,_⟩:=hW; go_simp) ?_
      simp only [Act.put,lA,lB,lC]
      refine tkL (i:=8) 29 (v:=.agg #[I J f1_x,I J f2_x]) rfl rfl (HSS2.out _ _ _ _ _ HS28.out (by simp) (by simp)) (fun W hW=>by obtain ⟨_,_,_,_,_,_⟩:=hW; go_simp) ?_
      simp only [Act.put,lA,lB,lC]
      refine wpAnyY_one (i:=10) rfl (by kernel_rfl) (fun K hK=>?_)
      have HF31:Hid (LS w O O2_x b s s2_x oc_x [(g9,mnL mn0,109),(gd,[I J q1],3),(g7,mnL m,109),(g8,flL (0,0),32),(w.heap.size + 1 + 1,flL (0,0),32),(w.heap.size + 1,exL h2 la ln lc,102),(w.heap.size,exL h ka kn kc,102)] V27):=HS28.out.front (L1:=[(gd,[I J q1],3)]) (L2:=[(g7,mnL m,109),(g8,flL (0,0),32),(w.heap.size + 1 + 1,flL (0,0),32),(w.heap.size + 1,exL h2 la ln lc,102),(w.heap.size,exL h ka kn kc,102)]) rfl
      refine store109_step rfl rfl rfl rfl rfl (HF31.out.blk (List.mem_cons_self ..)) ?_
      intro V29 hV
      have HS30:Hid (LS w O O2_x b s s2_x oc_x [(g9,mnL m_x,109),(gd,[I J q1],3),(g7,mnL m,109),(g8,flL (0,0),32),(w.heap.size + 1 + 1,flL (0,0),32),(w.heap.size + 1,exL h2 la ln lc,102),(w.heap.size,exL h ka kn kc,102)] V29):=HF31.out.store109 m_x HR.out.2.2.1.symm (by rw [hV,HR.out.2.1,HR.out.2.2.2.1,HR.out.2.2.2.2])
      refine hK.out _ _ (fun _=>HSS2.out _ _ _ _ _ HS30.out (by simp) (by simp)) ?_
      clear hK K HS28 hV HF31
      refine wpAnyY_one (i:=11) rfl (by kernel_rfl) (fun K hK=>?_)
      have HF34:Hid (LS w O O2_x b s s2_x oc_x [(g8,flL (0,0),32),(g9,mnL m_x,109),(gd,[I J q1],3),(g7,mnL m,109),(w.heap.size + 1 + 1,flL (0,0),32),(w.heap.size + 1,exL h2 la ln lc,102),(w.heap.size,exL h ka kn kc,102)] V29):=HS30.out.front (L1:=[(g9,mnL m_x,109),(gd,[I J q1],3),(g7,mnL m,109)]) (L2:=[(w.heap.size + 1 + 1,flL (0,0),32),(w.heap.size + 1,exL h2 la ln lc,102),(w.heap.size,exL h ka kn kc,102)]) rfl
      refine store32_step rfl rfl rfl rfl rfl (HF34.out.blk (List.mem_cons_self ..)) ?_
      intro V32 hV
      have HS33:=hid (HF34.out.store32 (f1_x,f2_x) hV)
      refine hK.out _ _ (fun _=>HSS2.out _ _ _ _ _ HS33.out (by simp) (by simp)) ?_
      clear hK K HS30 hV HF34
      refine wpAnyY_done (by kernel_rfl) ?_ _
      go_wp2_with fail
      go_meet
      exact ⟨g9,mt_x,mx_x,mp_x,mn_x,f1_x,f2_x,rfl,m_x,oc_x,O2_x,s2_x,HR.out,HS33.out.sub (by simp) (by have:=HS33.out.nd; simp at this ⊢; omega)⟩
    case rest=>
     obtain ⟨g9,mt_x,mx_x,mp_x,mn_x,f1_x,f2_x,rfl,m_x,oc_x,O2_x,s2_x,⟨hRQ,e1,e2,e3,e4⟩,hL⟩:=hcut
     clear HA3' HA3 HSS2 HS0
     cases r2 with
     | error f'=>
       obtain ⟨rfl,hf,-,rfl⟩:=hRQ
       have HX3:Hid (bandB c (h,k) (h2,k2) = .error (f1_x,f2_x)):=HX2.out
       have HF:Hid (f1_x ≠ 0):=hf
       have hq:(f1_x == 0) = false:=by rw [beq_eq_false_iff_ne]; exact hf
       have HL:=hid hL
       have y0:wc.cell? ⟨g8,0,none⟩ = some (I J f1_x):=HL.out.at (g:=g8) (cs:=flL (f1_x,f2_x)) (ty:=32) (by simp) rfl
       have y1:wc.cell? ⟨g8,1,none⟩ = some (I J f2_x):=HL.out.at (g:=g8) (cs:=flL (f1_x,f2_x)) (ty:=32) (by simp) rfl
       have z0:wc.cell? ⟨w.heap.size + 1 + 1,0,none⟩ = some (I J 0):=HL.out.at (g:=w.heap.size + 1 + 1) (cs:=flL (0,0)) (ty:=32) (by simp) rfl
       have z1:wc.cell? ⟨w.heap.size + 1 + 1,1,none⟩ = some (I J 0):=HL.out.at (g:=w.heap.size + 1 + 1) (cs:=flL (0,0)) (ty:=32) (by simp) rfl
       have zf:∀ i,wc.frozen? ⟨w.heap.size + 1 + 1,i,none⟩ = false:=fun i=>HL.out.fz (g:=w.heap.size + 1 + 1) (cs:=flL (0,0)) (ty:=32) (by simp) i
       clear HX2 hf hL e1 e2 e3 e4
       go_wp2
       refine bodyPost_ret (v:=flV (f1_x,f2_x)) ?_ rfl ?_
       ·simp only [results,hres]
        unfold flV
        simp only
        go_simp
       ·show TPost _ _ _ _ _ _
        rw [HX3.out]
        exact ⟨HF.out,rfl,(HL.out.fr.setCell (.inr (by omega)) _ _).setCell (.inr (by omega)) _ _⟩
     | ok x=>
       obtain ⟨c2,m'⟩:=x
       obtain ⟨hf,rfl,rfl⟩:=hRQ
       cases hf
       obtain ⟨p1,hp1⟩:∃ p,p = m.place:=⟨_,rfl⟩
       obtain ⟨p2,hp2⟩:∃ p,p = m_x.place:=⟨_,rfl⟩
       have HX3:Hid (bandB c (h,k) (h2,k2) = .ok { c2 with banded:=true,lo:=p1,hi:=p2 }):=by show _ = _; rw [hp1,hp2]; exact HX2.out
       have HL:=hid hL
       have y0:wc.cell? ⟨g8,0,none⟩ = some (I J 0):=HL.out.at (g:=g8) (cs:=flL (0,0)) (ty:=32) (by simp) rfl
       have HSS6:Hid (∀ O' s' oc L W,LS w O O' b s s' oc L W -> (g7,mnL m,109) ∈ L -> (g9,mnL m_x,109) ∈ L -> W.cell? ⟨g7,2,none⟩ = some (I J p1) /\ W.cell? ⟨g9,2,none⟩ = some (I J p2)):=fun O' s' oc L W h1 h2 h3=>by
        rw [hp1,hp2]
        exact ⟨h1.at h2 rfl,h1.at h3 rfl⟩
       clear HX2 hL e1 e2 e3 e4 hp1 hp2
       go_upto_region 6 with (fail)
       clear y0
       have HS6:=hid (HL.out.drew)
       clear HL
       refine wp_region_Y (fun j=>[].contains j) (fun W=>W.cell? ⟨g7,2,none⟩ = some (I J p1) /\ W.cell? ⟨g9,2,none⟩ = some (I J p2)) (by kernel_rfl) ?_
       refine tkL (i:=0) 33 (v:=Φ (some ⟨b,0,none⟩)) rfl rfl (HSS6.out _ _ _ _ _ HS6.out (by simp) (by simp)) (fun W hW=>by obtain ⟨_,_⟩:=hW; go_simp) ?_
       simp only [Act.put,lA,lB,lC]
       refine tkL (i:=1) 34 (v:=Φ (some ⟨b,0,none⟩)) rfl rfl (HSS6.out _ _ _ _ _ HS6.out (by simp) (by simp)) (fun W hW=>by obtain ⟨_,_⟩:=hW; go_simp) ?_
       simp only [Act.put,lA,lB,lC]
       refine tkL (i:=2) 35 (v:=Φ (some ⟨b,0,none⟩)) rfl rfl (HSS6.out _ _ _ _ _ HS6.out (by simp) (by simp)) (fun W hW=>by obtain ⟨_,_⟩:=hW; go_simp) ?_
       simp only [Act.put,lA,lB,lC]
       refine tkL (i:=3) 36 (v:=Φ (some ⟨g7,2,none⟩)) rfl rfl (HSS6.out _ _ _ _ _ HS6.out (by simp) (by simp)) (fun W hW=>by obtain ⟨_,_⟩:=hW; go_simp) ?_
       simp only [Act.put,lA,lB,lC]
       refine tkL (i:=4) 37 (v:=I J p1) rfl rfl (HSS6.out _ _ _ _ _ HS6.out (by simp) (by simp)) (fun W hW=>by obtain ⟨_,_⟩:=hW; go_simp) ?_
       simp only [Act.put,lA,lB,lC]
       refine tkL (i:=5) 38 (v:=Φ (some ⟨g9,2,none⟩)) rfl rfl (HSS6.out _ _ _ _ _ HS6.out (by simp) (by simp)) (fun W hW=>by obtain ⟨_,_⟩:=hW; go_simp) ?_
       simp only [Act.put,lA,lB,lC]
       refine tkL (i:=6) 39 (v:=I J p2) rfl rfl (HSS6.out _ _ _ _ _ HS6.out (by simp) (by simp)) (fun W hW=>by obtain ⟨_,_⟩:=hW; go_simp) ?_
       simp only [Act.put,lA,lB,lC]
       refine tkL (i:=7) 40 (v:=Φ (some ⟨b,0,none⟩)) rfl rfl (HSS6.out _ _ _ _ _ HS6.out (by simp) (by simp)) (fun W hW=>by obtain ⟨_,_⟩:=hW; go_simp) ?_
       simp only [Act.put,lA,lB,lC]
       refine tkL (i:=8) 41 (v:=Φ (some ⟨b,0,none⟩)) rfl rfl (HSS6.out _ _ _ _ _ HS6.out (by simp) (by simp)) (fun W hW=>by obtain ⟨_,_⟩:=hW; go_simp) ?_
       simp only [Act.put,lA,lB,lC]
       refine tkL (i:=9) 42 (v:=Φ (some ⟨b,5,none⟩)) rfl rfl (HSS6.out _ _ _ _ _ HS6.out (by simp) (by simp)) (fun W hW=>by obtain ⟨_,_⟩:=hW; go_simp) ?_
       simp only [Act.put,lA,lB,lC]
       refine wpAnyY_one (i:=10) rfl (by kernel_rfl) (fun K hK=>?_)
       refine storeB_step rfl rfl rfl rfl ((HS6.out.ck _ rfl).1.c5) ((HS6.out.ck _ rfl).1.fz 5) ?_
       intro V1 hV
       have HS2:Hid (LS w O O2_x b s s2_x (some { c2 with banded:=true }) [(g9,mnL m_x,109),(g7,mnL m,109),(g8,flL (0,0),32),(w.heap.size + 1 + 1,flL (0,0),32)] V1):=by subst hV; exact HS6.out.putB rfl rfl rfl rfl rfl rfl (by have h:=(HS6.out.ck _ rfl).2.1; exact ⟨h.vals,h.same,h.few,h.names,h.alpha,h.sub,h.pcs⟩)
       refine hK.out _ _ (fun _=>HSS6.out _ _ _ _ _ HS2.out (by simp) (by simp)) ?_
       clear hK K HS6 hV
       refine tkL (i:=11) 43 (v:=Φ (some ⟨b,0,none⟩)) rfl rfl (HSS6.out _ _ _ _ _ HS2.out (by simp) (by simp)) (fun W hW=>by obtain ⟨_,_⟩:=hW; go_simp) ?_
       simp only [Act.put,lA,lB,lC]
       refine tkL (i:=12) 44 (v:=Φ (some ⟨b,0,none⟩)) rfl rfl (HSS6.out _ _ _ _ _ HS2.out (by simp) (by simp)) (fun W hW=>by obtain ⟨_,_⟩:=hW; go_simp) ?_
       simp only [Act.put,lA,lB,lC]
       refine tkL (i:=13) 45 (v:=Φ (some ⟨b,6,none⟩)) rfl rfl (HSS6.out _ _ _ _ _ HS2.out (by simp) (by simp)) (fun W hW=>by obtain ⟨_,_⟩:=hW; go_simp) ?_
       simp only [Act.put,lA,lB,lC]
       refine wpAnyY_one (i:=14) rfl (by kernel_rfl) (fun K hK=>?_)
       refine storeI_step rfl rfl rfl rfl rfl ((HS2.out.ck _ rfl).1.c6) ((HS2.out.ck _ rfl).1.fz 6) ?_
       intro V3 hV
       have HS4:Hid (LS w O O2_x b s s2_x (some { c2 with banded:=true,lo:=p1 }) [(g9,mnL m_x,109),(g7,mnL m,109),(g8,flL (0,0),32),(w.heap.size + 1 + 1,flL (0,0),32)] V3):=by subst hV; exact HS2.out.putB rfl rfl rfl rfl rfl rfl (by have h:=(HS2.out.ck _ rfl).2.1; exact ⟨h.vals,h.same,h.few,h.names,h.alpha,h.sub,h.pcs⟩)
       refine hK.out _ _ (fun _=>HSS6.out _ _ _ _ _ HS4.out (by simp) (by simp)) ?_
       clear hK K HS2 hV
       refine tkL (i:=15) 46 (v:=Φ (some ⟨b,0,none⟩)) rfl rfl (HSS6.out _ _ _ _ _ HS4.out (by simp) (by simp)) (fun W hW=>by obtain ⟨_,_⟩:=hW; go_simp) ?_
       simp only [Act.put,lA,lB,lC]
       refine tkL (i:=16) 47 (v:=Φ (some ⟨b,0,none⟩)) rfl rfl (HSS6.out _ _ _ _ _ HS4.out (by simp) (by simp)) (fun W hW=>by obtain ⟨_,_⟩:=hW; go_simp) ?_
       simp only [Act.put,lA,lB,lC]
       refine tkL (i:=17) 48 (v:=Φ (some ⟨b,7,none⟩)) rfl rfl (HSS6.out _ _ _ _ _ HS4.out (by simp) (by simp)) (fun W hW=>by obtain ⟨_,_⟩:=hW; go_simp) ?_
       simp only [Act.put,lA,lB,lC]
       refine wpAnyY_one (i:=18) rfl (by kernel_rfl) (fun K hK=>?_)
       refine storeI_step rfl rfl rfl rfl rfl ((HS4.out.ck _ rfl).1.c7) ((HS4.out.ck _ rfl).1.fz 7) ?_
       intro V5 hV
       have HS6:Hid (LS w O O2_x b s s2_x (some { c2 with banded:=true,lo:=p1,hi:=p2 }) [(g9,mnL m_x,109),(g7,mnL m,109),(g8,flL (0,0),32),(w.heap.size + 1 + 1,flL (0,0),32)] V5):=by subst hV; exact HS4.out.putB rfl rfl rfl rfl rfl rfl (by have h:=(HS4.out.ck _ rfl).2.1; exact ⟨h.vals,h.same,h.few,h.names,h.alpha,h.sub,h.pcs⟩)
       refine hK.out _ _ (fun _=>HSS6.out _ _ _ _ _ HS6.out (by simp) (by simp)) ?_
       clear hK K HS4 hV
       refine wpAnyY_done (by kernel_rfl) ?_ _
       have y0:V5.cell? ⟨g8,0,none⟩ = some (I J 0):=HS6.out.at (g:=g8) (cs:=flL (0,0)) (ty:=32) (by simp) rfl
       have y1:V5.cell? ⟨g8,1,none⟩ = some (I J 0):=HS6.out.at (g:=g8) (cs:=flL (0,0)) (ty:=32) (by simp) rfl
       have z0:V5.cell? ⟨w.heap.size + 1 + 1,0,none⟩ = some (I J 0):=HS6.out.at (g:=w.heap.size + 1 + 1) (cs:=flL (0,0)) (ty:=32) (by simp) rfl
       have z1:V5.cell? ⟨w.heap.size + 1 + 1,1,none⟩ = some (I J 0):=HS6.out.at (g:=w.heap.size + 1 + 1) (cs:=flL (0,0)) (ty:=32) (by simp) rfl
       have zf:∀ i,V5.frozen? ⟨w.heap.size + 1 + 1,i,none⟩ = false:=fun i=>HS6.out.fz (g:=w.heap.size + 1 + 1) (cs:=flL (0,0)) (ty:=32) (by simp) i
       have HZ:Hid (LS w O O2_x b s s2_x (some { c2 with banded:=true,lo:=p1,hi:=p2 }) [(g9,mnL m_x,109),(g7,mnL m,109),(g8,flL (0,0),32),(w.heap.size + 1 + 1,flL (0,0),32)] V5):=HS6.out
       generalize V5 = VZ at *
       go_wp2
       refine bodyPost_ret (v:=flV (0,0)) ?_ rfl ?_
       ·simp only [results,hres]
        unfold flV
        simp only
        go_simp
       ·show TPost _ _ _ _ _ _
        rw [HX3.out]
        have hoff:=(HZ.out.loc (w.heap.size + 1 + 1,flL (0,0),32) (by simp)).1.off
        exact ⟨rfl,(HZ.out.fr.setCell (.inr (by omega)) _ _).setCell (.inr (by omega)) _ _,O2_x,s2_x,HZ.out.new,ck_set (ck_set (HZ.out.ck _ rfl).1 hoff _ _) hoff _ _⟩
end Go.Proofs.YtlaodgdlkkmmeaaGreat
