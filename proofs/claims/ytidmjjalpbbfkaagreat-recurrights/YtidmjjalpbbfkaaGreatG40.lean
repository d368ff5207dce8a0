/-
  A piece of a gap's cost: gap. How far from the diagonal paths may go: band.
-/
import Derived.Test.YtidmjjalpbbfkaaGreatG38
namespace Go.Proofs.YtidmjjalpbbfkaaGreat
open Go.RowKit Go.Deep Go.Maps
set_option maxRecDepth 20000
set_option maxHeartbeats 4000000
theorem askQ_ok {q:Mn -> Int} {c c':Ck} {h:Hd} {k:Fo} {m:Mn} (hok:CkOk c) (hr:okE h k) (htx:h.text.length <= maxLen) (hs:shortF k) (he:askQ q c (h,k) = .ok (c',m)):CkOk c' /\ MnOk c'.values.length m /\ Sm c c' /\ q m = 0:=by
 unfold askQ at he
 split at he
 ·cases he
 ·rename_i c1 m1 hx
  split at he
  ·rename_i h0
   cases he
   obtain ⟨k1,k2,k3⟩:=askE_ok hok hr htx hs hx
   exact ⟨k1,k2,k3,h0⟩
  ·cases he
theorem costsB_ok {c c':Ck} {h h2:Hd} {k k2:Fo} {p q:Int} (hok:CkOk c) (hr:okE h k) (htx:h.text.length <= maxLen) (hs:shortF k) (hr2:okE h2 k2) (htx2:h2.text.length <= maxLen) (hs2:shortF k2) (he:costsB c (h,k) (h2,k2) = .ok (c',p,q)):CkOk c' /\ Sm c c':=by
 unfold costsB at he
 split at he
 ·cases he
 ·rename_i c1 m1 hx
  split at he
  ·cases he
  ·rename_i c2 m2 hy
   cases he
   obtain ⟨k1,-,k3,-⟩:=askQ_ok hok hr htx hs hx
   obtain ⟨j1,-,j3,-⟩:=askQ_ok k1 hr2 htx2 hs2 hy
   exact ⟨j1,k3.trans j3⟩
theorem info80:(Tryz.prog.info? 56).map (fun i=>(i.zero,i.size,i.bytes)) = some (some (.agg #[.int .i64 0,.int .i64 0]),2,16):=by kernel_rfl
theorem pc_one (p:Int × Int):∀ u ∈ pcCells p,u.oneCell' = true:=by
 intro u hu
 simp [pcCells] at hu
 rcases hu with rfl | rfl <;> rfl
theorem LS.addPc {w W w4:World} {O0 O:Nat -> Prop} {b:Nat} {s0 s:Sl} {c:Ck} {L:List Lo} {d:Int × Int} (h:LS w O0 O b s0 s (some c) L W) (hp:c.pieces.length < 4) {v':Value} (hown:w4.ownsRow 0 56 2 v' (c.pieces.length + 1) (pcRow c.pieces ++ pcCells d)) (hg:W.grownBy w4 s.pv.ownBlock) (hfr:∀ g,v'.ownBlock = some g -> some g = s.pv.ownBlock \/ W.heap.size <= g) :
 w4.cell? ⟨b,3,none⟩ = some s.pv /\ w4.frozen? ⟨b,3,none⟩ = false /\ ∃ O2 s2,LS w O0 O2 b s0 s2 (some { c with pieces:=c.pieces ++ [d] }) L (w4.setCell ⟨b,3,none⟩ v'):=by
 obtain ⟨a1,a2,a3⟩:=h.ck c rfl
 obtain ⟨k1,k2,k3⟩:=a1.addPc hown hg hfr
 have hsz:=h.fr.size
 have hsz4:W.heap.size <= (w4.setCell ⟨b,3,none⟩ v').heap.size:=by have:=hg.size; simpa [World.setCell] using this
 refine ⟨k1,k2,fun g=>(O g \/ W.heap.size <= g) /\ g < (w4.setCell ⟨b,3,none⟩ v').heap.size,{ s with pv:=v' },fun c' hc=>?_,?_,fun g hg2=>?_,fun g hg2=>hg2.2,fun x hx=>?_,h.nd⟩
 ·cases hc
  exact ⟨k3.tight,⟨a2.vals,a2.same,a2.few,a2.names,a2.alpha,a2.sub,by simp; omega⟩,a3⟩
 ·exact (h.fr.grown hg (fun k hk=>h.new k (a1.inP k hk))).setCell (h.new b a1.inB) _ _
 ·rcases hg2.1 with h1 | h1
  ·exact h.new g h1
  ·exact .inr (by omega)
 ·obtain ⟨l1,l2⟩:=h.loc x hx
  refine ⟨⟨heap_other ?_ (fun e=>l1.off (e ▸ a1.inB)),fun hh=>?_⟩,l2⟩
  ·rw [hg.block _ l1.lt (fun e=>l1.off (a1.inP _ e.symm))]; exact l1.heap
  ·rcases hh.1 with h1 | h1
   ·exact l1.off h1
   ·have:=l1.lt; omega
theorem gap_calls {B:Nat} {O:Nat -> Prop} {b:Nat} {s:Sl} {c:Ck} (h:Hd) (k:Fo) (ka:Option Addr) (kn kc:Nat) (h2:Hd) (k2:Fo) (la:Option Addr) (ln lc:Nat) (w:World) (hck:CkAt O b s c w) (hok:CkOk c) (hlow:∀ g,O g -> B <= g) (hB:B <= w.heap.size)
 (hE:ExAt false (fun g=>g < B) w (h,k) ka kn) (hr:okE h k) (hE2:ExAt false (fun g=>g < B) w (h2,k2) la ln) (hr2:okE h2 k2) :
 Calls Tryz.prog 71 #[.pointer (some ⟨b,0,none⟩),exV h ka kn kc,exV h2 la ln lc] w (TPost O b w (gapB c (h,k) (h2,k2))):=by
 have hres:Tryz.f71.results = #[.cell 6 42]:=by kernel_rfl
 have hS1:=LS.start3 hck hok h ka kn kc h2 la ln lc
 have hC:∀ O' s' L W,LS w O O' b s s' (some c) L W -> Calls Tryz.prog 108 #[.pointer (some ⟨b,0,none⟩),exV h ka kn kc,exV h2 la ln lc] W (CPost O' b W (costsB c (h,k) (h2,k2))):=fun O' s' L W hL=>by
  have hlow':∀ g,O' g -> B <= g:=fun q hq=>by rcases hL.new q hq with h1 | h1; exact hlow q h1; omega
  have hkp:∀ q,q < w.heap.size -> q < B -> W.heap[q]? = w.heap[q]?:=fun q hq hqB=>hL.fr.block q hq (fun ho=>by have:=hlow q ho; omega)
  exact costs_calls h k ka kn kc h2 k2 la ln lc W (hL.ck c rfl).1 hok hlow' (Nat.le_trans hB hL.fr.size) ⟨hE.hd,hE.few,foAt_keep hkp hE.kids⟩ hr ⟨hE2.hd,hE2.few,foAt_keep hkp hE2.kids⟩ hr2
 have hpcs:=hok.pcs
 have hokC:∀ c' p q,costsB c (h,k) (h2,k2) = .ok (c',p,q) -> CkOk c' /\ Sm c c':=fun c' p q he=>costsB_ok hok hr hE.hd.text (foAt_short hE.kids) hr2 hE2.hd.text (foAt_short hE2.kids) he
 obtain ⟨pa,pcap,hpv⟩:=owned_shape hck.pieces
 generalize hO1:(fun g=>O g /\ g < w.heap.size) = O1 at hS1
 clear hO1 hck hok hlow hB hE hr hE2 hr2
 have HS1:Hid (LS w O O1 b s s (some c) [(w.heap.size + 1 + 1,flL (0,0),42),(w.heap.size + 1,exL h2 la ln lc,125),(w.heap.size,exL h ka kn kc,125)] (((w.alloc (.cells #[.int .i64 h.kind,.int .i64 h.num,.string (bs h.text),.slice ka kn kc,.int .i64 h.pl] 125)).alloc (.cells #[.int .i64 h2.kind,.int .i64 h2.num,.string (bs h2.text),.slice la ln lc,.int .i64 h2.pl] 125)).alloc (.cells #[.int .i64 0,.int .i64 0] 42))):=hS1
 clear hS1
 unfold exV at hC ⊢
 go_enter Tryz.func71,Tryz.ntmps71
 go_upto_region 1 with (fail)
 generalize (((w.alloc (.cells #[.int .i64 h.kind,.int .i64 h.num,.string (bs h.text),.slice ka kn kc,.int .i64 h.pl] 125)).alloc (.cells #[.int .i64 h2.kind,.int .i64 h2.num,.string (bs h2.text),.slice la ln lc,.int .i64 h2.pl] 125)).alloc (.cells #[.int .i64 0,.int .i64 0] 42)) = w1 at *
 have x0:w1.cell? ⟨w.heap.size,0,none⟩ = some (.int .i64 h.kind):=HS1.out.at (g:=w.heap.size) (cs:=exL h ka kn kc) (ty:=125) (by simp) rfl
 have x1:w1.cell? ⟨w.heap.size,1,none⟩ = some (.int .i64 h.num):=HS1.out.at (g:=w.heap.size) (cs:=exL h ka kn kc) (ty:=125) (by simp) rfl
 have x2:w1.cell? ⟨w.heap.size,2,none⟩ = some (.string (bs h.text)):=HS1.out.at (g:=w.heap.size) (cs:=exL h ka kn kc) (ty:=125) (by simp) rfl
 have x3:w1.cell? ⟨w.heap.size,3,none⟩ = some (.slice ka kn kc):=HS1.out.at (g:=w.heap.size) (cs:=exL h ka kn kc) (ty:=125) (by simp) rfl
 have x4:w1.cell? ⟨w.heap.size,4,none⟩ = some (.int .i64 h.pl):=HS1.out.at (g:=w.heap.size) (cs:=exL h ka kn kc) (ty:=125) (by simp) rfl
 have y0:w1.cell? ⟨w.heap.size + 1,0,none⟩ = some (.int .i64 h2.kind):=HS1.out.at (g:=w.heap.size + 1) (cs:=exL h2 la ln lc) (ty:=125) (by simp) rfl
 have y1:w1.cell? ⟨w.heap.size + 1,1,none⟩ = some (.int .i64 h2.num):=HS1.out.at (g:=w.heap.size + 1) (cs:=exL h2 la ln lc) (ty:=125) (by simp) rfl
 have y2:w1.cell? ⟨w.heap.size + 1,2,none⟩ = some (.string (bs h2.text)):=HS1.out.at (g:=w.heap.size + 1) (cs:=exL h2 la ln lc) (ty:=125) (by simp) rfl
 have y3:w1.cell? ⟨w.heap.size + 1,3,none⟩ = some (.slice la ln lc):=HS1.out.at (g:=w.heap.size + 1) (cs:=exL h2 la ln lc) (ty:=125) (by simp) rfl
 have y4:w1.cell? ⟨w.heap.size + 1,4,none⟩ = some (.int .i64 h2.pl):=HS1.out.at (g:=w.heap.size + 1) (cs:=exL h2 la ln lc) (ty:=125) (by simp) rfl
 have HC0:=hC O1 s _ w1 HS1.out
 clear hC
 have b3:w1.cell? ⟨b,3,none⟩ = some (.slice pa c.pieces.length pcap):=by have:=(HS1.out.ck c rfl).1.c3; rw [hpv] at this; exact this
 by_cases hp4:c.pieces.length = 4
 ·have HX:Hid (gapB c (h,k) (h2,k2) = .error (72,c.pl)):=by show _ = _; unfold gapB; rw [if_pos hp4]
  have HW:Hid (Calls Tryz.prog 67 #[.pointer (some ⟨b,0,none⟩),.int .i64 72] w1 fun e w'=>e = .returned (.agg #[.int .i64 72,.int .i64 c.pl]) /\ Below w1.heap.size w1 w'):=wrongC_calls 72 w1 (HS1.out.ck c rfl).1
  have hq4:((c.pieces.length:Int) == 4) = true:=by rw [beq_iff_eq]; omega
  generalize c.pieces.length = np at *
  generalize c.pl = cpl at *
  clear HC0 hp4 hpv hokC hpcs
  go_wp2_with fail
  refine HW.out.mono ?_
  rintro e w3 ⟨rfl,hb⟩
  have HB:=HS1.out.next hb
  have HB':Hid (LS w O O1 b s s (some c) _ w3):=HB
  have z0:w3.cell? ⟨w.heap.size + 1 + 1,0,none⟩ = some (.int .i64 0):=HB.at (g:=w.heap.size + 1 + 1) (cs:=flL (0,0)) (ty:=42) (by simp) rfl
  have z1:w3.cell? ⟨w.heap.size + 1 + 1,1,none⟩ = some (.int .i64 0):=HB.at (g:=w.heap.size + 1 + 1) (cs:=flL (0,0)) (ty:=42) (by simp) rfl
  have zf:∀ i,w3.frozen? ⟨w.heap.size + 1 + 1,i,none⟩ = false:=fun i=>HB'.out.fz (g:=w.heap.size + 1 + 1) (cs:=flL (0,0)) (ty:=42) (by simp) i
  clear HB hb HW HS1 x0 x1 x2 x3 x4 y0 y1 y2 y3 y4 b3
  go_wp2
  refine bodyPost_ret (v:=flV (72,cpl)) ?_ rfl ?_
  ·simp only [results,hres]
   unfold flV
   simp only
   go_simp
  ·show TPost _ _ _ _ _ _
   rw [HX.out]
   exact ⟨by simp,rfl,(HB'.out.fr.setCell (.inr (by omega)) _ _).setCell (.inr (by omega)) _ _⟩
 have hq4:((c.pieces.length:Int) == 4) = false:=by rw [beq_eq_false_iff_ne]; omega
 cases hl:costsB c (h,k) (h2,k2) with
 | error f=>
   have HL:Hid (Calls Tryz.prog 108 #[.pointer (some ⟨b,0,none⟩),.agg #[.int .i64 h.kind,.int .i64 h.num,.string (bs h.text),.slice ka kn kc,.int .i64 h.pl],.agg #[.int .i64 h2.kind,.int .i64 h2.num,.string (bs h2.text),.slice la ln lc,.int .i64 h2.pl]] w1 fun e w'=>∃ p q,e = .returned (.tuple #[.int .i64 p,.int .i64 q,.agg #[.int .i64 f.1,.int .i64 f.2]]) /\ f.1 ≠ 0 /\ Fr O1 w1 w'):=costs_err HC0 hl
   have HX:Hid (gapB c (h,k) (h2,k2) = .error f):=by show _ = _; unfold gapB; rw [if_neg hp4]; simp only [hl]
   clear hl HC0 hp4 hpv hokC hpcs
   generalize c.pieces.length = np at *
   obtain ⟨f1,f2⟩:=f
   simp only at HL
   go_wp2_with fail
   refine HL.out.mono ?_
   rintro e w3 ⟨p,q,rfl,hf,hfr⟩
   have HF:Hid (f1 ≠ 0):=hf
   have hq:(f1 == 0) = false:=by rw [beq_eq_false_iff_ne]; exact hf
   have HB:Hid (LS w O _ b s s none _ w3):=HS1.out.go (O':=O1) (oc':=none) hfr (fun _ h=>.inl h) (fun c hc=>by cases hc)
   clear hf HL x0 x1 x2 x3 x4 y0 y1 y2 y3 y4 b3 HS1 hfr
   have z0:w3.cell? ⟨w.heap.size + 1 + 1,0,none⟩ = some (.int .i64 0):=HB.out.at (g:=w.heap.size + 1 + 1) (cs:=flL (0,0)) (ty:=42) (by simp) rfl
   have z1:w3.cell? ⟨w.heap.size + 1 + 1,1,none⟩ = some (.int .i64 0):=HB.out.at (g:=w.heap.size + 1 + 1) (cs:=flL (0,0)) (ty:=42) (by simp) rfl
   have zf:∀ i,w3.frozen? ⟨w.heap.size + 1 + 1,i,none⟩ = false:=fun i=>HB.out.fz (g:=w.heap.size + 1 + 1) (cs:=flL (0,0)) (ty:=42) (by simp) i
   have hl2:w.heap.size + 1 + 1 < w3.heap.size:=HB.out.lt (g:=w.heap.size + 1 + 1) (cs:=flL (0,0)) (ty:=42) (by simp)
   have hn2:¬ w.heap.size + 1 + 1 = w3.heap.size:=by omega
   go_wp2
   refine bodyPost_ret (v:=flV (f1,f2)) ?_ rfl ?_
   ·simp only [results,hres]
    unfold flV
    simp only
    go_simp
   ·show TPost _ _ _ _ _ _
    rw [HX.out]
    exact ⟨HF.out,rfl,((HB.out.fr.setCell (.inr (by omega)) _ _).setCell (.inr (by omega)) _ _).alloc _⟩
 | ok x=>
   obtain ⟨c',p,q⟩:=x
   have HL:Hid (Calls Tryz.prog 108 #[.pointer (some ⟨b,0,none⟩),.agg #[.int .i64 h.kind,.int .i64 h.num,.string (bs h.text),.slice ka kn kc,.int .i64 h.pl],.agg #[.int .i64 h2.kind,.int .i64 h2.num,.string (bs h2.text),.slice la ln lc,.int .i64 h2.pl]] w1 fun e w'=>e = .returned (.tuple #[.int .i64 p,.int .i64 q,.agg #[.int .i64 0,.int .i64 0]]) /\ Fr O1 w1 w' /\ ∃ O' s',(∀ g,O' g -> O1 g \/ w1.heap.size <= g) /\ CkAt O' b s' c' w'):=costs_ok HC0 hl
   have HX:Hid (gapB c (h,k) (h2,k2) = .ok { c' with pieces:=c'.pieces ++ [(p,q)] }):=by show _ = _; unfold gapB; rw [if_neg hp4]; simp only [hl]
   obtain ⟨hok',hsm⟩:=hokC c' p q hl
   have HPL:Hid (c'.pieces.length < 4 /\ CkOk c'):=⟨by rw [hsm.pieces]; omega,hok'⟩
   clear hl HC0 hp4 hokC hok' hsm hpcs hpv
   generalize c.pieces.length = np at *
   go_wp2_with fail
   refine HL.out.mono ?_
   rintro e w3 ⟨rfl,hfr,O',s',hO',hck'⟩
   have hLS:=HS1.out.go (s':=s') (oc':=none) hfr hO' (fun c hc=>by cases hc)
   have HN:Hid (LS w O (fun g=>O' g /\ g < w3.heap.size) b s' s' (some c') [(w.heap.size + 1 + 1,flL (0,0),42),(w.heap.size + 1,exL h2 la ln lc,125),(w.heap.size,exL h ka kn kc,125)] w3):=⟨fun c2 hc=>by cases hc; exact ⟨hck'.tight,HPL.out.2,rfl⟩,hLS.fr,hLS.new,hLS.tight,hLS.loc,hLS.nd⟩
   clear HL x0 x1 x2 x3 x4 y0 y1 y2 y3 y4 HS1 hfr hO' hck' b3 hLS
   obtain ⟨pa',pcap',hpv'⟩:=owned_shape (HN.out.ck c' rfl).1.pieces
   obtain ⟨i0,hi,hz0,hz1,hz2⟩:=info_parts info80
   have hlb:b < w3.heap.size:=(HN.out.ck c' rfl).1.lt
   have b3:w3.cell? ⟨b,3,none⟩ = some (.slice pa' c'.pieces.length pcap'):=by have:=(HN.out.ck c' rfl).1.c3; rw [hpv'] at this; exact this
   have hnp:c'.pieces.length < 4:=HPL.out.1
   have HN2:Hid (LS w O (fun g=>O' g /\ g < w3.heap.size) b s' s' (some c') ((w3.heap.size,flL (0,0),42) :: [(w.heap.size + 1 + 1,flL (0,0),42),(w.heap.size + 1,exL h2 la ln lc,125),(w.heap.size,exL h ka kn kc,125)]) (w3.alloc (.cells #[.int .i64 0,.int .i64 0] 42))):=HN.out.alloc (flL (0,0)) 42
   have HJO:Hid (∀ o',((w3.alloc (.cells #[.int .i64 0,.int .i64 0] 42)).alloc o').ownsRow 0 56 2 (.slice pa' c'.pieces.length pcap') c'.pieces.length (pcRow c'.pieces)):=fun o'=>by
    have:=((HN2.out.ck c' rfl).1.alloc o').pieces
    rw [hpv'] at this; exact this
   have HJE:Hid (∀ o' v' w5,w5.ownsRow 0 56 2 v' (c'.pieces.length + 1) (pcRow c'.pieces ++ pcCells (p,q)) -> ((w3.alloc (.cells #[.int .i64 0,.int .i64 0] 42)).alloc o').grownBy w5 (Value.slice pa' c'.pieces.length pcap').ownBlock -> (∀ g,v'.ownBlock = some g -> some g = (Value.slice pa' c'.pieces.length pcap').ownBlock \/ ((w3.alloc (.cells #[.int .i64 0,.int .i64 0] 42)).alloc o').heap.size <= g) ->
    w5.cell? ⟨b,3,none⟩ = some (.slice pa' c'.pieces.length pcap') /\ w5.frozen? ⟨b,3,none⟩ = false /\ Hid (∃ O2 s2,LS w O O2 b s' s2 (some { c' with pieces:=c'.pieces ++ [(p,q)] }) ((w3.heap.size,flL (0,0),42) :: [(w.heap.size + 1 + 1,flL (0,0),42),(w.heap.size + 1,exL h2 la ln lc,125),(w.heap.size,exL h ka kn kc,125)]) (w5.setCell ⟨b,3,none⟩ v'))):=by
    intro o' v' w5 ho hg hfr
    rw [<- hpv'] at hg hfr ⊢
    exact (HN2.out.next ((Below.refl _ _).alloc (Nat.le_refl _) o')).addPc HPL.out.1 ho hg hfr
   have hnew:Hid (∀ o (j:Nat) (u:Value),(pcCells (p,q))[j]? = some u -> ((w3.alloc o).alloc (.cells #[.int .i64 p,.int .i64 q] 56)).cell? ((⟨w3.heap.size + 1,0,none⟩:Addr).add j) = some u):=fun o=>by
    have:=cells_new (w3.alloc o) (pcCells (p,q)) 56
    rw [show (w3.alloc o).heap.size = w3.heap.size + 1 by simp] at this; exact this
   generalize c'.pieces.length = np' at *
   clear HN HN2 HPL hpv'
   go_upto_region 6 with (first
    | (at_builtin; refine wpList_append_fresh rfl (.tmp 35) (.tmp 39) 24 rfl 0 56 i0 _ 2 16 Tryz.underlying24 hi hz0 hz1 hz2 rfl (by decide) _ _ _ rfl (HJO.out _) ⟨w3.heap.size + 1,0,none⟩ 1 1 (pcCells (p,q)) rfl rfl (hnew.out _) (pc_one _) (by unfold maxLen; omega) (by omega) (Nat.zero_le _) ?_
       intro v' w5 ho hg hfr
       obtain ⟨k1,k2,k3⟩:=HJE.out _ _ _ ho hg hfr
       obtain ⟨ao3,cap3,rfl⟩:=owned_shape ho
       clear ho hg hfr HJE HJO hnew))
   generalize w5.setCell ⟨b,3,none⟩ (.slice ao3 (np' + 1) cap3) = V at *
   obtain ⟨O2,s2,hL2⟩:=k3.out
   have HB:Hid (LS w O O2 b s' s2 (some { c' with pieces:=c'.pieces ++ [(p,q)] }) ((w3.heap.size,flL (0,0),42) :: [(w.heap.size + 1 + 1,flL (0,0),42),(w.heap.size + 1,exL h2 la ln lc,125),(w.heap.size,exL h ka kn kc,125)]) V):=hL2
   clear k1 k2 k3 hL2 b3 hi hz0 hz1 hz2 i0 hlb
   have y0:V.cell? ⟨w3.heap.size,0,none⟩ = some (.int .i64 0):=HB.out.at (g:=w3.heap.size) (cs:=flL (0,0)) (ty:=42) (by simp) rfl
   have y1:V.cell? ⟨w3.heap.size,1,none⟩ = some (.int .i64 0):=HB.out.at (g:=w3.heap.size) (cs:=flL (0,0)) (ty:=42) (by simp) rfl
   have z0:V.cell? ⟨w.heap.size + 1 + 1,0,none⟩ = some (.int .i64 0):=HB.out.at (g:=w.heap.size + 1 + 1) (cs:=flL (0,0)) (ty:=42) (by simp) rfl
   have z1:V.cell? ⟨w.heap.size + 1 + 1,1,none⟩ = some (.int .i64 0):=HB.out.at (g:=w.heap.size + 1 + 1) (cs:=flL (0,0)) (ty:=42) (by simp) rfl
   have zf:∀ i,V.frozen? ⟨w.heap.size + 1 + 1,i,none⟩ = false:=fun i=>HB.out.fz (g:=w.heap.size + 1 + 1) (cs:=flL (0,0)) (ty:=42) (by simp) i
   go_wp2
   refine bodyPost_ret (v:=flV (0,0)) ?_ rfl ?_
   ·simp only [results,hres]
    unfold flV
    simp only
    go_simp
   ·show TPost _ _ _ _ _ _
    rw [HX.out]
    have hoff:=(HB.out.loc (w.heap.size + 1 + 1,flL (0,0),42) (by simp)).1.off
    exact ⟨rfl,(HB.out.fr.setCell (.inr (by omega)) _ _).setCell (.inr (by omega)) _ _,O2,s2,HB.out.new,ck_set (ck_set (HB.out.ck _ rfl).1 hoff _ _) hoff _ _⟩
end Go.Proofs.YtidmjjalpbbfkaaGreat
namespace Go.Proofs.YtidmjjalpbbfkaaGreat
open Go.RowKit Go.Deep Go.Maps
set_option maxRecDepth 20000
theorem LS.putB {w W:World} {O0 O:Nat -> Prop} {b:Nat} {s0 s:Sl} {c c':Ck} {L:List Lo} {i:Nat} {u:Value} (h:LS w O0 O b s0 s (some c) L W) (hc:(ckCells c s).setIfInBounds i u = ckCells c' s) (h1:c'.defs = c.defs) (h2:c'.subst = c.subst) (h3:c'.pieces = c.pieces) (h4:c'.values = c.values) (h5:c'.names = c.names) (hok:CkOk c') :
 LS w O0 O b s0 s (some c') L (W.setCell ⟨b,i,none⟩ u):=by
 obtain ⟨a1,a2,a3⟩:=h.ck c rfl
 refine ⟨fun c2 hc2=>by cases hc2; exact ⟨a1.put hc h1 h2 h3 h4 h5,hok,a3⟩,h.fr.setCell (h.new b a1.inB) i u,h.new,fun g hg=>by have:=h.tight g hg; simpa [World.setCell] using this,fun x hx=>⟨(h.loc x hx).1.other (fun e=>(h.loc x hx).1.off (by rw [e]; exact a1.inB)) i u,(h.loc x hx).2⟩,h.nd⟩
theorem storeI_step {o:Oper} {y:Nat -> Option Bool} {a:Act} {w:World} {K:Act -> World -> Prop} {Q:Exit -> Act -> World -> Prop} {p q g i:Nat} {u:Int} {u0:Value} (h1:o.op = .store 3 (.tmp p) (.tmp q)) (h2:o.dst = none) (h3:o.guard = none)
 (e1:a.tmps[p]?.getD undef = .pointer (some ⟨g,i,none⟩)) (e2:a.tmps[q]?.getD undef = .int .i64 u) (hc:w.cell? ⟨g,i,none⟩ = some u0) (hf:w.frozen? ⟨g,i,none⟩ = false)
 (h:∀ V,V = w.setCell ⟨g,i,none⟩ (.int .i64 u) -> K a V) :
 if Region.wanted o y = true then Oper.wp Tryz.prog o a w K Q else K (a.put o.dst undef) w:=by
 obtain ⟨dst,op,type,pos,after,guard⟩:=o
 simp only at h1 h2 h3
 subst h1 h2 h3
 have:=h _ rfl
 clear h
 go_simp
 exact this
theorem storeB_step {o:Oper} {y:Nat -> Option Bool} {a:Act} {w:World} {K:Act -> World -> Prop} {Q:Exit -> Act -> World -> Prop} {p g i:Nat} {t:Bool} {u0:Value} (h1:o.op = .store 4 (.tmp p) (.const (.bool t))) (h2:o.dst = none) (h3:o.guard = none)
 (e1:a.tmps[p]?.getD undef = .pointer (some ⟨g,i,none⟩)) (hc:w.cell? ⟨g,i,none⟩ = some u0) (hf:w.frozen? ⟨g,i,none⟩ = false)
 (h:∀ V,V = w.setCell ⟨g,i,none⟩ (.bool t) -> K a V) :
 if Region.wanted o y = true then Oper.wp Tryz.prog o a w K Q else K (a.put o.dst undef) w:=by
 obtain ⟨dst,op,type,pos,after,guard⟩:=o
 simp only at h1 h2 h3
 subst h1 h2 h3
 have:=h _ rfl
 clear h
 go_simp
 exact this
end Go.Proofs.YtidmjjalpbbfkaaGreat
