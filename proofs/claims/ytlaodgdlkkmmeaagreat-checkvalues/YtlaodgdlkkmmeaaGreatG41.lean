/-
  One item more: what is needed of it in memory; an item that says again what may be said but once. One item more: kinds 5, 6, 8, 9. One item more: kinds 3, 4, 10.
-/
import Derived.Test.YtlaodgdlkkmmeaaGreatCkT1
import Derived.Test.YtlaodgdlkkmmeaaGreatG39
namespace Go.Proofs.YtlaodgdlkkmmeaaGreat
open Go.RowKit Go.Deep Go.Maps
open Go.Value renaming int->I,pointer->Φ,string->Ψ,slice->Γ
open Go.IntKind renaming i64->J
open Go.Obj renaming cells->Δ
open Go.Ending renaming returned->Ω
set_option maxRecDepth 20000
set_option maxHeartbeats 4000000
theorem LS.startI {b:Nat} {s:Sl} {c:Ck} {w:World} {O:Nat -> Prop} (hck:CkAt O b s c w) (hok:CkOk c) (i:It) (ka:Option Addr) (kn kc:Nat) :
 LS w O (fun g=>O g /\ g < w.heap.size) b s s (some c) [(w.heap.size + 1,flL (0,0),32),(w.heap.size,itL i ka kn kc,67)] ((w.alloc (Δ #[I J i.kind,Ψ (bs i.name),Γ ka kn kc,I J i.pl] 67)).alloc (Δ #[I J 0,I J 0] 32)):=by
 have h1:=((LS.start hck hok).alloc (itL i ka kn kc) 67).alloc (flL (0,0)) 32
 rw [show (w.alloc (Δ (itL i ka kn kc).toArray 67)).heap.size = w.heap.size + 1 by simp] at h1
 exact h1
theorem cell_same {w w':World} {g i:Nat} (h:w'.heap[g]? = w.heap[g]?):w'.cell? ⟨g,i,none⟩ = w.cell? ⟨g,i,none⟩:=by simp [World.cell?,h]
/-- The first expression of an item. -/
theorem one_arg {B:Nat} {w:World} {F:Fo} {ka:Option Addr} {kn:Nat} (hF:FoAt false (fun g=>g < B) w F ka kn) (hn:1 <= kn) (hof:okF F) :
 ∃ g off h k ka1 kn1 kc1,ka = some ⟨g,off,none⟩ /\ arg1 F = (h,k) /\ okE h k /\ ∀ W:World,(∀ q,q < w.heap.size -> q < B -> W.heap[q]? = w.heap[q]?) -> ExAt false (fun g=>g < B) W (h,k) ka1 kn1 /\
   W.cell? ⟨g,off,none⟩ = some (I J h.kind) /\ W.cell? ⟨g,off + 1,none⟩ = some (I J h.num) /\ W.cell? ⟨g,off + 2,none⟩ = some (Ψ (bs h.text)) /\ W.cell? ⟨g,off + 3,none⟩ = some (Γ ka1 kn1 kc1) /\ W.cell? ⟨g,off + 4,none⟩ = some (I J h.pl):=by
 obtain ⟨g,off,hka,hF'⟩:=foAt_addr hF
 obtain ⟨b0,o0,h,k,r,ka1,kn1,kc1,rfl,hg,hd,hfew,⟨c0,c1,c2,c3,c4⟩,hk,hr⟩:=foAt_head hF' (by omega)
 simp only [Nat.zero_mul,Nat.add_zero] at c0 c1 c2 c3 c4
 refine ⟨g,off,h,k,ka1,kn1,kc1,hka (by omega),rfl,(okF_node hof).1,fun W hW=>?_⟩
 have he:W.heap[g]? = w.heap[g]?:=hW g (World.block_lt_of_cell? w _ c0) hg
 exact ⟨⟨hd,hfew,foAt_keep hW hk⟩,(cell_same he).trans c0,(cell_same he).trans c1,(cell_same he).trans c2,(cell_same he).trans c3,(cell_same he).trans c4⟩
/-- Both. -/
theorem two_args {B:Nat} {w:World} {F:Fo} {ka:Option Addr} {kn:Nat} (hF:FoAt false (fun g=>g < B) w F ka kn) (hn:2 <= kn) (hof:okF F) :
 ∃ g off h k ka1 kn1 kc1 h2 k2 la ln lc,ka = some ⟨g,off,none⟩ /\ arg1 F = (h,k) /\ okE h k /\ arg2 F = (h2,k2) /\ okE h2 k2 /\ ∀ W:World,(∀ q,q < w.heap.size -> q < B -> W.heap[q]? = w.heap[q]?) -> (ExAt false (fun g=>g < B) W (h,k) ka1 kn1 /\ ExAt false (fun g=>g < B) W (h2,k2) la ln) /\
   (W.cell? ⟨g,off,none⟩ = some (I J h.kind) /\ W.cell? ⟨g,off + 1,none⟩ = some (I J h.num) /\ W.cell? ⟨g,off + 2,none⟩ = some (Ψ (bs h.text)) /\ W.cell? ⟨g,off + 3,none⟩ = some (Γ ka1 kn1 kc1) /\ W.cell? ⟨g,off + 4,none⟩ = some (I J h.pl)) /\
   W.cell? ⟨g,off + 5,none⟩ = some (I J h2.kind) /\ W.cell? ⟨g,off + 5 + 1,none⟩ = some (I J h2.num) /\ W.cell? ⟨g,off + 5 + 2,none⟩ = some (Ψ (bs h2.text)) /\ W.cell? ⟨g,off + 5 + 3,none⟩ = some (Γ la ln lc) /\ W.cell? ⟨g,off + 5 + 4,none⟩ = some (I J h2.pl):=by
 obtain ⟨g,off,hka,hF'⟩:=foAt_addr hF
 obtain ⟨b0,o0,h,k,r,ka1,kn1,kc1,rfl,hg,hd,hfew,⟨c0,c1,c2,c3,c4⟩,hk,hr⟩:=foAt_head hF' (by omega)
 simp only [Nat.zero_mul,Nat.add_zero] at c0 c1 c2 c3 c4
 obtain ⟨b1,o1,h2,k2,r2,la,ln,lc,rfl,hg2,hd2,hfew2,⟨d0,d1,d2,d3,d4⟩,hk2,hr2⟩:=foAt_head (i:=1) hr (by omega)
 simp only [Nat.one_mul] at d0 d1 d2 d3 d4
 refine ⟨g,off,h,k,ka1,kn1,kc1,h2,k2,la,ln,lc,hka (by omega),rfl,(okF_node hof).1,rfl,(okF_node (okF_node hof).2).1,fun W hW=>?_⟩
 have he:W.heap[g]? = w.heap[g]?:=hW g (World.block_lt_of_cell? w _ c0) hg
 exact ⟨⟨⟨hd,hfew,foAt_keep hW hk⟩,⟨hd2,hfew2,foAt_keep hW hk2⟩⟩,⟨(cell_same he).trans c0,(cell_same he).trans c1,(cell_same he).trans c2,(cell_same he).trans c3,(cell_same he).trans c4⟩,(cell_same he).trans d0,(cell_same he).trans d1,(cell_same he).trans d2,(cell_same he).trans d3,(cell_same he).trans d4⟩
theorem call50_step {o:Oper} {y:Nat -> Option Bool} {a:Act} {w:World} {K:Act -> World -> Prop} {Q:Exit -> Act -> World -> Prop} {i j l d:Nat} {v1 v2 v3:Value} (h1:o.op = .call { callee:=.value (.func 50),args:=#[.tmp i,.tmp j,.tmp l],argTypes:=#[63,9,102] }) (h2:o.dst = some d) (h3:o.guard = none)
 (e1:a.tmps[i]?.getD undef = v1) (e2:a.tmps[j]?.getD undef = v2) (e3:a.tmps[l]?.getD undef = v3) (h:Calls Tryz.prog 50 #[v1,v2,v3] w fun e w'=>∃ u,e = Ω u /\ K (a.put (some d) u) w') :
 if Region.wanted o y = true then Oper.wp Tryz.prog o a w K Q else K (a.put o.dst undef) w:=by
 obtain ⟨dst,op,type,pos,after,guard⟩:=o
 simp only at h1 h2 h3
 subst h1 h2 h3
 subst e1 e2 e3
 go_simp
 refine h.mono ?_
 rintro e V ⟨u,rfl,hV⟩
 exact hV
theorem call52_step {o:Oper} {y:Nat -> Option Bool} {a:Act} {w:World} {K:Act -> World -> Prop} {Q:Exit -> Act -> World -> Prop} {i j l d:Nat} {v1 v2 v3:Value} (h1:o.op = .call { callee:=.value (.func 52),args:=#[.tmp i,.tmp j,.tmp l],argTypes:=#[63,102,102] }) (h2:o.dst = some d) (h3:o.guard = none)
 (e1:a.tmps[i]?.getD undef = v1) (e2:a.tmps[j]?.getD undef = v2) (e3:a.tmps[l]?.getD undef = v3) (h:Calls Tryz.prog 52 #[v1,v2,v3] w fun e w'=>∃ u,e = Ω u /\ K (a.put (some d) u) w') :
 if Region.wanted o y = true then Oper.wp Tryz.prog o a w K Q else K (a.put o.dst undef) w:=by
 obtain ⟨dst,op,type,pos,after,guard⟩:=o
 simp only at h1 h2 h3
 subst h1 h2 h3
 subst e1 e2 e3
 go_simp
 refine h.mono ?_
 rintro e V ⟨u,rfl,hV⟩
 exact hV
theorem call53_step {o:Oper} {y:Nat -> Option Bool} {a:Act} {w:World} {K:Act -> World -> Prop} {Q:Exit -> Act -> World -> Prop} {i j l d:Nat} {v1 v2 v3:Value} (h1:o.op = .call { callee:=.value (.func 53),args:=#[.tmp i,.tmp j,.tmp l],argTypes:=#[63,102,102] }) (h2:o.dst = some d) (h3:o.guard = none)
 (e1:a.tmps[i]?.getD undef = v1) (e2:a.tmps[j]?.getD undef = v2) (e3:a.tmps[l]?.getD undef = v3) (h:Calls Tryz.prog 53 #[v1,v2,v3] w fun e w'=>∃ u,e = Ω u /\ K (a.put (some d) u) w') :
 if Region.wanted o y = true then Oper.wp Tryz.prog o a w K Q else K (a.put o.dst undef) w:=by
 obtain ⟨dst,op,type,pos,after,guard⟩:=o
 simp only at h1 h2 h3
 subst h1 h2 h3
 subst e1 e2 e3
 go_simp
 refine h.mono ?_
 rintro e V ⟨u,rfl,hV⟩
 exact hV
theorem call55_step {o:Oper} {y:Nat -> Option Bool} {a:Act} {w:World} {K:Act -> World -> Prop} {Q:Exit -> Act -> World -> Prop} {i j l d:Nat} {v1 v2 v3:Value} (h1:o.op = .call { callee:=.value (.func 55),args:=#[.tmp i,.tmp j,.tmp l],argTypes:=#[63,102,102] }) (h2:o.dst = some d) (h3:o.guard = none)
 (e1:a.tmps[i]?.getD undef = v1) (e2:a.tmps[j]?.getD undef = v2) (e3:a.tmps[l]?.getD undef = v3) (h:Calls Tryz.prog 55 #[v1,v2,v3] w fun e w'=>∃ u,e = Ω u /\ K (a.put (some d) u) w') :
 if Region.wanted o y = true then Oper.wp Tryz.prog o a w K Q else K (a.put o.dst undef) w:=by
 obtain ⟨dst,op,type,pos,after,guard⟩:=o
 simp only at h1 h2 h3
 subst h1 h2 h3
 subst e1 e2 e3
 go_simp
 refine h.mono ?_
 rintro e V ⟨u,rfl,hV⟩
 exact hV
theorem call56_step {o:Oper} {y:Nat -> Option Bool} {a:Act} {w:World} {K:Act -> World -> Prop} {Q:Exit -> Act -> World -> Prop} {i j l d:Nat} {v1 v2 v3:Value} (h1:o.op = .call { callee:=.value (.func 56),args:=#[.tmp i,.tmp j,.tmp l],argTypes:=#[63,102,102] }) (h2:o.dst = some d) (h3:o.guard = none)
 (e1:a.tmps[i]?.getD undef = v1) (e2:a.tmps[j]?.getD undef = v2) (e3:a.tmps[l]?.getD undef = v3) (h:Calls Tryz.prog 56 #[v1,v2,v3] w fun e w'=>∃ u,e = Ω u /\ K (a.put (some d) u) w') :
 if Region.wanted o y = true then Oper.wp Tryz.prog o a w K Q else K (a.put o.dst undef) w:=by
 obtain ⟨dst,op,type,pos,after,guard⟩:=o
 simp only at h1 h2 h3
 subst h1 h2 h3
 subst e1 e2 e3
 go_simp
 refine h.mono ?_
 rintro e V ⟨u,rfl,hV⟩
 exact hV
theorem call57_step {o:Oper} {y:Nat -> Option Bool} {a:Act} {w:World} {K:Act -> World -> Prop} {Q:Exit -> Act -> World -> Prop} {i j l d:Nat} {v1 v2 v3:Value} (h1:o.op = .call { callee:=.value (.func 57),args:=#[.tmp i,.tmp j,.tmp l],argTypes:=#[63,102,107] }) (h2:o.dst = some d) (h3:o.guard = none)
 (e1:a.tmps[i]?.getD undef = v1) (e2:a.tmps[j]?.getD undef = v2) (e3:a.tmps[l]?.getD undef = v3) (h:Calls Tryz.prog 57 #[v1,v2,v3] w fun e w'=>∃ u,e = Ω u /\ K (a.put (some d) u) w') :
 if Region.wanted o y = true then Oper.wp Tryz.prog o a w K Q else K (a.put o.dst undef) w:=by
 obtain ⟨dst,op,type,pos,after,guard⟩:=o
 simp only at h1 h2 h3
 subst h1 h2 h3
 subst e1 e2 e3
 go_simp
 refine h.mono ?_
 rintro e V ⟨u,rfl,hV⟩
 exact hV
/-- Twice is asked of an item in its box. -/
theorem LS.twice {w W:World} {O0 O:Nat -> Prop} {b:Nat} {s0 s:Sl} {c:Ck} {L:List Lo} (h:LS w O0 O b s0 s (some c) L W) (i:It) (ka:Option Addr) (kn kc:Nat) (hk1:1 <= i.kind) (hk2:i.kind <= 10) (hn:i.name.length <= maxLen) :
 Calls Tryz.prog 48 #[Φ (some ⟨b,0,none⟩),itV i ka kn kc] W fun e w'=>e = Ω (.bool (twiceB c i)) /\ Hid (LS w O0 O b s0 s (some c) L w'):=by
 refine (twice_calls i ka kn kc W (h.ck c rfl).1 hk1 hk2 hn).mono ?_
 rintro e w' ⟨rfl,hb⟩
 exact ⟨rfl,h.next hb⟩
theorem CkOk.pl {c:Ck} (h:CkOk c) (p:Int):CkOk { c with pl:=p }:=⟨h.vals,h.same,h.few,h.names,h.alpha,h.sub,h.pcs⟩
theorem CkOk.had {c:Ck} (h:CkOk c) (p:Int) (f:Nat -> Bool):CkOk { c with pl:=p,had:=f }:=⟨h.vals,h.same,h.few,h.names,h.alpha,h.sub,h.pcs⟩
theorem take_twice {O:Nat -> Prop} {b:Nat} {s:Sl} {c:Ck} (i:It) (ka:Option Addr) (kn kc:Nat) (w:World) (hck:CkAt O b s c w) (hok:CkOk c) (hk1:1 <= i.kind) (hk2:i.kind <= 10) (hn:i.name.length <= maxLen) (htw:twiceB { c with pl:=i.pl } i = true) :
 Calls Tryz.prog 28 #[Φ (some ⟨b,0,none⟩),itV i ka kn kc] w (TPost O b w (.error (90,i.pl))):=by
 have hres:Tryz.f28.results = #[.cell 4 32]:=by kernel_rfl
 have hS1:=LS.startI hck hok i ka kn kc
 have HTW:Hid (∀ O' s' L W,LS w O O' b s s' (some { c with pl:=i.pl }) L W -> Calls Tryz.prog 48 #[Φ (some ⟨b,0,none⟩),.agg #[I J i.kind,Ψ (bs i.name),Γ ka kn kc,I J i.pl]] W fun e w'=>e = Ω (.bool true) /\ Hid (LS w O O' b s s' (some { c with pl:=i.pl }) L w')):=fun O' s' L W hL=>by
  have:=hL.twice i ka kn kc hk1 hk2 hn
  rw [htw] at this; exact this
 have HW:Hid (∀ O' s' W,LS w O O' b s s' (some { c with pl:=i.pl }) [(w.heap.size + 1,flL (0,0),32),(w.heap.size,itL i ka kn kc,67)] W -> Calls Tryz.prog 49 #[Φ (some ⟨b,0,none⟩),I J 90] W fun e w'=>e = Ω (.agg #[I J 90,I J i.pl]) /\ w'.cell? ⟨w.heap.size + 1,0,none⟩ = some (I J 0) /\ w'.cell? ⟨w.heap.size + 1,1,none⟩ = some (I J 0) /\ (∀ i,w'.frozen? ⟨w.heap.size + 1,i,none⟩ = false) /\ Hid (Fr O w w')):=fun O' s' W hL=>by
  refine (wrongC_calls 90 W (hL.ck _ rfl).1).mono ?_
  rintro e w' ⟨rfl,hb⟩
  have h2:=hL.next hb
  exact ⟨rfl,h2.at (g:=w.heap.size + 1) (cs:=flL (0,0)) (ty:=32) (by simp) rfl,h2.at (g:=w.heap.size + 1) (cs:=flL (0,0)) (ty:=32) (by simp) rfl,fun i=>h2.fz (g:=w.heap.size + 1) (cs:=flL (0,0)) (ty:=32) (by simp) i,h2.fr⟩
 have HOK:Hid (CkOk { c with pl:=i.pl }):=hok.pl i.pl
 generalize hO1:(fun g=>O g /\ g < w.heap.size) = O1 at hS1
 clear hO1 hck hok hk1 hk2 hn htw
 unfold itV
 have HS1:=hid hS1
 clear hS1
 go_enter Tryz.func28,Tryz.ntmps28
 go_upto_region 1 with (fail)
 generalize ((w.alloc (Δ #[I J i.kind,Ψ (bs i.name),Γ ka kn kc,I J i.pl] 67)).alloc (Δ #[I J 0,I J 0] 32)) = w1 at *
 have x3:w1.cell? ⟨w.heap.size,3,none⟩ = some (I J i.pl):=HS1.out.at (g:=w.heap.size) (cs:=itL i ka kn kc) (ty:=67) (by simp) rfl
 have b24:w1.cell? ⟨b,24,none⟩ = some (I J c.pl):=(HS1.out.ck _ rfl).1.c24
 have bf:w1.frozen? ⟨b,24,none⟩ = false:=(HS1.out.ck _ rfl).1.fz 24
 have HS2:Hid (LS w O O1 b s s (some { c with pl:=i.pl }) [(w.heap.size + 1,flL (0,0),32),(w.heap.size,itL i ka kn kc,67)] (w1.setCell ⟨b,24,none⟩ (I J i.pl))):=HS1.out.putB rfl rfl rfl rfl rfl rfl HOK.out
 go_upto_region 2 with (fail)
 clear x3 b24 bf HS1
 generalize w1.setCell ⟨b,24,none⟩ (I J i.pl) = w2 at *
 have x0:w2.cell? ⟨w.heap.size,0,none⟩ = some (I J i.kind):=HS2.out.at (g:=w.heap.size) (cs:=itL i ka kn kc) (ty:=67) (by simp) rfl
 have x1:w2.cell? ⟨w.heap.size,1,none⟩ = some (Ψ (bs i.name)):=HS2.out.at (g:=w.heap.size) (cs:=itL i ka kn kc) (ty:=67) (by simp) rfl
 have x2:w2.cell? ⟨w.heap.size,2,none⟩ = some (Γ ka kn kc):=HS2.out.at (g:=w.heap.size) (cs:=itL i ka kn kc) (ty:=67) (by simp) rfl
 have x3:w2.cell? ⟨w.heap.size,3,none⟩ = some (I J i.pl):=HS2.out.at (g:=w.heap.size) (cs:=itL i ka kn kc) (ty:=67) (by simp) rfl
 go_wp2_with (first
  | (go_at_call 48; refine (HTW.out _ _ _ _ HS2.out).mono ?_; rintro e w3 ⟨rfl,HS3⟩)
  | (go_at_call 49; refine (HW.out _ _ _ HS3.out).mono ?_; rintro e w4 ⟨rfl,z0,z1,zf,HF⟩))
 refine bodyPost_ret (v:=flV (90,i.pl)) ?_ rfl ?_
 ·simp only [results,hres]
  unfold flV
  simp only
  go_simp
 ·show TPost _ _ _ _ _ _
  exact ⟨by simp,rfl,(HF.out.setCell (.inr (by omega)) _ _).setCell (.inr (by omega)) _ _⟩
set_option maxRecDepth 20000
set_option maxHeartbeats 4000000
theorem take_5 {B:Nat} {O:Nat -> Prop} {b:Nat} {s:Sl} {c:Ck} (i:It) (ka:Option Addr) (kc:Nat) (w:World) (hck:CkAt O b s c w) (hok:CkOk c) (hlow:∀ g,O g -> B <= g) (hB:B <= w.heap.size) (hF:FoAt false (fun g=>g < B) w i.args ka 2) (hof:okF i.args) (hn:i.name.length <= maxLen) (hk:i.kind = 5) (htw:twiceB { c with pl:=i.pl } i = false) (hal:c.had 2 = true -> c.letters ≠ []) :
 Calls Tryz.prog 28 #[Φ (some ⟨b,0,none⟩),itV i ka 2 kc] w (TPost O b w (pairB ({ c with pl:=i.pl,had:=putHad c.had 5 }) (arg1 i.args) (arg2 i.args))):=by
 have hres:Tryz.f28.results = #[.cell 4 32]:=by kernel_rfl
 obtain ⟨g,off,h,k,ka1,kn1,kc1,h2,k2,la,ln,lc,rfl,ha1,hr1,ha2,hr2,hat⟩:=two_args hF (by omega) hof
 rw [ha1,ha2]
 have hS1:LS w O (fun g=>O g /\ g < w.heap.size) b s s (some c) [(w.heap.size + 1,flL (0,0),32),(w.heap.size,[I J 5,Ψ (bs i.name),Γ (some ⟨g,off,none⟩) 2 kc,I J i.pl],67)] ((w.alloc (Δ #[I J 5,Ψ (bs i.name),Γ (some ⟨g,off,none⟩) 2 kc,I J i.pl] 67)).alloc (Δ #[I J 0,I J 0] 32)):=by
  have:=LS.startI hck hok i (some ⟨g,off,none⟩) 2 kc
  unfold itL at this
  rw [hk] at this
  exact this
 have hmem:∀ W,Fr O w W -> ∀ q,q < w.heap.size -> q < B -> W.heap[q]? = w.heap[q]?:=fun W hf q hq hqB=>hf.block q hq (fun ho=>by have:=hlow q ho; omega)
 obtain ⟨r,hr⟩:∃ r,r = pairB ({ c with pl:=i.pl,had:=putHad c.had 5 }) (h,k) (h2,k2):=⟨_,rfl⟩
 rw [<- hr]
 have HC:Hid (∀ O' s' W,LS w O O' b s s' (some { c with pl:=i.pl,had:=putHad c.had 5 }) [(w.heap.size + 1,flL (0,0),32),(w.heap.size,[I J 5,Ψ (bs i.name),Γ (some ⟨g,off,none⟩) 2 kc,I J i.pl],67)] W -> Calls Tryz.prog 52 #[Φ (some ⟨b,0,none⟩),.agg #[I J h.kind,I J h.num,Ψ (bs h.text),Γ ka1 kn1 kc1,I J h.pl],.agg #[I J h2.kind,I J h2.num,Ψ (bs h2.text),Γ la ln lc,I J h2.pl]] W (TPost O' b W r)):=by
  intro O' s' W hL
  have hlow':∀ g,O' g -> B <= g:=fun q hq=>by rcases hL.new q hq with h1 | h1; exact hlow q h1; omega
  obtain ⟨hE,-⟩:=hat W (hmem W hL.fr)
  have hB':=Nat.le_trans hB hL.fr.size
  obtain ⟨k1,k2',k3⟩:=hL.ck _ rfl
  rw [hr]
  exact pair_calls h k ka1 kn1 kc1 h2 k2 la ln lc W k1 k2' hlow' hB' hE.1 hr1 hE.2 hr2 hal
 have HTW:Hid (∀ O' s' L W,LS w O O' b s s' (some { c with pl:=i.pl }) L W -> Calls Tryz.prog 48 #[Φ (some ⟨b,0,none⟩),.agg #[I J 5,Ψ (bs i.name),Γ (some ⟨g,off,none⟩) 2 kc,I J i.pl]] W fun e w'=>e = Ω (.bool false) /\ Hid (LS w O O' b s s' (some { c with pl:=i.pl }) L w')):=fun O' s' L W hL=>by
  have:=hL.twice i (some ⟨g,off,none⟩) 2 kc (by omega) (by omega) hn
  rw [htw] at this
  unfold itV at this
  rw [hk] at this
  exact this
 have HSS:Hid (∀ O' s' oc W,LS w O O' b s s' oc [(w.heap.size + 1,flL (0,0),32),(w.heap.size,[I J 5,Ψ (bs i.name),Γ (some ⟨g,off,none⟩) 2 kc,I J i.pl],67)] W -> W.cell? ⟨w.heap.size,2,none⟩ = some (Γ (some ⟨g,off,none⟩) 2 kc) /\ W.cell? ⟨g,off,none⟩ = some (I J h.kind) /\ W.cell? ⟨g,off + 1,none⟩ = some (I J h.num) /\ W.cell? ⟨g,off + 2,none⟩ = some (Ψ (bs h.text)) /\ W.cell? ⟨g,off + 3,none⟩ = some (Γ ka1 kn1 kc1) /\ W.cell? ⟨g,off + 4,none⟩ = some (I J h.pl) /\ W.cell? ⟨g,off + 5,none⟩ = some (I J h2.kind) /\ W.cell? ⟨g,off + 5 + 1,none⟩ = some (I J h2.num) /\ W.cell? ⟨g,off + 5 + 2,none⟩ = some (Ψ (bs h2.text)) /\ W.cell? ⟨g,off + 5 + 3,none⟩ = some (Γ la ln lc) /\ W.cell? ⟨g,off + 5 + 4,none⟩ = some (I J h2.pl)):=fun O' s' oc W hL=>⟨hL.at (g:=w.heap.size) (cs:=[I J 5,Ψ (bs i.name),Γ (some ⟨g,off,none⟩) 2 kc,I J i.pl]) (ty:=67) (by simp) rfl,(hat W (hmem W hL.fr)).2.1.1,(hat W (hmem W hL.fr)).2.1.2.1,(hat W (hmem W hL.fr)).2.1.2.2.1,(hat W (hmem W hL.fr)).2.1.2.2.2.1,(hat W (hmem W hL.fr)).2.1.2.2.2.2,(hat W (hmem W hL.fr)).2.2⟩
 have HOK:Hid (CkOk { c with pl:=i.pl } /\ CkOk { c with pl:=i.pl,had:=putHad c.had 5 }):=⟨hok.pl i.pl,hok.had i.pl _⟩
 generalize hO1:(fun g=>O g /\ g < w.heap.size) = O1 at hS1
 clear hO1 hck hok hlow hB hF hof hn htw hmem hat hr ha1 ha2 hr1 hr2 hal
 unfold itV
 rw [hk]
 clear hk
 have HS1:=hid hS1
 clear hS1
 go_enter Tryz.func28,Tryz.ntmps28
 go_upto_region 1 with (fail)
 generalize ((w.alloc (Δ #[I J 5,Ψ (bs i.name),Γ (some ⟨g,off,none⟩) 2 kc,I J i.pl] 67)).alloc (Δ #[I J 0,I J 0] 32)) = w1 at *
 have x3:w1.cell? ⟨w.heap.size,3,none⟩ = some (I J i.pl):=HS1.out.at (g:=w.heap.size) (cs:=[I J 5,Ψ (bs i.name),Γ (some ⟨g,off,none⟩) 2 kc,I J i.pl]) (ty:=67) (by simp) rfl
 have b24:w1.cell? ⟨b,24,none⟩ = some (I J c.pl):=(HS1.out.ck _ rfl).1.c24
 have bf:w1.frozen? ⟨b,24,none⟩ = false:=(HS1.out.ck _ rfl).1.fz 24
 have HS2:Hid (LS w O O1 b s s (some { c with pl:=i.pl }) [(w.heap.size + 1,flL (0,0),32),(w.heap.size,[I J 5,Ψ (bs i.name),Γ (some ⟨g,off,none⟩) 2 kc,I J i.pl],67)] (w1.setCell ⟨b,24,none⟩ (I J i.pl))):=HS1.out.putB rfl rfl rfl rfl rfl rfl HOK.out.1
 go_upto_region 2 with (fail)
 clear x3 b24 bf HS1
 generalize w1.setCell ⟨b,24,none⟩ (I J i.pl) = w2 at *
 have x0:w2.cell? ⟨w.heap.size,0,none⟩ = some (I J 5):=HS2.out.at (g:=w.heap.size) (cs:=[I J 5,Ψ (bs i.name),Γ (some ⟨g,off,none⟩) 2 kc,I J i.pl]) (ty:=67) (by simp) rfl
 have x1:w2.cell? ⟨w.heap.size,1,none⟩ = some (Ψ (bs i.name)):=HS2.out.at (g:=w.heap.size) (cs:=[I J 5,Ψ (bs i.name),Γ (some ⟨g,off,none⟩) 2 kc,I J i.pl]) (ty:=67) (by simp) rfl
 have x2:w2.cell? ⟨w.heap.size,2,none⟩ = some (Γ (some ⟨g,off,none⟩) 2 kc):=HS2.out.at (g:=w.heap.size) (cs:=[I J 5,Ψ (bs i.name),Γ (some ⟨g,off,none⟩) 2 kc,I J i.pl]) (ty:=67) (by simp) rfl
 have x3:w2.cell? ⟨w.heap.size,3,none⟩ = some (I J i.pl):=HS2.out.at (g:=w.heap.size) (cs:=[I J 5,Ψ (bs i.name),Γ (some ⟨g,off,none⟩) 2 kc,I J i.pl]) (ty:=67) (by simp) rfl
 go_wp2_with (go_at_call 48; refine (HTW.out _ _ _ _ HS2.out).mono ?_; rintro e w3 ⟨rfl,HS3⟩)
 clear x0 x1 x2 x3 HS2 HTW
 have HL4:=hid (HS3.out.drew)
 have HS0:Hid (w3.drew.cell? ⟨w.heap.size,0,none⟩ = some (I J 5)):=HL4.out.at (g:=w.heap.size) (cs:=[I J 5,Ψ (bs i.name),Γ (some ⟨g,off,none⟩) 2 kc,I J i.pl]) (ty:=67) (by simp) rfl
 clear HS3
 refine wp_region_Y (fun j=>[6].contains j) (fun W=>W.cell? ⟨w.heap.size,0,none⟩ = some (I J 5)) (by kernel_rfl) ?_
 refine tkL (i:=0) 15 (v:=Φ (some ⟨b,0,none⟩)) rfl rfl HS0.out (fun W hW=>by go_simp) ?_
 simp only [Act.put,lA,lB,lC]
 refine tkL (i:=1) 16 (v:=Φ (some ⟨w.heap.size,0,none⟩)) rfl rfl HS0.out (fun W hW=>by go_simp) ?_
 simp only [Act.put,lA,lB,lC]
 refine tkL (i:=2) 17 (v:=I J 5) rfl rfl HS0.out (fun W hW=>by go_simp) ?_
 simp only [Act.put,lA,lB,lC]
 refine tkL (i:=3) 18 (v:=Φ (some ⟨b,0,none⟩)) rfl rfl HS0.out (fun W hW=>by go_simp) ?_
 simp only [Act.put,lA,lB,lC]
 refine tkL (i:=4) 19 (v:=Φ (some ⟨b,13,none⟩)) rfl rfl HS0.out (fun W hW=>by go_simp) ?_
 simp only [Act.put,lA,lB,lC]
 refine tkL (i:=5) 20 (v:=Φ (some ⟨b,18,none⟩)) rfl rfl HS0.out (fun W hW=>by go_simp) ?_
 simp only [Act.put,lA,lB,lC]
 refine wpAnyY_one (i:=6) rfl (by kernel_rfl) (fun K hK=>?_)
 refine storeB_step rfl rfl rfl rfl ((HL4.out.ck _ rfl).1.hadk (k:=5) (by omega)) ((HL4.out.ck _ rfl).1.fz 18) ?_
 intro V hV
 have HL5:Hid (LS w O O1 b s s (some { c with pl:=i.pl,had:=putHad c.had 5 }) [(w.heap.size + 1,flL (0,0),32),(w.heap.size,[I J 5,Ψ (bs i.name),Γ (some ⟨g,off,none⟩) 2 kc,I J i.pl],67)] V):=by subst hV; exact HL4.out.putB rfl rfl rfl rfl rfl rfl HOK.out.2
 refine hK.out _ _ (fun hh=>absurd hh (by decide)) ?_
 clear hK K HL4 HS0 hV HOK
 refine wpAnyY_done (by kernel_rfl) ?_ _
 have x0:V.cell? ⟨w.heap.size,0,none⟩ = some (I J 5):=HL5.out.at (g:=w.heap.size) (cs:=[I J 5,Ψ (bs i.name),Γ (some ⟨g,off,none⟩) 2 kc,I J i.pl]) (ty:=67) (by simp) rfl
 go_wp2_with fail
 clear x0
 have HL6:=hid (HL5.out.drew)
 have HS0:Hid (V.drew.cell? ⟨w.heap.size,2,none⟩ = some (Γ (some ⟨g,off,none⟩) 2 kc) /\ V.drew.cell? ⟨g,off,none⟩ = some (I J h.kind) /\ V.drew.cell? ⟨g,off + 1,none⟩ = some (I J h.num) /\ V.drew.cell? ⟨g,off + 2,none⟩ = some (Ψ (bs h.text)) /\ V.drew.cell? ⟨g,off + 3,none⟩ = some (Γ ka1 kn1 kc1) /\ V.drew.cell? ⟨g,off + 4,none⟩ = some (I J h.pl) /\ V.drew.cell? ⟨g,off + 5,none⟩ = some (I J h2.kind) /\ V.drew.cell? ⟨g,off + 5 + 1,none⟩ = some (I J h2.num) /\ V.drew.cell? ⟨g,off + 5 + 2,none⟩ = some (Ψ (bs h2.text)) /\ V.drew.cell? ⟨g,off + 5 + 3,none⟩ = some (Γ la ln lc) /\ V.drew.cell? ⟨g,off + 5 + 4,none⟩ = some (I J h2.pl)):=HSS.out _ _ _ _ HL6.out
 clear HL5
 refine wp_region_Y (fun j=>[9,10].contains j) (fun W=>W.cell? ⟨w.heap.size,2,none⟩ = some (Γ (some ⟨g,off,none⟩) 2 kc) /\ W.cell? ⟨g,off,none⟩ = some (I J h.kind) /\ W.cell? ⟨g,off + 1,none⟩ = some (I J h.num) /\ W.cell? ⟨g,off + 2,none⟩ = some (Ψ (bs h.text)) /\ W.cell? ⟨g,off + 3,none⟩ = some (Γ ka1 kn1 kc1) /\ W.cell? ⟨g,off + 4,none⟩ = some (I J h.pl) /\ W.cell? ⟨g,off + 5,none⟩ = some (I J h2.kind) /\ W.cell? ⟨g,off + 5 + 1,none⟩ = some (I J h2.num) /\ W.cell? ⟨g,off + 5 + 2,none⟩ = some (Ψ (bs h2.text)) /\ W.cell? ⟨g,off + 5 + 3,none⟩ = some (Γ la ln lc) /\ W.cell? ⟨g,off + 5 + 4,none⟩ = some (I J h2.pl)) (by kernel_rfl) ?_
 refine tkL (i:=0) 43 (v:=Φ (some ⟨b,0,none⟩)) rfl rfl HS0.out (fun W hW=>by obtain ⟨_,_,_,_,_,_,_,_,_,_,_⟩:=hW; go_simp) ?_
 simp only [Act.put,lA,lB,lC]
 refine tkL (i:=1) 44 (v:=Φ (some ⟨w.heap.size,2,none⟩)) rfl rfl HS0.out (fun W hW=>by obtain ⟨_,_,_,_,_,_,_,_,_,_,_⟩:=hW; go_simp) ?_
 simp only [Act.put,lA,lB,lC]
 refine tkL (i:=2) 45 (v:=Γ (some ⟨g,off,none⟩) 2 kc) rfl rfl HS0.out (fun W hW=>by obtain ⟨_,_,_,_,_,_,_,_,_,_,_⟩:=hW; go_simp) ?_
 simp only [Act.put,lA,lB,lC]
 refine tkL (i:=3) 46 (v:=Φ (some ⟨g,off,none⟩)) rfl rfl HS0.out (fun W hW=>by obtain ⟨_,_,_,_,_,_,_,_,_,_,_⟩:=hW; go_simp) ?_
 simp only [Act.put,lA,lB,lC]
 refine tkL (i:=4) 47 (v:=.agg #[I J h.kind,I J h.num,Ψ (bs h.text),Γ ka1 kn1 kc1,I J h.pl]) rfl rfl HS0.out (fun W hW=>by obtain ⟨_,_,_,_,_,_,_,_,_,_,_⟩:=hW; go_simp) ?_
 simp only [Act.put,lA,lB,lC]
 refine tkL (i:=5) 48 (v:=Φ (some ⟨w.heap.size,2,none⟩)) rfl rfl HS0.out (fun W hW=>by obtain ⟨_,_,_,_,_,_,_,_,_,_,_⟩:=hW; go_simp) ?_
 simp only [Act.put,lA,lB,lC]
 refine tkL (i:=6) 49 (v:=Γ (some ⟨g,off,none⟩) 2 kc) rfl rfl HS0.out (fun W hW=>by obtain ⟨_,_,_,_,_,_,_,_,_,_,_⟩:=hW; go_simp) ?_
 simp only [Act.put,lA,lB,lC]
 refine tkL (i:=7) 50 (v:=Φ (some ⟨g,off + 5,none⟩)) rfl rfl HS0.out (fun W hW=>by obtain ⟨_,_,_,_,_,_,_,_,_,_,_⟩:=hW; go_simp) ?_
 simp only [Act.put,lA,lB,lC]
 refine tkL (i:=8) 51 (v:=.agg #[I J h2.kind,I J h2.num,Ψ (bs h2.text),Γ la ln lc,I J h2.pl]) rfl rfl HS0.out (fun W hW=>by obtain ⟨_,_,_,_,_,_,_,_,_,_,_⟩:=hW; go_simp) ?_
 simp only [Act.put,lA,lB,lC]
 refine wpAnyY_one (i:=9) rfl (by kernel_rfl) (fun K hK=>?_)
 refine call52_step rfl rfl rfl rfl rfl rfl ?_
 refine (HC.out _ _ _ HL6.out).mono ?_
 intro e V2 hp
 obtain ⟨f1,f2,hff⟩:∃ f1 f2,faultOf r = (f1,f2):=⟨_,_,rfl⟩
 have hRl:=HL6.out.loc (w.heap.size + 1,flL (0,0),32) (by simp)
 have hl:=hRl.1.fr (O':=O1) hp.val.2 (fun g hg=>.inl hg)
 have hv:=hp.val.1
 rw [hff] at hv
 have HF:Hid (∀ u v,TPost O b w r e ((V2.setCell ⟨w.heap.size + 1,0,none⟩ u).setCell ⟨w.heap.size + 1,1,none⟩ v)):=fun u v=>hp.lift HL6.out.fr HL6.out.new hRl.1.off hRl.2 hRl.1.lt u v
 refine ⟨_,hv,?_⟩
 subst hv
 refine hK.out _ _ (fun hh=>absurd hh (by decide)) ?_
 clear hK K HL6 HS0 HC HSS hff hp hRl
 simp only [Act.put,lA,lB,lC]
 refine wpAnyY_one (i:=10) rfl (by kernel_rfl) (fun K hK=>?_)
 refine store32_step rfl rfl rfl rfl rfl hl.heap ?_
 intro V3 hV
 have HF3:Hid (TPost O b w r (Ω (.agg #[I J f1,I J f2])) V3):=by rw [hV]; exact HF.out _ _
 have hl3:V3.heap[w.heap.size + 1]? = some (Δ #[I J f1,I J f2] 32 (0,0)):=by rw [hV]; exact ((hl.put 0 (I J f1)).put 1 (I J f2)).heap
 refine hK.out _ _ (fun hh=>absurd hh (by decide)) ?_
 clear hK K HF hl hV
 have z0:V3.cell? ⟨w.heap.size + 1,0,none⟩ = some (I J f1):=blk hl3 rfl
 have z1:V3.cell? ⟨w.heap.size + 1,1,none⟩ = some (I J f2):=blk hl3 rfl
 clear hl3
 refine wpAnyY_done (by kernel_rfl) ?_ _
 go_wp2
 refine bodyPost_ret (v:=flV (f1,f2)) ?_ rfl ?_
 ·simp only [results,hres]
  unfold flV
  simp only
  go_simp
 ·show TPost _ _ _ _ _ _
  exact HF3.out
theorem take_6 {B:Nat} {O:Nat -> Prop} {b:Nat} {s:Sl} {c:Ck} (i:It) (ka:Option Addr) (kc:Nat) (w:World) (hck:CkAt O b s c w) (hok:CkOk c) (hlow:∀ g,O g -> B <= g) (hB:B <= w.heap.size) (hF:FoAt false (fun g=>g < B) w i.args ka 2) (hof:okF i.args) (hn:i.name.length <= maxLen) (hk:i.kind = 6) (htw:twiceB { c with pl:=i.pl } i = false) :
 Calls Tryz.prog 28 #[Φ (some ⟨b,0,none⟩),itV i ka 2 kc] w (TPost O b w (gapB ({ c with pl:=i.pl,had:=putHad c.had 6 }) (arg1 i.args) (arg2 i.args))):=by
 have hres:Tryz.f28.results = #[.cell 4 32]:=by kernel_rfl
 obtain ⟨g,off,h,k,ka1,kn1,kc1,h2,k2,la,ln,lc,rfl,ha1,hr1,ha2,hr2,hat⟩:=two_args hF (by omega) hof
 rw [ha1,ha2]
 have hS1:LS w O (fun g=>O g /\ g < w.heap.size) b s s (some c) [(w.heap.size + 1,flL (0,0),32),(w.heap.size,[I J 6,Ψ (bs i.name),Γ (some ⟨g,off,none⟩) 2 kc,I J i.pl],67)] ((w.alloc (Δ #[I J 6,Ψ (bs i.name),Γ (some ⟨g,off,none⟩) 2 kc,I J i.pl] 67)).alloc (Δ #[I J 0,I J 0] 32)):=by
  have:=LS.startI hck hok i (some ⟨g,off,none⟩) 2 kc
  unfold itL at this
  rw [hk] at this
  exact this
 have hmem:∀ W,Fr O w W -> ∀ q,q < w.heap.size -> q < B -> W.heap[q]? = w.heap[q]?:=fun W hf q hq hqB=>hf.block q hq (fun ho=>by have:=hlow q ho; omega)
 obtain ⟨r,hr⟩:∃ r,r = gapB ({ c with pl:=i.pl,had:=putHad c.had 6 }) (h,k) (h2,k2):=⟨_,rfl⟩
 rw [<- hr]
 have HC:Hid (∀ O' s' W,LS w O O' b s s' (some { c with pl:=i.pl,had:=putHad c.had 6 }) [(w.heap.size + 1,flL (0,0),32),(w.heap.size,[I J 6,Ψ (bs i.name),Γ (some ⟨g,off,none⟩) 2 kc,I J i.pl],67)] W -> Calls Tryz.prog 53 #[Φ (some ⟨b,0,none⟩),.agg #[I J h.kind,I J h.num,Ψ (bs h.text),Γ ka1 kn1 kc1,I J h.pl],.agg #[I J h2.kind,I J h2.num,Ψ (bs h2.text),Γ la ln lc,I J h2.pl]] W (TPost O' b W r)):=by
  intro O' s' W hL
  have hlow':∀ g,O' g -> B <= g:=fun q hq=>by rcases hL.new q hq with h1 | h1; exact hlow q h1; omega
  obtain ⟨hE,-⟩:=hat W (hmem W hL.fr)
  have hB':=Nat.le_trans hB hL.fr.size
  obtain ⟨k1,k2',k3⟩:=hL.ck _ rfl
  rw [hr]
  exact gap_calls h k ka1 kn1 kc1 h2 k2 la ln lc W k1 k2' hlow' hB' hE.1 hr1 hE.2 hr2
 have HTW:Hid (∀ O' s' L W,LS w O O' b s s' (some { c with pl:=i.pl }) L W -> Calls Tryz.prog 48 #[Φ (some ⟨b,0,none⟩),.agg #[I J 6,Ψ (bs i.name),Γ (some ⟨g,off,none⟩) 2 kc,I J i.pl]] W fun e w'=>e = Ω (.bool false) /\ Hid (LS w O O' b s s' (some { c with pl:=i.pl }) L w')):=fun O' s' L W hL=>by
  have:=hL.twice i (some ⟨g,off,none⟩) 2 kc (by omega) (by omega) hn
  rw [htw] at this
  unfold itV at this
  rw [hk] at this
  exact this
 have HSS:Hid (∀ O' s' oc W,LS w O O' b s s' oc [(w.heap.size + 1,flL (0,0),32),(w.heap.size,[I J 6,Ψ (bs i.name),Γ (some ⟨g,off,none⟩) 2 kc,I J i.pl],67)] W -> W.cell? ⟨w.heap.size,2,none⟩ = some (Γ (some ⟨g,off,none⟩) 2 kc) /\ W.cell? ⟨g,off,none⟩ = some (I J h.kind) /\ W.cell? ⟨g,off + 1,none⟩ = some (I J h.num) /\ W.cell? ⟨g,off + 2,none⟩ = some (Ψ (bs h.text)) /\ W.cell? ⟨g,off + 3,none⟩ = some (Γ ka1 kn1 kc1) /\ W.cell? ⟨g,off + 4,none⟩ = some (I J h.pl) /\ W.cell? ⟨g,off + 5,none⟩ = some (I J h2.kind) /\ W.cell? ⟨g,off + 5 + 1,none⟩ = some (I J h2.num) /\ W.cell? ⟨g,off + 5 + 2,none⟩ = some (Ψ (bs h2.text)) /\ W.cell? ⟨g,off + 5 + 3,none⟩ = some (Γ la ln lc) /\ W.cell? ⟨g,off + 5 + 4,none⟩ = some (I J h2.pl)):=fun O' s' oc W hL=>⟨hL.at (g:=w.heap.size) (cs:=[I J 6,Ψ (bs i.name),Γ (some ⟨g,off,none⟩) 2 kc,I J i.pl]) (ty:=67) (by simp) rfl,(hat W (hmem W hL.fr)).2.1.1,(hat W (hmem W hL.fr)).2.1.2.1,(hat W (hmem W hL.fr)).2.1.2.2.1,(hat W (hmem W hL.fr)).2.1.2.2.2.1,(hat W (hmem W hL.fr)).2.1.2.2.2.2,(hat W (hmem W hL.fr)).2.2⟩
 have HOK:Hid (CkOk { c with pl:=i.pl } /\ CkOk { c with pl:=i.pl,had:=putHad c.had 6 }):=⟨hok.pl i.pl,hok.had i.pl _⟩
 generalize hO1:(fun g=>O g /\ g < w.heap.size) = O1 at hS1
 clear hO1 hck hok hlow hB hF hof hn htw hmem hat hr ha1 ha2 hr1 hr2
 unfold itV
 rw [hk]
 clear hk
 have HS1:=hid hS1
 clear hS1
 go_enter Tryz.func28,Tryz.ntmps28
 go_upto_region 1 with (fail)
 generalize ((w.alloc (Δ #[I J 6,Ψ (bs i.name),Γ (some ⟨g,off,none⟩) 2 kc,I J i.pl] 67)).alloc (Δ #[I J 0,I J 0] 32)) = w1 at *
 have x3:w1.cell? ⟨w.heap.size,3,none⟩ = some (I J i.pl):=HS1.out.at (g:=w.heap.size) (cs:=[I J 6,Ψ (bs i.name),Γ (some ⟨g,off,none⟩) 2 kc,I J i.pl]) (ty:=67) (by simp) rfl
 have b24:w1.cell? ⟨b,24,none⟩ = some (I J c.pl):=(HS1.out.ck _ rfl).1.c24
 have bf:w1.frozen? ⟨b,24,none⟩ = false:=(HS1.out.ck _ rfl).1.fz 24
 have HS2:Hid (LS w O O1 b s s (some { c with pl:=i.pl }) [(w.heap.size + 1,flL (0,0),32),(w.heap.size,[I J 6,Ψ (bs i.name),Γ (some ⟨g,off,none⟩) 2 kc,I J i.pl],67)] (w1.setCell ⟨b,24,none⟩ (I J i.pl))):=HS1.out.putB rfl rfl rfl rfl rfl rfl HOK.out.1
 go_upto_region 2 with (fail)
 clear x3 b24 bf HS1
 generalize w1.setCell ⟨b,24,none⟩ (I J i.pl) = w2 at *
 have x0:w2.cell? ⟨w.heap.size,0,none⟩ = some (I J 6):=HS2.out.at (g:=w.heap.size) (cs:=[I J 6,Ψ (bs i.name),Γ (some ⟨g,off,none⟩) 2 kc,I J i.pl]) (ty:=67) (by simp) rfl
 have x1:w2.cell? ⟨w.heap.size,1,none⟩ = some (Ψ (bs i.name)):=HS2.out.at (g:=w.heap.size) (cs:=[I J 6,Ψ (bs i.name),Γ (some ⟨g,off,none⟩) 2 kc,I J i.pl]) (ty:=67) (by simp) rfl
 have x2:w2.cell? ⟨w.heap.size,2,none⟩ = some (Γ (some ⟨g,off,none⟩) 2 kc):=HS2.out.at (g:=w.heap.size) (cs:=[I J 6,Ψ (bs i.name),Γ (some ⟨g,off,none⟩) 2 kc,I J i.pl]) (ty:=67) (by simp) rfl
 have x3:w2.cell? ⟨w.heap.size,3,none⟩ = some (I J i.pl):=HS2.out.at (g:=w.heap.size) (cs:=[I J 6,Ψ (bs i.name),Γ (some ⟨g,off,none⟩) 2 kc,I J i.pl]) (ty:=67) (by simp) rfl
 go_wp2_with (go_at_call 48; refine (HTW.out _ _ _ _ HS2.out).mono ?_; rintro e w3 ⟨rfl,HS3⟩)
 clear x0 x1 x2 x3 HS2 HTW
 have HL4:=hid (HS3.out.drew)
 have HS0:Hid (w3.drew.cell? ⟨w.heap.size,0,none⟩ = some (I J 6)):=HL4.out.at (g:=w.heap.size) (cs:=[I J 6,Ψ (bs i.name),Γ (some ⟨g,off,none⟩) 2 kc,I J i.pl]) (ty:=67) (by simp) rfl
 clear HS3
 refine wp_region_Y (fun j=>[6].contains j) (fun W=>W.cell? ⟨w.heap.size,0,none⟩ = some (I J 6)) (by kernel_rfl) ?_
 refine tkL (i:=0) 15 (v:=Φ (some ⟨b,0,none⟩)) rfl rfl HS0.out (fun W hW=>by go_simp) ?_
 simp only [Act.put,lA,lB,lC]
 refine tkL (i:=1) 16 (v:=Φ (some ⟨w.heap.size,0,none⟩)) rfl rfl HS0.out (fun W hW=>by go_simp) ?_
 simp only [Act.put,lA,lB,lC]
 refine tkL (i:=2) 17 (v:=I J 6) rfl rfl HS0.out (fun W hW=>by go_simp) ?_
 simp only [Act.put,lA,lB,lC]
 refine tkL (i:=3) 18 (v:=Φ (some ⟨b,0,none⟩)) rfl rfl HS0.out (fun W hW=>by go_simp) ?_
 simp only [Act.put,lA,lB,lC]
 refine tkL (i:=4) 19 (v:=Φ (some ⟨b,13,none⟩)) rfl rfl HS0.out (fun W hW=>by go_simp) ?_
 simp only [Act.put,lA,lB,lC]
 refine tkL (i:=5) 20 (v:=Φ (some ⟨b,19,none⟩)) rfl rfl HS0.out (fun W hW=>by go_simp) ?_
 simp only [Act.put,lA,lB,lC]
 refine wpAnyY_one (i:=6) rfl (by kernel_rfl) (fun K hK=>?_)
 refine storeB_step rfl rfl rfl rfl ((HL4.out.ck _ rfl).1.hadk (k:=6) (by omega)) ((HL4.out.ck _ rfl).1.fz 19) ?_
 intro V hV
 have HL5:Hid (LS w O O1 b s s (some { c with pl:=i.pl,had:=putHad c.had 6 }) [(w.heap.size + 1,flL (0,0),32),(w.heap.size,[I J 6,Ψ (bs i.name),Γ (some ⟨g,off,none⟩) 2 kc,I J i.pl],67)] V):=by subst hV; exact HL4.out.putB rfl rfl rfl rfl rfl rfl HOK.out.2
 refine hK.out _ _ (fun hh=>absurd hh (by decide)) ?_
 clear hK K HL4 HS0 hV HOK
 refine wpAnyY_done (by kernel_rfl) ?_ _
 have x0:V.cell? ⟨w.heap.size,0,none⟩ = some (I J 6):=HL5.out.at (g:=w.heap.size) (cs:=[I J 6,Ψ (bs i.name),Γ (some ⟨g,off,none⟩) 2 kc,I J i.pl]) (ty:=67) (by simp) rfl
 go_wp2_with fail
 clear x0
 have HL6:=hid (HL5.out.drew)
 have HS0:Hid (V.drew.cell? ⟨w.heap.size,2,none⟩ = some (Γ (some ⟨g,off,none⟩) 2 kc) /\ V.drew.cell? ⟨g,off,none⟩ = some (I J h.kind) /\ V.drew.cell? ⟨g,off + 1,none⟩ = some (I J h.num) /\ V.drew.cell? ⟨g,off + 2,none⟩ = some (Ψ (bs h.text)) /\ V.drew.cell? ⟨g,off + 3,none⟩ = some (Γ ka1 kn1 kc1) /\ V.drew.cell? ⟨g,off + 4,none⟩ = some (I J h.pl) /\ V.drew.cell? ⟨g,off + 5,none⟩ = some (I J h2.kind) /\ V.drew.cell? ⟨g,off + 5 + 1,none⟩ = some (I J h2.num) /\ V.drew.cell? ⟨g,off + 5 + 2,none⟩ = some (Ψ (bs h2.text)) /\ V.drew.cell? ⟨g,off + 5 + 3,none⟩ = some (Γ la ln lc) /\ V.drew.cell? ⟨g,off + 5 + 4,none⟩ = some (I J h2.pl)):=HSS.out _ _ _ _ HL6.out
 clear HL5
 refine wp_region_Y (fun j=>[9,10].contains j) (fun W=>W.cell? ⟨w.heap.size,2,none⟩ = some (Γ (some ⟨g,off,none⟩) 2 kc) /\ W.cell? ⟨g,off,none⟩ = some (I J h.kind) /\ W.cell? ⟨g,off + 1,none⟩ = some (I J h.num) /\ W.cell? ⟨g,off + 2,none⟩ = some (Ψ (bs h.text)) /\ W.cell? ⟨g,off + 3,none⟩ = some (Γ ka1 kn1 kc1) /\ W.cell? ⟨g,off + 4,none⟩ = some (I J h.pl) /\ W.cell? ⟨g,off + 5,none⟩ = some (I J h2.kind) /\ W.cell? ⟨g,off + 5 + 1,none⟩ = some (I J h2.num) /\ W.cell? ⟨g,off + 5 + 2,none⟩ = some (Ψ (bs h2.text)) /\ W.cell? ⟨g,off + 5 + 3,none⟩ = some (Γ la ln lc) /\ W.cell? ⟨g,off + 5 + 4,none⟩ = some (I J h2.pl)) (by kernel_rfl) ?_
 refine tkL (i:=0) 55 (v:=Φ (some ⟨b,0,none⟩)) rfl rfl HS0.out (fun W hW=>by obtain ⟨_,_,_,_,_,_,_,_,_,_,_⟩:=hW; go_simp) ?_
 simp only [Act.put,lA,lB,lC]
 refine tkL (i:=1) 56 (v:=Φ (some ⟨w.heap.size,2,none⟩)) rfl rfl HS0.out (fun W hW=>by obtain ⟨_,_,_,_,_,_,_,_,_,_,_⟩:=hW; go_simp) ?_
 simp only [Act.put,lA,lB,lC]
 refine tkL (i:=2) 57 (v:=Γ (some ⟨g,off,none⟩) 2 kc) rfl rfl HS0.out (fun W hW=>by obtain ⟨_,_,_,_,_,_,_,_,_,_,_⟩:=hW; go_simp) ?_
 simp only [Act.put,lA,lB,lC]
 refine tkL (i:=3) 58 (v:=Φ (some ⟨g,off,none⟩)) rfl rfl HS0.out (fun W hW=>by obtain ⟨_,_,_,_,_,_,_,_,_,_,_⟩:=hW; go_simp) ?_
 simp only [Act.put,lA,lB,lC]
 refine tkL (i:=4) 59 (v:=.agg #[I J h.kind,I J h.num,Ψ (bs h.text),Γ ka1 kn1 kc1,I J h.pl]) rfl rfl HS0.out (fun W hW=>by obtain ⟨_,_,_,_,_,_,_,_,_,_,_⟩:=hW; go_simp) ?_
 simp only [Act.put,lA,lB,lC]
 refine tkL (i:=5) 60 (v:=Φ (some ⟨w.heap.size,2,none⟩)) rfl rfl HS0.out (fun W hW=>by obtain ⟨_,_,_,_,_,_,_,_,_,_,_⟩:=hW; go_simp) ?_
 simp only [Act.put,lA,lB,lC]
 refine tkL (i:=6) 61 (v:=Γ (some ⟨g,off,none⟩) 2 kc) rfl rfl HS0.out (fun W hW=>by obtain ⟨_,_,_,_,_,_,_,_,_,_,_⟩:=hW; go_simp) ?_
 simp only [Act.put,lA,lB,lC]
 refine tkL (i:=7) 62 (v:=Φ (some ⟨g,off + 5,none⟩)) rfl rfl HS0.out (fun W hW=>by obtain ⟨_,_,_,_,_,_,_,_,_,_,_⟩:=hW; go_simp) ?_
 simp only [Act.put,lA,lB,lC]
 refine tkL (i:=8) 63 (v:=.agg #[I J h2.kind,I J h2.num,Ψ (bs h2.text),Γ la ln lc,I J h2.pl]) rfl rfl HS0.out (fun W hW=>by obtain ⟨_,_,_,_,_,_,_,_,_,_,_⟩:=hW; go_simp) ?_
 simp only [Act.put,lA,lB,lC]
 refine wpAnyY_one (i:=9) rfl (by kernel_rfl) (fun K hK=>?_)
 refine call53_step rfl rfl rfl rfl rfl rfl ?_
 refine (HC.out _ _ _ HL6.out).mono ?_
 intro e V2 hp
 obtain ⟨f1,f2,hff⟩:∃ f1 f2,faultOf r = (f1,f2):=⟨_,_,rfl⟩
 have hRl:=HL6.out.loc (w.heap.size + 1,flL (0,0),32) (by simp)
 have hl:=hRl.1.fr (O':=O1) hp.val.2 (fun g hg=>.inl hg)
 have hv:=hp.val.1
 rw [hff] at hv
 have HF:Hid (∀ u v,TPost O b w r e ((V2.setCell ⟨w.heap.size + 1,0,none⟩ u).setCell ⟨w.heap.size + 1,1,none⟩ v)):=fun u v=>hp.lift HL6.out.fr HL6.out.new hRl.1.off hRl.2 hRl.1.lt u v
 refine ⟨_,hv,?_⟩
 subst hv
 refine hK.out _ _ (fun hh=>absurd hh (by decide)) ?_
 clear hK K HL6 HS0 HC HSS hff hp hRl
 simp only [Act.put,lA,lB,lC]
 refine wpAnyY_one (i:=10) rfl (by kernel_rfl) (fun K hK=>?_)
 refine store32_step rfl rfl rfl rfl rfl hl.heap ?_
 intro V3 hV
 have HF3:Hid (TPost O b w r (Ω (.agg #[I J f1,I J f2])) V3):=by rw [hV]; exact HF.out _ _
 have hl3:V3.heap[w.heap.size + 1]? = some (Δ #[I J f1,I J f2] 32 (0,0)):=by rw [hV]; exact ((hl.put 0 (I J f1)).put 1 (I J f2)).heap
 refine hK.out _ _ (fun hh=>absurd hh (by decide)) ?_
 clear hK K HF hl hV
 have z0:V3.cell? ⟨w.heap.size + 1,0,none⟩ = some (I J f1):=blk hl3 rfl
 have z1:V3.cell? ⟨w.heap.size + 1,1,none⟩ = some (I J f2):=blk hl3 rfl
 clear hl3
 refine wpAnyY_done (by kernel_rfl) ?_ _
 go_wp2
 refine bodyPost_ret (v:=flV (f1,f2)) ?_ rfl ?_
 ·simp only [results,hres]
  unfold flV
  simp only
  go_simp
 ·show TPost _ _ _ _ _ _
  exact HF3.out
theorem take_8 {B:Nat} {O:Nat -> Prop} {b:Nat} {s:Sl} {c:Ck} (i:It) (ka:Option Addr) (kc:Nat) (w:World) (hck:CkAt O b s c w) (hok:CkOk c) (hlow:∀ g,O g -> B <= g) (hB:B <= w.heap.size) (hF:FoAt false (fun g=>g < B) w i.args ka 2) (hof:okF i.args) (hn:i.name.length <= maxLen) (hk:i.kind = 8) (htw:twiceB { c with pl:=i.pl } i = false) :
 Calls Tryz.prog 28 #[Φ (some ⟨b,0,none⟩),itV i ka 2 kc] w (TPost O b w (bandB ({ c with pl:=i.pl,had:=putHad c.had 8 }) (arg1 i.args) (arg2 i.args))):=by
 have hres:Tryz.f28.results = #[.cell 4 32]:=by kernel_rfl
 obtain ⟨g,off,h,k,ka1,kn1,kc1,h2,k2,la,ln,lc,rfl,ha1,hr1,ha2,hr2,hat⟩:=two_args hF (by omega) hof
 rw [ha1,ha2]
 have hS1:LS w O (fun g=>O g /\ g < w.heap.size) b s s (some c) [(w.heap.size + 1,flL (0,0),32),(w.heap.size,[I J 8,Ψ (bs i.name),Γ (some ⟨g,off,none⟩) 2 kc,I J i.pl],67)] ((w.alloc (Δ #[I J 8,Ψ (bs i.name),Γ (some ⟨g,off,none⟩) 2 kc,I J i.pl] 67)).alloc (Δ #[I J 0,I J 0] 32)):=by
  have:=LS.startI hck hok i (some ⟨g,off,none⟩) 2 kc
  unfold itL at this
  rw [hk] at this
  exact this
 have hmem:∀ W,Fr O w W -> ∀ q,q < w.heap.size -> q < B -> W.heap[q]? = w.heap[q]?:=fun W hf q hq hqB=>hf.block q hq (fun ho=>by have:=hlow q ho; omega)
 obtain ⟨r,hr⟩:∃ r,r = bandB ({ c with pl:=i.pl,had:=putHad c.had 8 }) (h,k) (h2,k2):=⟨_,rfl⟩
 rw [<- hr]
 have HC:Hid (∀ O' s' W,LS w O O' b s s' (some { c with pl:=i.pl,had:=putHad c.had 8 }) [(w.heap.size + 1,flL (0,0),32),(w.heap.size,[I J 8,Ψ (bs i.name),Γ (some ⟨g,off,none⟩) 2 kc,I J i.pl],67)] W -> Calls Tryz.prog 55 #[Φ (some ⟨b,0,none⟩),.agg #[I J h.kind,I J h.num,Ψ (bs h.text),Γ ka1 kn1 kc1,I J h.pl],.agg #[I J h2.kind,I J h2.num,Ψ (bs h2.text),Γ la ln lc,I J h2.pl]] W (TPost O' b W r)):=by
  intro O' s' W hL
  have hlow':∀ g,O' g -> B <= g:=fun q hq=>by rcases hL.new q hq with h1 | h1; exact hlow q h1; omega
  obtain ⟨hE,-⟩:=hat W (hmem W hL.fr)
  have hB':=Nat.le_trans hB hL.fr.size
  obtain ⟨k1,k2',k3⟩:=hL.ck _ rfl
  rw [hr]
  exact band_calls h k ka1 kn1 kc1 h2 k2 la ln lc W k1 k2' hlow' hB' hE.1 hr1 hE.2 hr2
 have HTW:Hid (∀ O' s' L W,LS w O O' b s s' (some { c with pl:=i.pl }) L W -> Calls Tryz.prog 48 #[Φ (some ⟨b,0,none⟩),.agg #[I J 8,Ψ (bs i.name),Γ (some ⟨g,off,none⟩) 2 kc,I J i.pl]] W fun e w'=>e = Ω (.bool false) /\ Hid (LS w O O' b s s' (some { c with pl:=i.pl }) L w')):=fun O' s' L W hL=>by
  have:=hL.twice i (some ⟨g,off,none⟩) 2 kc (by omega) (by omega) hn
  rw [htw] at this
  unfold itV at this
  rw [hk] at this
  exact this
 have HSS:Hid (∀ O' s' oc W,LS w O O' b s s' oc [(w.heap.size + 1,flL (0,0),32),(w.heap.size,[I J 8,Ψ (bs i.name),Γ (some ⟨g,off,none⟩) 2 kc,I J i.pl],67)] W -> W.cell? ⟨w.heap.size,2,none⟩ = some (Γ (some ⟨g,off,none⟩) 2 kc) /\ W.cell? ⟨g,off,none⟩ = some (I J h.kind) /\ W.cell? ⟨g,off + 1,none⟩ = some (I J h.num) /\ W.cell? ⟨g,off + 2,none⟩ = some (Ψ (bs h.text)) /\ W.cell? ⟨g,off + 3,none⟩ = some (Γ ka1 kn1 kc1) /\ W.cell? ⟨g,off + 4,none⟩ = some (I J h.pl) /\ W.cell? ⟨g,off + 5,none⟩ = some (I J h2.kind) /\ W.cell? ⟨g,off + 5 + 1,none⟩ = some (I J h2.num) /\ W.cell? ⟨g,off + 5 + 2,none⟩ = some (Ψ (bs h2.text)) /\ W.cell? ⟨g,off + 5 + 3,none⟩ = some (Γ la ln lc) /\ W.cell? ⟨g,off + 5 + 4,none⟩ = some (I J h2.pl)):=fun O' s' oc W hL=>⟨hL.at (g:=w.heap.size) (cs:=[I J 8,Ψ (bs i.name),Γ (some ⟨g,off,none⟩) 2 kc,I J i.pl]) (ty:=67) (by simp) rfl,(hat W (hmem W hL.fr)).2.1.1,(hat W (hmem W hL.fr)).2.1.2.1,(hat W (hmem W hL.fr)).2.1.2.2.1,(hat W (hmem W hL.fr)).2.1.2.2.2.1,(hat W (hmem W hL.fr)).2.1.2.2.2.2,(hat W (hmem W hL.fr)).2.2⟩
 have HOK:Hid (CkOk { c with pl:=i.pl } /\ CkOk { c with pl:=i.pl,had:=putHad c.had 8 }):=⟨hok.pl i.pl,hok.had i.pl _⟩
 generalize hO1:(fun g=>O g /\ g < w.heap.size) = O1 at hS1
 clear hO1 hck hok hlow hB hF hof hn htw hmem hat hr ha1 ha2 hr1 hr2
 unfold itV
 rw [hk]
 clear hk
 have HS1:=hid hS1
 clear hS1
 go_enter Tryz.func28,Tryz.ntmps28
 go_upto_region 1 with (fail)
 generalize ((w.alloc (Δ #[I J 8,Ψ (bs i.name),Γ (some ⟨g,off,none⟩) 2 kc,I J i.pl] 67)).alloc (Δ #[I J 0,I J 0] 32)) = w1 at *
 have x3:w1.cell? ⟨w.heap.size,3,none⟩ = some (I J i.pl):=HS1.out.at (g:=w.heap.size) (cs:=[I J 8,Ψ (bs i.name),Γ (some ⟨g,off,none⟩) 2 kc,I J i.pl]) (ty:=67) (by simp) rfl
 have b24:w1.cell? ⟨b,24,none⟩ = some (I J c.pl):=(HS1.out.ck _ rfl).1.c24
 have bf:w1.frozen? ⟨b,24,none⟩ = false:=(HS1.out.ck _ rfl).1.fz 24
 have HS2:Hid (LS w O O1 b s s (some { c with pl:=i.pl }) [(w.heap.size + 1,flL (0,0),32),(w.heap.size,[I J 8,Ψ (bs i.name),Γ (some ⟨g,off,none⟩) 2 kc,I J i.pl],67)] (w1.setCell ⟨b,24,none⟩ (I J i.pl))):=HS1.out.putB rfl rfl rfl rfl rfl rfl HOK.out.1
 go_upto_region 2 with (fail)
 clear x3 b24 bf HS1
 generalize w1.setCell ⟨b,24,none⟩ (I J i.pl) = w2 at *
 have x0:w2.cell? ⟨w.heap.size,0,none⟩ = some (I J 8):=HS2.out.at (g:=w.heap.size) (cs:=[I J 8,Ψ (bs i.name),Γ (some ⟨g,off,none⟩) 2 kc,I J i.pl]) (ty:=67) (by simp) rfl
 have x1:w2.cell? ⟨w.heap.size,1,none⟩ = some (Ψ (bs i.name)):=HS2.out.at (g:=w.heap.size) (cs:=[I J 8,Ψ (bs i.name),Γ (some ⟨g,off,none⟩) 2 kc,I J i.pl]) (ty:=67) (by simp) rfl
 have x2:w2.cell? ⟨w.heap.size,2,none⟩ = some (Γ (some ⟨g,off,none⟩) 2 kc):=HS2.out.at (g:=w.heap.size) (cs:=[I J 8,Ψ (bs i.name),Γ (some ⟨g,off,none⟩) 2 kc,I J i.pl]) (ty:=67) (by simp) rfl
 have x3:w2.cell? ⟨w.heap.size,3,none⟩ = some (I J i.pl):=HS2.out.at (g:=w.heap.size) (cs:=[I J 8,Ψ (bs i.name),Γ (some ⟨g,off,none⟩) 2 kc,I J i.pl]) (ty:=67) (by simp) rfl
 go_wp2_with (go_at_call 48; refine (HTW.out _ _ _ _ HS2.out).mono ?_; rintro e w3 ⟨rfl,HS3⟩)
 clear x0 x1 x2 x3 HS2 HTW
 have HL4:=hid (HS3.out.drew)
 have HS0:Hid (w3.drew.cell? ⟨w.heap.size,0,none⟩ = some (I J 8)):=HL4.out.at (g:=w.heap.size) (cs:=[I J 8,Ψ (bs i.name),Γ (some ⟨g,off,none⟩) 2 kc,I J i.pl]) (ty:=67) (by simp) rfl
 clear HS3
 refine wp_region_Y (fun j=>[6].contains j) (fun W=>W.cell? ⟨w.heap.size,0,none⟩ = some (I J 8)) (by kernel_rfl) ?_
 refine tkL (i:=0) 15 (v:=Φ (some ⟨b,0,none⟩)) rfl rfl HS0.out (fun W hW=>by go_simp) ?_
 simp only [Act.put,lA,lB,lC]
 refine tkL (i:=1) 16 (v:=Φ (some ⟨w.heap.size,0,none⟩)) rfl rfl HS0.out (fun W hW=>by go_simp) ?_
 simp only [Act.put,lA,lB,lC]
 refine tkL (i:=2) 17 (v:=I J 8) rfl rfl HS0.out (fun W hW=>by go_simp) ?_
 simp only [Act.put,lA,lB,lC]
 refine tkL (i:=3) 18 (v:=Φ (some ⟨b,0,none⟩)) rfl rfl HS0.out (fun W hW=>by go_simp) ?_
 simp only [Act.put,lA,lB,lC]
 refine tkL (i:=4) 19 (v:=Φ (some ⟨b,13,none⟩)) rfl rfl HS0.out (fun W hW=>by go_simp) ?_
 simp only [Act.put,lA,lB,lC]
 refine tkL (i:=5) 20 (v:=Φ (some ⟨b,21,none⟩)) rfl rfl HS0.out (fun W hW=>by go_simp) ?_
 simp only [Act.put,lA,lB,lC]
 refine wpAnyY_one (i:=6) rfl (by kernel_rfl) (fun K hK=>?_)
 refine storeB_step rfl rfl rfl rfl ((HL4.out.ck _ rfl).1.hadk (k:=8) (by omega)) ((HL4.out.ck _ rfl).1.fz 21) ?_
 intro V hV
 have HL5:Hid (LS w O O1 b s s (some { c with pl:=i.pl,had:=putHad c.had 8 }) [(w.heap.size + 1,flL (0,0),32),(w.heap.size,[I J 8,Ψ (bs i.name),Γ (some ⟨g,off,none⟩) 2 kc,I J i.pl],67)] V):=by subst hV; exact HL4.out.putB rfl rfl rfl rfl rfl rfl HOK.out.2
 refine hK.out _ _ (fun hh=>absurd hh (by decide)) ?_
 clear hK K HL4 HS0 hV HOK
 refine wpAnyY_done (by kernel_rfl) ?_ _
 have x0:V.cell? ⟨w.heap.size,0,none⟩ = some (I J 8):=HL5.out.at (g:=w.heap.size) (cs:=[I J 8,Ψ (bs i.name),Γ (some ⟨g,off,none⟩) 2 kc,I J i.pl]) (ty:=67) (by simp) rfl
 go_wp2_with fail
 clear x0
 have HL6:=hid (HL5.out.drew)
 have HS0:Hid (V.drew.cell? ⟨w.heap.size,2,none⟩ = some (Γ (some ⟨g,off,none⟩) 2 kc) /\ V.drew.cell? ⟨g,off,none⟩ = some (I J h.kind) /\ V.drew.cell? ⟨g,off + 1,none⟩ = some (I J h.num) /\ V.drew.cell? ⟨g,off + 2,none⟩ = some (Ψ (bs h.text)) /\ V.drew.cell? ⟨g,off + 3,none⟩ = some (Γ ka1 kn1 kc1) /\ V.drew.cell? ⟨g,off + 4,none⟩ = some (I J h.pl) /\ V.drew.cell? ⟨g,off + 5,none⟩ = some (I J h2.kind) /\ V.drew.cell? ⟨g,off + 5 + 1,none⟩ = some (I J h2.num) /\ V.drew.cell? ⟨g,off + 5 + 2,none⟩ = some (Ψ (bs h2.text)) /\ V.drew.cell? ⟨g,off + 5 + 3,none⟩ = some (Γ la ln lc) /\ V.drew.cell? ⟨g,off + 5 + 4,none⟩ = some (I J h2.pl)):=HSS.out _ _ _ _ HL6.out
 clear HL5
 refine wp_region_Y (fun j=>[9,10].contains j) (fun W=>W.cell? ⟨w.heap.size,2,none⟩ = some (Γ (some ⟨g,off,none⟩) 2 kc) /\ W.cell? ⟨g,off,none⟩ = some (I J h.kind) /\ W.cell? ⟨g,off + 1,none⟩ = some (I J h.num) /\ W.cell? ⟨g,off + 2,none⟩ = some (Ψ (bs h.text)) /\ W.cell? ⟨g,off + 3,none⟩ = some (Γ ka1 kn1 kc1) /\ W.cell? ⟨g,off + 4,none⟩ = some (I J h.pl) /\ W.cell? ⟨g,off + 5,none⟩ = some (I J h2.kind) /\ W.cell? ⟨g,off + 5 + 1,none⟩ = some (I J h2.num) /\ W.cell? ⟨g,off + 5 + 2,none⟩ = some (Ψ (bs h2.text)) /\ W.cell? ⟨g,off + 5 + 3,none⟩ = some (Γ la ln lc) /\ W.cell? ⟨g,off + 5 + 4,none⟩ = some (I J h2.pl)) (by kernel_rfl) ?_
 refine tkL (i:=0) 76 (v:=Φ (some ⟨b,0,none⟩)) rfl rfl HS0.out (fun W hW=>by obtain ⟨_,_,_,_,_,_,_,_,_,_,_⟩:=hW; go_simp) ?_
 simp only [Act.put,lA,lB,lC]
 refine tkL (i:=1) 77 (v:=Φ (some ⟨w.heap.size,2,none⟩)) rfl rfl HS0.out (fun W hW=>by obtain ⟨_,_,_,_,_,_,_,_,_,_,_⟩:=hW; go_simp) ?_
 simp only [Act.put,lA,lB,lC]
 refine tkL (i:=2) 78 (v:=Γ (some ⟨g,off,none⟩) 2 kc) rfl rfl HS0.out (fun W hW=>by obtain ⟨_,_,_,_,_,_,_,_,_,_,_⟩:=hW; go_simp) ?_
 simp only [Act.put,lA,lB,lC]
 refine tkL (i:=3) 79 (v:=Φ (some ⟨g,off,none⟩)) rfl rfl HS0.out (fun W hW=>by obtain ⟨_,_,_,_,_,_,_,_,_,_,_⟩:=hW; go_simp) ?_
 simp only [Act.put,lA,lB,lC]
 refine tkL (i:=4) 80 (v:=.agg #[I J h.kind,I J h.num,Ψ (bs h.text),Γ ka1 kn1 kc1,I J h.pl]) rfl rfl HS0.out (fun W hW=>by obtain ⟨_,_,_,_,_,_,_,_,_,_,_⟩:=hW; go_simp) ?_
 simp only [Act.put,lA,lB,lC]
 refine tkL (i:=5) 81 (v:=Φ (some ⟨w.heap.size,2,none⟩)) rfl rfl HS0.out (fun W hW=>by obtain ⟨_,_,_,_,_,_,_,_,_,_,_⟩:=hW; go_simp) ?_
 simp only [Act.put,lA,lB,lC]
 refine tkL (i:=6) 82 (v:=Γ (some ⟨g,off,none⟩) 2 kc) rfl rfl HS0.out (fun W hW=>by obtain ⟨_,_,_,_,_,_,_,_,_,_,_⟩:=hW; go_simp) ?_
 simp only [Act.put,lA,lB,lC]
 refine tkL (i:=7) 83 (v:=Φ (some ⟨g,off + 5,none⟩)) rfl rfl HS0.out (fun W hW=>by obtain ⟨_,_,_,_,_,_,_,_,_,_,_⟩:=hW; go_simp) ?_
 simp only [Act.put,lA,lB,lC]
 refine tkL (i:=8) 84 (v:=.agg #[I J h2.kind,I J h2.num,Ψ (bs h2.text),Γ la ln lc,I J h2.pl]) rfl rfl HS0.out (fun W hW=>by obtain ⟨_,_,_,_,_,_,_,_,_,_,_⟩:=hW; go_simp) ?_
 simp only [Act.put,lA,lB,lC]
 refine wpAnyY_one (i:=9) rfl (by kernel_rfl) (fun K hK=>?_)
 refine call55_step rfl rfl rfl rfl rfl rfl ?_
 refine (HC.out _ _ _ HL6.out).mono ?_
 intro e V2 hp
 obtain ⟨f1,f2,hff⟩:∃ f1 f2,faultOf r = (f1,f2):=⟨_,_,rfl⟩
 have hRl:=HL6.out.loc (w.heap.size + 1,flL (0,0),32) (by simp)
 have hl:=hRl.1.fr (O':=O1) hp.val.2 (fun g hg=>.inl hg)
 have hv:=hp.val.1
 rw [hff] at hv
 have HF:Hid (∀ u v,TPost O b w r e ((V2.setCell ⟨w.heap.size + 1,0,none⟩ u).setCell ⟨w.heap.size + 1,1,none⟩ v)):=fun u v=>hp.lift HL6.out.fr HL6.out.new hRl.1.off hRl.2 hRl.1.lt u v
 refine ⟨_,hv,?_⟩
 subst hv
 refine hK.out _ _ (fun hh=>absurd hh (by decide)) ?_
 clear hK K HL6 HS0 HC HSS hff hp hRl
 simp only [Act.put,lA,lB,lC]
 refine wpAnyY_one (i:=10) rfl (by kernel_rfl) (fun K hK=>?_)
 refine store32_step rfl rfl rfl rfl rfl hl.heap ?_
 intro V3 hV
 have HF3:Hid (TPost O b w r (Ω (.agg #[I J f1,I J f2])) V3):=by rw [hV]; exact HF.out _ _
 have hl3:V3.heap[w.heap.size + 1]? = some (Δ #[I J f1,I J f2] 32 (0,0)):=by rw [hV]; exact ((hl.put 0 (I J f1)).put 1 (I J f2)).heap
 refine hK.out _ _ (fun hh=>absurd hh (by decide)) ?_
 clear hK K HF hl hV
 have z0:V3.cell? ⟨w.heap.size + 1,0,none⟩ = some (I J f1):=blk hl3 rfl
 have z1:V3.cell? ⟨w.heap.size + 1,1,none⟩ = some (I J f2):=blk hl3 rfl
 clear hl3
 refine wpAnyY_done (by kernel_rfl) ?_ _
 go_wp2
 refine bodyPost_ret (v:=flV (f1,f2)) ?_ rfl ?_
 ·simp only [results,hres]
  unfold flV
  simp only
  go_simp
 ·show TPost _ _ _ _ _ _
  exact HF3.out
theorem take_9 {B:Nat} {O:Nat -> Prop} {b:Nat} {s:Sl} {c:Ck} (i:It) (ka:Option Addr) (kc:Nat) (w:World) (hck:CkAt O b s c w) (hok:CkOk c) (hlow:∀ g,O g -> B <= g) (hB:B <= w.heap.size) (hF:FoAt false (fun g=>g < B) w i.args ka 2) (hof:okF i.args) (hn:i.name.length <= maxLen) (hk:i.kind = 9) (htw:twiceB { c with pl:=i.pl } i = false) :
 Calls Tryz.prog 28 #[Φ (some ⟨b,0,none⟩),itV i ka 2 kc] w (TPost O b w (clipB ({ c with pl:=i.pl,had:=putHad c.had 9 }) (arg1 i.args) (arg2 i.args))):=by
 have hres:Tryz.f28.results = #[.cell 4 32]:=by kernel_rfl
 obtain ⟨g,off,h,k,ka1,kn1,kc1,h2,k2,la,ln,lc,rfl,ha1,hr1,ha2,hr2,hat⟩:=two_args hF (by omega) hof
 rw [ha1,ha2]
 have hS1:LS w O (fun g=>O g /\ g < w.heap.size) b s s (some c) [(w.heap.size + 1,flL (0,0),32),(w.heap.size,[I J 9,Ψ (bs i.name),Γ (some ⟨g,off,none⟩) 2 kc,I J i.pl],67)] ((w.alloc (Δ #[I J 9,Ψ (bs i.name),Γ (some ⟨g,off,none⟩) 2 kc,I J i.pl] 67)).alloc (Δ #[I J 0,I J 0] 32)):=by
  have:=LS.startI hck hok i (some ⟨g,off,none⟩) 2 kc
  unfold itL at this
  rw [hk] at this
  exact this
 have hmem:∀ W,Fr O w W -> ∀ q,q < w.heap.size -> q < B -> W.heap[q]? = w.heap[q]?:=fun W hf q hq hqB=>hf.block q hq (fun ho=>by have:=hlow q ho; omega)
 obtain ⟨r,hr⟩:∃ r,r = clipB ({ c with pl:=i.pl,had:=putHad c.had 9 }) (h,k) (h2,k2):=⟨_,rfl⟩
 rw [<- hr]
 have HC:Hid (∀ O' s' W,LS w O O' b s s' (some { c with pl:=i.pl,had:=putHad c.had 9 }) [(w.heap.size + 1,flL (0,0),32),(w.heap.size,[I J 9,Ψ (bs i.name),Γ (some ⟨g,off,none⟩) 2 kc,I J i.pl],67)] W -> Calls Tryz.prog 56 #[Φ (some ⟨b,0,none⟩),.agg #[I J h.kind,I J h.num,Ψ (bs h.text),Γ ka1 kn1 kc1,I J h.pl],.agg #[I J h2.kind,I J h2.num,Ψ (bs h2.text),Γ la ln lc,I J h2.pl]] W (TPost O' b W r)):=by
  intro O' s' W hL
  have hlow':∀ g,O' g -> B <= g:=fun q hq=>by rcases hL.new q hq with h1 | h1; exact hlow q h1; omega
  obtain ⟨hE,-⟩:=hat W (hmem W hL.fr)
  have hB':=Nat.le_trans hB hL.fr.size
  obtain ⟨k1,k2',k3⟩:=hL.ck _ rfl
  rw [hr]
  exact clip_calls h k ka1 kn1 kc1 h2 k2 la ln lc W k1 k2' hlow' hB' hE.1 hr1 hE.2 hr2
 have HTW:Hid (∀ O' s' L W,LS w O O' b s s' (some { c with pl:=i.pl }) L W -> Calls Tryz.prog 48 #[Φ (some ⟨b,0,none⟩),.agg #[I J 9,Ψ (bs i.name),Γ (some ⟨g,off,none⟩) 2 kc,I J i.pl]] W fun e w'=>e = Ω (.bool false) /\ Hid (LS w O O' b s s' (some { c with pl:=i.pl }) L w')):=fun O' s' L W hL=>by
  have:=hL.twice i (some ⟨g,off,none⟩) 2 kc (by omega) (by omega) hn
  rw [htw] at this
  unfold itV at this
  rw [hk] at this
  exact this
 have HSS:Hid (∀ O' s' oc W,LS w O O' b s s' oc [(w.heap.size + 1,flL (0,0),32),(w.heap.size,[I J 9,Ψ (bs i.name),Γ (some ⟨g,off,none⟩) 2 kc,I J i.pl],67)] W -> W.cell? ⟨w.heap.size,2,none⟩ = some (Γ (some ⟨g,off,none⟩) 2 kc) /\ W.cell? ⟨g,off,none⟩ = some (I J h.kind) /\ W.cell? ⟨g,off + 1,none⟩ = some (I J h.num) /\ W.cell? ⟨g,off + 2,none⟩ = some (Ψ (bs h.text)) /\ W.cell? ⟨g,off + 3,none⟩ = some (Γ ka1 kn1 kc1) /\ W.cell? ⟨g,off + 4,none⟩ = some (I J h.pl) /\ W.cell? ⟨g,off + 5,none⟩ = some (I J h2.kind) /\ W.cell? ⟨g,off + 5 + 1,none⟩ = some (I J h2.num) /\ W.cell? ⟨g,off + 5 + 2,none⟩ = some (Ψ (bs h2.text)) /\ W.cell? ⟨g,off + 5 + 3,none⟩ = some (Γ la ln lc) /\ W.cell? ⟨g,off + 5 + 4,none⟩ = some (I J h2.pl)):=fun O' s' oc W hL=>⟨hL.at (g:=w.heap.size) (cs:=[I J 9,Ψ (bs i.name),Γ (some ⟨g,off,none⟩) 2 kc,I J i.pl]) (ty:=67) (by simp) rfl,(hat W (hmem W hL.fr)).2.1.1,(hat W (hmem W hL.fr)).2.1.2.1,(hat W (hmem W hL.fr)).2.1.2.2.1,(hat W (hmem W hL.fr)).2.1.2.2.2.1,(hat W (hmem W hL.fr)).2.1.2.2.2.2,(hat W (hmem W hL.fr)).2.2⟩
 have HOK:Hid (CkOk { c with pl:=i.pl } /\ CkOk { c with pl:=i.pl,had:=putHad c.had 9 }):=⟨hok.pl i.pl,hok.had i.pl _⟩
 generalize hO1:(fun g=>O g /\ g < w.heap.size) = O1 at hS1
 clear hO1 hck hok hlow hB hF hof hn htw hmem hat hr ha1 ha2 hr1 hr2
 unfold itV
 rw [hk]
 clear hk
 have HS1:=hid hS1
 clear hS1
 go_enter Tryz.func28,Tryz.ntmps28
 go_upto_region 1 with (fail)
 generalize ((w.alloc (Δ #[I J 9,Ψ (bs i.name),Γ (some ⟨g,off,none⟩) 2 kc,I J i.pl] 67)).alloc (Δ #[I J 0,I J 0] 32)) = w1 at *
 have x3:w1.cell? ⟨w.heap.size,3,none⟩ = some (I J i.pl):=HS1.out.at (g:=w.heap.size) (cs:=[I J 9,Ψ (bs i.name),Γ (some ⟨g,off,none⟩) 2 kc,I J i.pl]) (ty:=67) (by simp) rfl
 have b24:w1.cell? ⟨b,24,none⟩ = some (I J c.pl):=(HS1.out.ck _ rfl).1.c24
 have bf:w1.frozen? ⟨b,24,none⟩ = false:=(HS1.out.ck _ rfl).1.fz 24
 have HS2:Hid (LS w O O1 b s s (some { c with pl:=i.pl }) [(w.heap.size + 1,flL (0,0),32),(w.heap.size,[I J 9,Ψ (bs i.name),Γ (some ⟨g,off,none⟩) 2 kc,I J i.pl],67)] (w1.setCell ⟨b,24,none⟩ (I J i.pl))):=HS1.out.putB rfl rfl rfl rfl rfl rfl HOK.out.1
 go_upto_region 2 with (fail)
 clear x3 b24 bf HS1
 generalize w1.setCell ⟨b,24,none⟩ (I J i.pl) = w2 at *
 have x0:w2.cell? ⟨w.heap.size,0,none⟩ = some (I J 9):=HS2.out.at (g:=w.heap.size) (cs:=[I J 9,Ψ (bs i.name),Γ (some ⟨g,off,none⟩) 2 kc,I J i.pl]) (ty:=67) (by simp) rfl
 have x1:w2.cell? ⟨w.heap.size,1,none⟩ = some (Ψ (bs i.name)):=HS2.out.at (g:=w.heap.size) (cs:=[I J 9,Ψ (bs i.name),Γ (some ⟨g,off,none⟩) 2 kc,I J i.pl]) (ty:=67) (by simp) rfl
 have x2:w2.cell? ⟨w.heap.size,2,none⟩ = some (Γ (some ⟨g,off,none⟩) 2 kc):=HS2.out.at (g:=w.heap.size) (cs:=[I J 9,Ψ (bs i.name),Γ (some ⟨g,off,none⟩) 2 kc,I J i.pl]) (ty:=67) (by simp) rfl
 have x3:w2.cell? ⟨w.heap.size,3,none⟩ = some (I J i.pl):=HS2.out.at (g:=w.heap.size) (cs:=[I J 9,Ψ (bs i.name),Γ (some ⟨g,off,none⟩) 2 kc,I J i.pl]) (ty:=67) (by simp) rfl
 go_wp2_with (go_at_call 48; refine (HTW.out _ _ _ _ HS2.out).mono ?_; rintro e w3 ⟨rfl,HS3⟩)
 clear x0 x1 x2 x3 HS2 HTW
 have HL4:=hid (HS3.out.drew)
 have HS0:Hid (w3.drew.cell? ⟨w.heap.size,0,none⟩ = some (I J 9)):=HL4.out.at (g:=w.heap.size) (cs:=[I J 9,Ψ (bs i.name),Γ (some ⟨g,off,none⟩) 2 kc,I J i.pl]) (ty:=67) (by simp) rfl
 clear HS3
 refine wp_region_Y (fun j=>[6].contains j) (fun W=>W.cell? ⟨w.heap.size,0,none⟩ = some (I J 9)) (by kernel_rfl) ?_
 refine tkL (i:=0) 15 (v:=Φ (some ⟨b,0,none⟩)) rfl rfl HS0.out (fun W hW=>by go_simp) ?_
 simp only [Act.put,lA,lB,lC]
 refine tkL (i:=1) 16 (v:=Φ (some ⟨w.heap.size,0,none⟩)) rfl rfl HS0.out (fun W hW=>by go_simp) ?_
 simp only [Act.put,lA,lB,lC]
 refine tkL (i:=2) 17 (v:=I J 9) rfl rfl HS0.out (fun W hW=>by go_simp) ?_
 simp only [Act.put,lA,lB,lC]
 refine tkL (i:=3) 18 (v:=Φ (some ⟨b,0,none⟩)) rfl rfl HS0.out (fun W hW=>by go_simp) ?_
 simp only [Act.put,lA,lB,lC]
 refine tkL (i:=4) 19 (v:=Φ (some ⟨b,13,none⟩)) rfl rfl HS0.out (fun W hW=>by go_simp) ?_
 simp only [Act.put,lA,lB,lC]
 refine tkL (i:=5) 20 (v:=Φ (some ⟨b,22,none⟩)) rfl rfl HS0.out (fun W hW=>by go_simp) ?_
 simp only [Act.put,lA,lB,lC]
 refine wpAnyY_one (i:=6) rfl (by kernel_rfl) (fun K hK=>?_)
 refine storeB_step rfl rfl rfl rfl ((HL4.out.ck _ rfl).1.hadk (k:=9) (by omega)) ((HL4.out.ck _ rfl).1.fz 22) ?_
 intro V hV
 have HL5:Hid (LS w O O1 b s s (some { c with pl:=i.pl,had:=putHad c.had 9 }) [(w.heap.size + 1,flL (0,0),32),(w.heap.size,[I J 9,Ψ (bs i.name),Γ (some ⟨g,off,none⟩) 2 kc,I J i.pl],67)] V):=by subst hV; exact HL4.out.putB rfl rfl rfl rfl rfl rfl HOK.out.2
 refine hK.out _ _ (fun hh=>absurd hh (by decide)) ?_
 clear hK K HL4 HS0 hV HOK
 refine wpAnyY_done (by kernel_rfl) ?_ _
 have x0:V.cell? ⟨w.heap.size,0,none⟩ = some (I J 9):=HL5.out.at (g:=w.heap.size) (cs:=[I J 9,Ψ (bs i.name),Γ (some ⟨g,off,none⟩) 2 kc,I J i.pl]) (ty:=67) (by simp) rfl
 go_wp2_with fail
 clear x0
 have HL6:=hid (HL5.out.drew)
 have HS0:Hid (V.drew.cell? ⟨w.heap.size,2,none⟩ = some (Γ (some ⟨g,off,none⟩) 2 kc) /\ V.drew.cell? ⟨g,off,none⟩ = some (I J h.kind) /\ V.drew.cell? ⟨g,off + 1,none⟩ = some (I J h.num) /\ V.drew.cell? ⟨g,off + 2,none⟩ = some (Ψ (bs h.text)) /\ V.drew.cell? ⟨g,off + 3,none⟩ = some (Γ ka1 kn1 kc1) /\ V.drew.cell? ⟨g,off + 4,none⟩ = some (I J h.pl) /\ V.drew.cell? ⟨g,off + 5,none⟩ = some (I J h2.kind) /\ V.drew.cell? ⟨g,off + 5 + 1,none⟩ = some (I J h2.num) /\ V.drew.cell? ⟨g,off + 5 + 2,none⟩ = some (Ψ (bs h2.text)) /\ V.drew.cell? ⟨g,off + 5 + 3,none⟩ = some (Γ la ln lc) /\ V.drew.cell? ⟨g,off + 5 + 4,none⟩ = some (I J h2.pl)):=HSS.out _ _ _ _ HL6.out
 clear HL5
 refine wp_region_Y (fun j=>[9,10].contains j) (fun W=>W.cell? ⟨w.heap.size,2,none⟩ = some (Γ (some ⟨g,off,none⟩) 2 kc) /\ W.cell? ⟨g,off,none⟩ = some (I J h.kind) /\ W.cell? ⟨g,off + 1,none⟩ = some (I J h.num) /\ W.cell? ⟨g,off + 2,none⟩ = some (Ψ (bs h.text)) /\ W.cell? ⟨g,off + 3,none⟩ = some (Γ ka1 kn1 kc1) /\ W.cell? ⟨g,off + 4,none⟩ = some (I J h.pl) /\ W.cell? ⟨g,off + 5,none⟩ = some (I J h2.kind) /\ W.cell? ⟨g,off + 5 + 1,none⟩ = some (I J h2.num) /\ W.cell? ⟨g,off + 5 + 2,none⟩ = some (Ψ (bs h2.text)) /\ W.cell? ⟨g,off + 5 + 3,none⟩ = some (Γ la ln lc) /\ W.cell? ⟨g,off + 5 + 4,none⟩ = some (I J h2.pl)) (by kernel_rfl) ?_
 refine tkL (i:=0) 88 (v:=Φ (some ⟨b,0,none⟩)) rfl rfl HS0.out (fun W hW=>by obtain ⟨_,_,_,_,_,_,_,_,_,_,_⟩:=hW; go_simp) ?_
 simp only [Act.put,lA,lB,lC]
 refine tkL (i:=1) 89 (v:=Φ (some ⟨w.heap.size,2,none⟩)) rfl rfl HS0.out (fun W hW=>by obtain ⟨_,_,_,_,_,_,_,_,_,_,_⟩:=hW; go_simp) ?_
 simp only [Act.put,lA,lB,lC]
 refine tkL (i:=2) 90 (v:=Γ (some ⟨g,off,none⟩) 2 kc) rfl rfl HS0.out (fun W hW=>by obtain ⟨_,_,_,_,_,_,_,_,_,_,_⟩:=hW; go_simp) ?_
 simp only [Act.put,lA,lB,lC]
 refine tkL (i:=3) 91 (v:=Φ (some ⟨g,off,none⟩)) rfl rfl HS0.out (fun W hW=>by obtain ⟨_,_,_,_,_,_,_,_,_,_,_⟩:=hW; go_simp) ?_
 simp only [Act.put,lA,lB,lC]
 refine tkL (i:=4) 92 (v:=.agg #[I J h.kind,I J h.num,Ψ (bs h.text),Γ ka1 kn1 kc1,I J h.pl]) rfl rfl HS0.out (fun W hW=>by obtain ⟨_,_,_,_,_,_,_,_,_,_,_⟩:=hW; go_simp) ?_
 simp only [Act.put,lA,lB,lC]
 refine tkL (i:=5) 93 (v:=Φ (some ⟨w.heap.size,2,none⟩)) rfl rfl HS0.out (fun W hW=>by obtain ⟨_,_,_,_,_,_,_,_,_,_,_⟩:=hW; go_simp) ?_
 simp only [Act.put,lA,lB,lC]
 refine tkL (i:=6) 94 (v:=Γ (some ⟨g,off,none⟩) 2 kc) rfl rfl HS0.out (fun W hW=>by obtain ⟨_,_,_,_,_,_,_,_,_,_,_⟩:=hW; go_simp) ?_
 simp only [Act.put,lA,lB,lC]
 refine tkL (i:=7) 95 (v:=Φ (some ⟨g,off + 5,none⟩)) rfl rfl HS0.out (fun W hW=>by obtain ⟨_,_,_,_,_,_,_,_,_,_,_⟩:=hW; go_simp) ?_
 simp only [Act.put,lA,lB,lC]
 refine tkL (i:=8) 96 (v:=.agg #[I J h2.kind,I J h2.num,Ψ (bs h2.text),Γ la ln lc,I J h2.pl]) rfl rfl HS0.out (fun W hW=>by obtain ⟨_,_,_,_,_,_,_,_,_,_,_⟩:=hW; go_simp) ?_
 simp only [Act.put,lA,lB,lC]
 refine wpAnyY_one (i:=9) rfl (by kernel_rfl) (fun K hK=>?_)
 refine call56_step rfl rfl rfl rfl rfl rfl ?_
 refine (HC.out _ _ _ HL6.out).mono ?_
 intro e V2 hp
 obtain ⟨f1,f2,hff⟩:∃ f1 f2,faultOf r = (f1,f2):=⟨_,_,rfl⟩
 have hRl:=HL6.out.loc (w.heap.size + 1,flL (0,0),32) (by simp)
 have hl:=hRl.1.fr (O':=O1) hp.val.2 (fun g hg=>.inl hg)
 have hv:=hp.val.1
 rw [hff] at hv
 have HF:Hid (∀ u v,TPost O b w r e ((V2.setCell ⟨w.heap.size + 1,0,none⟩ u).setCell ⟨w.heap.size + 1,1,none⟩ v)):=fun u v=>hp.lift HL6.out.fr HL6.out.new hRl.1.off hRl.2 hRl.1.lt u v
 refine ⟨_,hv,?_⟩
 subst hv
 refine hK.out _ _ (fun hh=>absurd hh (by decide)) ?_
 clear hK K HL6 HS0 HC HSS hff hp hRl
 simp only [Act.put,lA,lB,lC]
 refine wpAnyY_one (i:=10) rfl (by kernel_rfl) (fun K hK=>?_)
 refine store32_step rfl rfl rfl rfl rfl hl.heap ?_
 intro V3 hV
 have HF3:Hid (TPost O b w r (Ω (.agg #[I J f1,I J f2])) V3):=by rw [hV]; exact HF.out _ _
 have hl3:V3.heap[w.heap.size + 1]? = some (Δ #[I J f1,I J f2] 32 (0,0)):=by rw [hV]; exact ((hl.put 0 (I J f1)).put 1 (I J f2)).heap
 refine hK.out _ _ (fun hh=>absurd hh (by decide)) ?_
 clear hK K HF hl hV
 have z0:V3.cell? ⟨w.heap.size + 1,0,none⟩ = some (I J f1):=blk hl3 rfl
 have z1:V3.cell? ⟨w.heap.size + 1,1,none⟩ = some (I J f2):=blk hl3 rfl
 clear hl3
 refine wpAnyY_done (by kernel_rfl) ?_ _
 go_wp2
 refine bodyPost_ret (v:=flV (f1,f2)) ?_ rfl ?_
 ·simp only [results,hres]
  unfold flV
  simp only
  go_simp
 ·show TPost _ _ _ _ _ _
  exact HF3.out
set_option maxRecDepth 20000
set_option maxHeartbeats 4000000
theorem take_3 {B:Nat} {O:Nat -> Prop} {b:Nat} {s:Sl} {c:Ck} (i:It) (ka:Option Addr) (kc:Nat) (w:World) (hck:CkAt O b s c w) (hok:CkOk c) (hlow:∀ g,O g -> B <= g) (hB:B <= w.heap.size) (hF:FoAt false (fun g=>g < B) w i.args ka 1) (hof:okF i.args) (hn:i.name.length <= maxLen) (hk:i.kind = 3) (htw:twiceB { c with pl:=i.pl } i = false) :
 Calls Tryz.prog 28 #[Φ (some ⟨b,0,none⟩),itV i ka 1 kc] w (TPost O b w (singleB (fun c p=>{ c with mat:=p }) ({ c with pl:=i.pl,had:=putHad c.had 3 }) (arg1 i.args))):=by
 have hres:Tryz.f28.results = #[.cell 4 32]:=by kernel_rfl
 obtain ⟨g,off,h,k,ka1,kn1,kc1,rfl,ha1,hr1,hat⟩:=one_arg hF (by omega) hof
 rw [ha1]
 have hS1:LS w O (fun g=>O g /\ g < w.heap.size) b s s (some c) [(w.heap.size + 1,flL (0,0),32),(w.heap.size,[I J 3,Ψ (bs i.name),Γ (some ⟨g,off,none⟩) 1 kc,I J i.pl],67)] ((w.alloc (Δ #[I J 3,Ψ (bs i.name),Γ (some ⟨g,off,none⟩) 1 kc,I J i.pl] 67)).alloc (Δ #[I J 0,I J 0] 32)):=by
  have:=LS.startI hck hok i (some ⟨g,off,none⟩) 1 kc
  unfold itL at this
  rw [hk] at this
  exact this
 have hmem:∀ W,Fr O w W -> ∀ q,q < w.heap.size -> q < B -> W.heap[q]? = w.heap[q]?:=fun W hf q hq hqB=>hf.block q hq (fun ho=>by have:=hlow q ho; omega)
 obtain ⟨r,hr⟩:∃ r,r = singleB (fun c p=>{ c with mat:=p }) ({ c with pl:=i.pl,had:=putHad c.had 3 }) (h,k):=⟨_,rfl⟩
 rw [<- hr]
 have HC:Hid (∀ O' s' W,LS w O O' b s s' (some { c with pl:=i.pl,had:=putHad c.had 3 }) [(w.heap.size + 1,flL (0,0),32),(w.heap.size,[I J 3,Ψ (bs i.name),Γ (some ⟨g,off,none⟩) 1 kc,I J i.pl],67)] W -> Calls Tryz.prog 57 #[Φ (some ⟨b,0,none⟩),.agg #[I J h.kind,I J h.num,Ψ (bs h.text),Γ ka1 kn1 kc1,I J h.pl],Φ (some ⟨b,25,none⟩)] W (TPost O' b W r)):=by
  intro O' s' W hL
  have hlow':∀ g,O' g -> B <= g:=fun q hq=>by rcases hL.new q hq with h1 | h1; exact hlow q h1; omega
  obtain ⟨hE,-⟩:=hat W (hmem W hL.fr)
  have hB':=Nat.le_trans hB hL.fr.size
  obtain ⟨k1,k2',k3⟩:=hL.ck _ rfl
  rw [hr]
  exact single_calls h k ka1 kn1 kc1 b 25 (fun c p=>{ c with mat:=p }) W k1 k2' hlow' hB' hE hr1 (fun O3 s3 c3 W3 p j1 _ _=>⟨j1.inB,⟨_,j1.c25⟩,j1.fz 25,j1.put rfl rfl rfl rfl rfl rfl⟩)
 have HTW:Hid (∀ O' s' L W,LS w O O' b s s' (some { c with pl:=i.pl }) L W -> Calls Tryz.prog 48 #[Φ (some ⟨b,0,none⟩),.agg #[I J 3,Ψ (bs i.name),Γ (some ⟨g,off,none⟩) 1 kc,I J i.pl]] W fun e w'=>e = Ω (.bool false) /\ Hid (LS w O O' b s s' (some { c with pl:=i.pl }) L w')):=fun O' s' L W hL=>by
  have:=hL.twice i (some ⟨g,off,none⟩) 1 kc (by omega) (by omega) hn
  rw [htw] at this
  unfold itV at this
  rw [hk] at this
  exact this
 have HSS:Hid (∀ O' s' oc W,LS w O O' b s s' oc [(w.heap.size + 1,flL (0,0),32),(w.heap.size,[I J 3,Ψ (bs i.name),Γ (some ⟨g,off,none⟩) 1 kc,I J i.pl],67)] W -> W.cell? ⟨w.heap.size,2,none⟩ = some (Γ (some ⟨g,off,none⟩) 1 kc) /\ W.cell? ⟨g,off,none⟩ = some (I J h.kind) /\ W.cell? ⟨g,off + 1,none⟩ = some (I J h.num) /\ W.cell? ⟨g,off + 2,none⟩ = some (Ψ (bs h.text)) /\ W.cell? ⟨g,off + 3,none⟩ = some (Γ ka1 kn1 kc1) /\ W.cell? ⟨g,off + 4,none⟩ = some (I J h.pl)):=fun O' s' oc W hL=>⟨hL.at (g:=w.heap.size) (cs:=[I J 3,Ψ (bs i.name),Γ (some ⟨g,off,none⟩) 1 kc,I J i.pl]) (ty:=67) (by simp) rfl,(hat W (hmem W hL.fr)).2⟩
 have HOK:Hid (CkOk { c with pl:=i.pl } /\ CkOk { c with pl:=i.pl,had:=putHad c.had 3 }):=⟨hok.pl i.pl,hok.had i.pl _⟩
 generalize hO1:(fun g=>O g /\ g < w.heap.size) = O1 at hS1
 clear hO1 hck hok hlow hB hF hof hn htw hmem hat hr ha1 hr1
 unfold itV
 rw [hk]
 clear hk
 have HS1:=hid hS1
 clear hS1
 go_enter Tryz.func28,Tryz.ntmps28
 go_upto_region 1 with (fail)
 generalize ((w.alloc (Δ #[I J 3,Ψ (bs i.name),Γ (some ⟨g,off,none⟩) 1 kc,I J i.pl] 67)).alloc (Δ #[I J 0,I J 0] 32)) = w1 at *
 have x3:w1.cell? ⟨w.heap.size,3,none⟩ = some (I J i.pl):=HS1.out.at (g:=w.heap.size) (cs:=[I J 3,Ψ (bs i.name),Γ (some ⟨g,off,none⟩) 1 kc,I J i.pl]) (ty:=67) (by simp) rfl
 have b24:w1.cell? ⟨b,24,none⟩ = some (I J c.pl):=(HS1.out.ck _ rfl).1.c24
 have bf:w1.frozen? ⟨b,24,none⟩ = false:=(HS1.out.ck _ rfl).1.fz 24
 have HS2:Hid (LS w O O1 b s s (some { c with pl:=i.pl }) [(w.heap.size + 1,flL (0,0),32),(w.heap.size,[I J 3,Ψ (bs i.name),Γ (some ⟨g,off,none⟩) 1 kc,I J i.pl],67)] (w1.setCell ⟨b,24,none⟩ (I J i.pl))):=HS1.out.putB rfl rfl rfl rfl rfl rfl HOK.out.1
 go_upto_region 2 with (fail)
 clear x3 b24 bf HS1
 generalize w1.setCell ⟨b,24,none⟩ (I J i.pl) = w2 at *
 have x0:w2.cell? ⟨w.heap.size,0,none⟩ = some (I J 3):=HS2.out.at (g:=w.heap.size) (cs:=[I J 3,Ψ (bs i.name),Γ (some ⟨g,off,none⟩) 1 kc,I J i.pl]) (ty:=67) (by simp) rfl
 have x1:w2.cell? ⟨w.heap.size,1,none⟩ = some (Ψ (bs i.name)):=HS2.out.at (g:=w.heap.size) (cs:=[I J 3,Ψ (bs i.name),Γ (some ⟨g,off,none⟩) 1 kc,I J i.pl]) (ty:=67) (by simp) rfl
 have x2:w2.cell? ⟨w.heap.size,2,none⟩ = some (Γ (some ⟨g,off,none⟩) 1 kc):=HS2.out.at (g:=w.heap.size) (cs:=[I J 3,Ψ (bs i.name),Γ (some ⟨g,off,none⟩) 1 kc,I J i.pl]) (ty:=67) (by simp) rfl
 have x3:w2.cell? ⟨w.heap.size,3,none⟩ = some (I J i.pl):=HS2.out.at (g:=w.heap.size) (cs:=[I J 3,Ψ (bs i.name),Γ (some ⟨g,off,none⟩) 1 kc,I J i.pl]) (ty:=67) (by simp) rfl
 go_wp2_with (go_at_call 48; refine (HTW.out _ _ _ _ HS2.out).mono ?_; rintro e w3 ⟨rfl,HS3⟩)
 clear x0 x1 x2 x3 HS2 HTW
 have HL4:=hid (HS3.out.drew)
 have HS0:Hid (w3.drew.cell? ⟨w.heap.size,0,none⟩ = some (I J 3)):=HL4.out.at (g:=w.heap.size) (cs:=[I J 3,Ψ (bs i.name),Γ (some ⟨g,off,none⟩) 1 kc,I J i.pl]) (ty:=67) (by simp) rfl
 clear HS3
 refine wp_region_Y (fun j=>[6].contains j) (fun W=>W.cell? ⟨w.heap.size,0,none⟩ = some (I J 3)) (by kernel_rfl) ?_
 refine tkL (i:=0) 15 (v:=Φ (some ⟨b,0,none⟩)) rfl rfl HS0.out (fun W hW=>by go_simp) ?_
 simp only [Act.put,lA,lB,lC]
 refine tkL (i:=1) 16 (v:=Φ (some ⟨w.heap.size,0,none⟩)) rfl rfl HS0.out (fun W hW=>by go_simp) ?_
 simp only [Act.put,lA,lB,lC]
 refine tkL (i:=2) 17 (v:=I J 3) rfl rfl HS0.out (fun W hW=>by go_simp) ?_
 simp only [Act.put,lA,lB,lC]
 refine tkL (i:=3) 18 (v:=Φ (some ⟨b,0,none⟩)) rfl rfl HS0.out (fun W hW=>by go_simp) ?_
 simp only [Act.put,lA,lB,lC]
 refine tkL (i:=4) 19 (v:=Φ (some ⟨b,13,none⟩)) rfl rfl HS0.out (fun W hW=>by go_simp) ?_
 simp only [Act.put,lA,lB,lC]
 refine tkL (i:=5) 20 (v:=Φ (some ⟨b,16,none⟩)) rfl rfl HS0.out (fun W hW=>by go_simp) ?_
 simp only [Act.put,lA,lB,lC]
 refine wpAnyY_one (i:=6) rfl (by kernel_rfl) (fun K hK=>?_)
 refine storeB_step rfl rfl rfl rfl ((HL4.out.ck _ rfl).1.hadk (k:=3) (by omega)) ((HL4.out.ck _ rfl).1.fz 16) ?_
 intro V hV
 have HL5:Hid (LS w O O1 b s s (some { c with pl:=i.pl,had:=putHad c.had 3 }) [(w.heap.size + 1,flL (0,0),32),(w.heap.size,[I J 3,Ψ (bs i.name),Γ (some ⟨g,off,none⟩) 1 kc,I J i.pl],67)] V):=by subst hV; exact HL4.out.putB rfl rfl rfl rfl rfl rfl HOK.out.2
 refine hK.out _ _ (fun hh=>absurd hh (by decide)) ?_
 clear hK K HL4 HS0 hV HOK
 refine wpAnyY_done (by kernel_rfl) ?_ _
 have x0:V.cell? ⟨w.heap.size,0,none⟩ = some (I J 3):=HL5.out.at (g:=w.heap.size) (cs:=[I J 3,Ψ (bs i.name),Γ (some ⟨g,off,none⟩) 1 kc,I J i.pl]) (ty:=67) (by simp) rfl
 go_wp2_with fail
 clear x0
 have HL6:=hid (HL5.out.drew)
 have HS0:Hid (V.drew.cell? ⟨w.heap.size,2,none⟩ = some (Γ (some ⟨g,off,none⟩) 1 kc) /\ V.drew.cell? ⟨g,off,none⟩ = some (I J h.kind) /\ V.drew.cell? ⟨g,off + 1,none⟩ = some (I J h.num) /\ V.drew.cell? ⟨g,off + 2,none⟩ = some (Ψ (bs h.text)) /\ V.drew.cell? ⟨g,off + 3,none⟩ = some (Γ ka1 kn1 kc1) /\ V.drew.cell? ⟨g,off + 4,none⟩ = some (I J h.pl)):=HSS.out _ _ _ _ HL6.out
 clear HL5
 refine wp_region_Y (fun j=>[8,9].contains j) (fun W=>W.cell? ⟨w.heap.size,2,none⟩ = some (Γ (some ⟨g,off,none⟩) 1 kc) /\ W.cell? ⟨g,off,none⟩ = some (I J h.kind) /\ W.cell? ⟨g,off + 1,none⟩ = some (I J h.num) /\ W.cell? ⟨g,off + 2,none⟩ = some (Ψ (bs h.text)) /\ W.cell? ⟨g,off + 3,none⟩ = some (Γ ka1 kn1 kc1) /\ W.cell? ⟨g,off + 4,none⟩ = some (I J h.pl)) (by kernel_rfl) ?_
 refine tkL (i:=0) 100 (v:=Φ (some ⟨b,0,none⟩)) rfl rfl HS0.out (fun W hW=>by obtain ⟨_,_,_,_,_,_⟩:=hW; go_simp) ?_
 simp only [Act.put,lA,lB,lC]
 refine tkL (i:=1) 101 (v:=Φ (some ⟨w.heap.size,2,none⟩)) rfl rfl HS0.out (fun W hW=>by obtain ⟨_,_,_,_,_,_⟩:=hW; go_simp) ?_
 simp only [Act.put,lA,lB,lC]
 refine tkL (i:=2) 102 (v:=Γ (some ⟨g,off,none⟩) 1 kc) rfl rfl HS0.out (fun W hW=>by obtain ⟨_,_,_,_,_,_⟩:=hW; go_simp) ?_
 simp only [Act.put,lA,lB,lC]
 refine tkL (i:=3) 103 (v:=Φ (some ⟨g,off,none⟩)) rfl rfl HS0.out (fun W hW=>by obtain ⟨_,_,_,_,_,_⟩:=hW; go_simp) ?_
 simp only [Act.put,lA,lB,lC]
 refine tkL (i:=4) 104 (v:=.agg #[I J h.kind,I J h.num,Ψ (bs h.text),Γ ka1 kn1 kc1,I J h.pl]) rfl rfl HS0.out (fun W hW=>by obtain ⟨_,_,_,_,_,_⟩:=hW; go_simp) ?_
 simp only [Act.put,lA,lB,lC]
 refine tkL (i:=5) 105 (v:=Φ (some ⟨b,0,none⟩)) rfl rfl HS0.out (fun W hW=>by obtain ⟨_,_,_,_,_,_⟩:=hW; go_simp) ?_
 simp only [Act.put,lA,lB,lC]
 refine tkL (i:=6) 106 (v:=Φ (some ⟨b,0,none⟩)) rfl rfl HS0.out (fun W hW=>by obtain ⟨_,_,_,_,_,_⟩:=hW; go_simp) ?_
 simp only [Act.put,lA,lB,lC]
 refine tkL (i:=7) 107 (v:=Φ (some ⟨b,25,none⟩)) rfl rfl HS0.out (fun W hW=>by obtain ⟨_,_,_,_,_,_⟩:=hW; go_simp) ?_
 simp only [Act.put,lA,lB,lC]
 refine wpAnyY_one (i:=8) rfl (by kernel_rfl) (fun K hK=>?_)
 refine call57_step rfl rfl rfl rfl rfl rfl ?_
 refine (HC.out _ _ _ HL6.out).mono ?_
 intro e V2 hp
 obtain ⟨f1,f2,hff⟩:∃ f1 f2,faultOf r = (f1,f2):=⟨_,_,rfl⟩
 have hRl:=HL6.out.loc (w.heap.size + 1,flL (0,0),32) (by simp)
 have hl:=hRl.1.fr (O':=O1) hp.val.2 (fun g hg=>.inl hg)
 have hv:=hp.val.1
 rw [hff] at hv
 have HF:Hid (∀ u v,TPost O b w r e ((V2.setCell ⟨w.heap.size + 1,0,none⟩ u).setCell ⟨w.heap.size + 1,1,none⟩ v)):=fun u v=>hp.lift HL6.out.fr HL6.out.new hRl.1.off hRl.2 hRl.1.lt u v
 refine ⟨_,hv,?_⟩
 subst hv
 refine hK.out _ _ (fun hh=>absurd hh (by decide)) ?_
 clear hK K HL6 HS0 HC HSS hff hp hRl
 simp only [Act.put,lA,lB,lC]
 refine wpAnyY_one (i:=9) rfl (by kernel_rfl) (fun K hK=>?_)
 refine store32_step rfl rfl rfl rfl rfl hl.heap ?_
 intro V3 hV
 have HF3:Hid (TPost O b w r (Ω (.agg #[I J f1,I J f2])) V3):=by rw [hV]; exact HF.out _ _
 have hl3:V3.heap[w.heap.size + 1]? = some (Δ #[I J f1,I J f2] 32 (0,0)):=by rw [hV]; exact ((hl.put 0 (I J f1)).put 1 (I J f2)).heap
 refine hK.out _ _ (fun hh=>absurd hh (by decide)) ?_
 clear hK K HF hl hV
 have z0:V3.cell? ⟨w.heap.size + 1,0,none⟩ = some (I J f1):=blk hl3 rfl
 have z1:V3.cell? ⟨w.heap.size + 1,1,none⟩ = some (I J f2):=blk hl3 rfl
 clear hl3
 refine wpAnyY_done (by kernel_rfl) ?_ _
 go_wp2
 refine bodyPost_ret (v:=flV (f1,f2)) ?_ rfl ?_
 ·simp only [results,hres]
  unfold flV
  simp only
  go_simp
 ·show TPost _ _ _ _ _ _
  exact HF3.out
theorem take_4 {B:Nat} {O:Nat -> Prop} {b:Nat} {s:Sl} {c:Ck} (i:It) (ka:Option Addr) (kc:Nat) (w:World) (hck:CkAt O b s c w) (hok:CkOk c) (hlow:∀ g,O g -> B <= g) (hB:B <= w.heap.size) (hF:FoAt false (fun g=>g < B) w i.args ka 1) (hof:okF i.args) (hn:i.name.length <= maxLen) (hk:i.kind = 4) (htw:twiceB { c with pl:=i.pl } i = false) :
 Calls Tryz.prog 28 #[Φ (some ⟨b,0,none⟩),itV i ka 1 kc] w (TPost O b w (singleB (fun c p=>{ c with mis:=p }) ({ c with pl:=i.pl,had:=putHad c.had 4 }) (arg1 i.args))):=by
 have hres:Tryz.f28.results = #[.cell 4 32]:=by kernel_rfl
 obtain ⟨g,off,h,k,ka1,kn1,kc1,rfl,ha1,hr1,hat⟩:=one_arg hF (by omega) hof
 rw [ha1]
 have hS1:LS w O (fun g=>O g /\ g < w.heap.size) b s s (some c) [(w.heap.size + 1,flL (0,0),32),(w.heap.size,[I J 4,Ψ (bs i.name),Γ (some ⟨g,off,none⟩) 1 kc,I J i.pl],67)] ((w.alloc (Δ #[I J 4,Ψ (bs i.name),Γ (some ⟨g,off,none⟩) 1 kc,I J i.pl] 67)).alloc (Δ #[I J 0,I J 0] 32)):=by
  have:=LS.startI hck hok i (some ⟨g,off,none⟩) 1 kc
  unfold itL at this
  rw [hk] at this
  exact this
 have hmem:∀ W,Fr O w W -> ∀ q,q < w.heap.size -> q < B -> W.heap[q]? = w.heap[q]?:=fun W hf q hq hqB=>hf.block q hq (fun ho=>by have:=hlow q ho; omega)
 obtain ⟨r,hr⟩:∃ r,r = singleB (fun c p=>{ c with mis:=p }) ({ c with pl:=i.pl,had:=putHad c.had 4 }) (h,k):=⟨_,rfl⟩
 rw [<- hr]
 have HC:Hid (∀ O' s' W,LS w O O' b s s' (some { c with pl:=i.pl,had:=putHad c.had 4 }) [(w.heap.size + 1,flL (0,0),32),(w.heap.size,[I J 4,Ψ (bs i.name),Γ (some ⟨g,off,none⟩) 1 kc,I J i.pl],67)] W -> Calls Tryz.prog 57 #[Φ (some ⟨b,0,none⟩),.agg #[I J h.kind,I J h.num,Ψ (bs h.text),Γ ka1 kn1 kc1,I J h.pl],Φ (some ⟨b,26,none⟩)] W (TPost O' b W r)):=by
  intro O' s' W hL
  have hlow':∀ g,O' g -> B <= g:=fun q hq=>by rcases hL.new q hq with h1 | h1; exact hlow q h1; omega
  obtain ⟨hE,-⟩:=hat W (hmem W hL.fr)
  have hB':=Nat.le_trans hB hL.fr.size
  obtain ⟨k1,k2',k3⟩:=hL.ck _ rfl
  rw [hr]
  exact single_calls h k ka1 kn1 kc1 b 26 (fun c p=>{ c with mis:=p }) W k1 k2' hlow' hB' hE hr1 (fun O3 s3 c3 W3 p j1 _ _=>⟨j1.inB,⟨_,j1.c26⟩,j1.fz 26,j1.put rfl rfl rfl rfl rfl rfl⟩)
 have HTW:Hid (∀ O' s' L W,LS w O O' b s s' (some { c with pl:=i.pl }) L W -> Calls Tryz.prog 48 #[Φ (some ⟨b,0,none⟩),.agg #[I J 4,Ψ (bs i.name),Γ (some ⟨g,off,none⟩) 1 kc,I J i.pl]] W fun e w'=>e = Ω (.bool false) /\ Hid (LS w O O' b s s' (some { c with pl:=i.pl }) L w')):=fun O' s' L W hL=>by
  have:=hL.twice i (some ⟨g,off,none⟩) 1 kc (by omega) (by omega) hn
  rw [htw] at this
  unfold itV at this
  rw [hk] at this
  exact this
 have HSS:Hid (∀ O' s' oc W,LS w O O' b s s' oc [(w.heap.size + 1,flL (0,0),32),(w.heap.size,[I J 4,Ψ (bs i.name),Γ (some ⟨g,off,none⟩) 1 kc,I J i.pl],67)] W -> W.cell? ⟨w.heap.size,2,none⟩ = some (Γ (some ⟨g,off,none⟩) 1 kc) /\ W.cell? ⟨g,off,none⟩ = some (I J h.kind) /\ W.cell? ⟨g,off + 1,none⟩ = some (I J h.num) /\ W.cell? ⟨g,off + 2,none⟩ = some (Ψ (bs h.text)) /\ W.cell? ⟨g,off + 3,none⟩ = some (Γ ka1 kn1 kc1) /\ W.cell? ⟨g,off + 4,none⟩ = some (I J h.pl)):=fun O' s' oc W hL=>⟨hL.at (g:=w.heap.size) (cs:=[I J 4,Ψ (bs i.name),Γ (some ⟨g,off,none⟩) 1 kc,I J i.pl]) (ty:=67) (by simp) rfl,(hat W (hmem W hL.fr)).2⟩
 have HOK:Hid (CkOk { c with pl:=i.pl } /\ CkOk { c with pl:=i.pl,had:=putHad c.had 4 }):=⟨hok.pl i.pl,hok.had i.pl _⟩
 generalize hO1:(fun g=>O g /\ g < w.heap.size) = O1 at hS1
 clear hO1 hck hok hlow hB hF hof hn htw hmem hat hr ha1 hr1
 unfold itV
 rw [hk]
 clear hk
 have HS1:=hid hS1
 clear hS1
 go_enter Tryz.func28,Tryz.ntmps28
 go_upto_region 1 with (fail)
 generalize ((w.alloc (Δ #[I J 4,Ψ (bs i.name),Γ (some ⟨g,off,none⟩) 1 kc,I J i.pl] 67)).alloc (Δ #[I J 0,I J 0] 32)) = w1 at *
 have x3:w1.cell? ⟨w.heap.size,3,none⟩ = some (I J i.pl):=HS1.out.at (g:=w.heap.size) (cs:=[I J 4,Ψ (bs i.name),Γ (some ⟨g,off,none⟩) 1 kc,I J i.pl]) (ty:=67) (by simp) rfl
 have b24:w1.cell? ⟨b,24,none⟩ = some (I J c.pl):=(HS1.out.ck _ rfl).1.c24
 have bf:w1.frozen? ⟨b,24,none⟩ = false:=(HS1.out.ck _ rfl).1.fz 24
 have HS2:Hid (LS w O O1 b s s (some { c with pl:=i.pl }) [(w.heap.size + 1,flL (0,0),32),(w.heap.size,[I J 4,Ψ (bs i.name),Γ (some ⟨g,off,none⟩) 1 kc,I J i.pl],67)] (w1.setCell ⟨b,24,none⟩ (I J i.pl))):=HS1.out.putB rfl rfl rfl rfl rfl rfl HOK.out.1
 go_upto_region 2 with (fail)
 clear x3 b24 bf HS1
 generalize w1.setCell ⟨b,24,none⟩ (I J i.pl) = w2 at *
 have x0:w2.cell? ⟨w.heap.size,0,none⟩ = some (I J 4):=HS2.out.at (g:=w.heap.size) (cs:=[I J 4,Ψ (bs i.name),Γ (some ⟨g,off,none⟩) 1 kc,I J i.pl]) (ty:=67) (by simp) rfl
 have x1:w2.cell? ⟨w.heap.size,1,none⟩ = some (Ψ (bs i.name)):=HS2.out.at (g:=w.heap.size) (cs:=[I J 4,Ψ (bs i.name),Γ (some ⟨g,off,none⟩) 1 kc,I J i.pl]) (ty:=67) (by simp) rfl
 have x2:w2.cell? ⟨w.heap.size,2,none⟩ = some (Γ (some ⟨g,off,none⟩) 1 kc):=HS2.out.at (g:=w.heap.size) (cs:=[I J 4,Ψ (bs i.name),Γ (some ⟨g,off,none⟩) 1 kc,I J i.pl]) (ty:=67) (by simp) rfl
 have x3:w2.cell? ⟨w.heap.size,3,none⟩ = some (I J i.pl):=HS2.out.at (g:=w.heap.size) (cs:=[I J 4,Ψ (bs i.name),Γ (some ⟨g,off,none⟩) 1 kc,I J i.pl]) (ty:=67) (by simp) rfl
 go_wp2_with (go_at_call 48; refine (HTW.out _ _ _ _ HS2.out).mono ?_; rintro e w3 ⟨rfl,HS3⟩)
 clear x0 x1 x2 x3 HS2 HTW
 have HL4:=hid (HS3.out.drew)
 have HS0:Hid (w3.drew.cell? ⟨w.heap.size,0,none⟩ = some (I J 4)):=HL4.out.at (g:=w.heap.size) (cs:=[I J 4,Ψ (bs i.name),Γ (some ⟨g,off,none⟩) 1 kc,I J i.pl]) (ty:=67) (by simp) rfl
 clear HS3
 refine wp_region_Y (fun j=>[6].contains j) (fun W=>W.cell? ⟨w.heap.size,0,none⟩ = some (I J 4)) (by kernel_rfl) ?_
 refine tkL (i:=0) 15 (v:=Φ (some ⟨b,0,none⟩)) rfl rfl HS0.out (fun W hW=>by go_simp) ?_
 simp only [Act.put,lA,lB,lC]
 refine tkL (i:=1) 16 (v:=Φ (some ⟨w.heap.size,0,none⟩)) rfl rfl HS0.out (fun W hW=>by go_simp) ?_
 simp only [Act.put,lA,lB,lC]
 refine tkL (i:=2) 17 (v:=I J 4) rfl rfl HS0.out (fun W hW=>by go_simp) ?_
 simp only [Act.put,lA,lB,lC]
 refine tkL (i:=3) 18 (v:=Φ (some ⟨b,0,none⟩)) rfl rfl HS0.out (fun W hW=>by go_simp) ?_
 simp only [Act.put,lA,lB,lC]
 refine tkL (i:=4) 19 (v:=Φ (some ⟨b,13,none⟩)) rfl rfl HS0.out (fun W hW=>by go_simp) ?_
 simp only [Act.put,lA,lB,lC]
 refine tkL (i:=5) 20 (v:=Φ (some ⟨b,17,none⟩)) rfl rfl HS0.out (fun W hW=>by go_simp) ?_
 simp only [Act.put,lA,lB,lC]
 refine wpAnyY_one (i:=6) rfl (by kernel_rfl) (fun K hK=>?_)
 refine storeB_step rfl rfl rfl rfl ((HL4.out.ck _ rfl).1.hadk (k:=4) (by omega)) ((HL4.out.ck _ rfl).1.fz 17) ?_
 intro V hV
 have HL5:Hid (LS w O O1 b s s (some { c with pl:=i.pl,had:=putHad c.had 4 }) [(w.heap.size + 1,flL (0,0),32),(w.heap.size,[I J 4,Ψ (bs i.name),Γ (some ⟨g,off,none⟩) 1 kc,I J i.pl],67)] V):=by subst hV; exact HL4.out.putB rfl rfl rfl rfl rfl rfl HOK.out.2
 refine hK.out _ _ (fun hh=>absurd hh (by decide)) ?_
 clear hK K HL4 HS0 hV HOK
 refine wpAnyY_done (by kernel_rfl) ?_ _
 have x0:V.cell? ⟨w.heap.size,0,none⟩ = some (I J 4):=HL5.out.at (g:=w.heap.size) (cs:=[I J 4,Ψ (bs i.name),Γ (some ⟨g,off,none⟩) 1 kc,I J i.pl]) (ty:=67) (by simp) rfl
 go_wp2_with fail
 clear x0
 have HL6:=hid (HL5.out.drew)
 have HS0:Hid (V.drew.cell? ⟨w.heap.size,2,none⟩ = some (Γ (some ⟨g,off,none⟩) 1 kc) /\ V.drew.cell? ⟨g,off,none⟩ = some (I J h.kind) /\ V.drew.cell? ⟨g,off + 1,none⟩ = some (I J h.num) /\ V.drew.cell? ⟨g,off + 2,none⟩ = some (Ψ (bs h.text)) /\ V.drew.cell? ⟨g,off + 3,none⟩ = some (Γ ka1 kn1 kc1) /\ V.drew.cell? ⟨g,off + 4,none⟩ = some (I J h.pl)):=HSS.out _ _ _ _ HL6.out
 clear HL5
 refine wp_region_Y (fun j=>[8,9].contains j) (fun W=>W.cell? ⟨w.heap.size,2,none⟩ = some (Γ (some ⟨g,off,none⟩) 1 kc) /\ W.cell? ⟨g,off,none⟩ = some (I J h.kind) /\ W.cell? ⟨g,off + 1,none⟩ = some (I J h.num) /\ W.cell? ⟨g,off + 2,none⟩ = some (Ψ (bs h.text)) /\ W.cell? ⟨g,off + 3,none⟩ = some (Γ ka1 kn1 kc1) /\ W.cell? ⟨g,off + 4,none⟩ = some (I J h.pl)) (by kernel_rfl) ?_
 refine tkL (i:=0) 111 (v:=Φ (some ⟨b,0,none⟩)) rfl rfl HS0.out (fun W hW=>by obtain ⟨_,_,_,_,_,_⟩:=hW; go_simp) ?_
 simp only [Act.put,lA,lB,lC]
 refine tkL (i:=1) 112 (v:=Φ (some ⟨w.heap.size,2,none⟩)) rfl rfl HS0.out (fun W hW=>by obtain ⟨_,_,_,_,_,_⟩:=hW; go_simp) ?_
 simp only [Act.put,lA,lB,lC]
 refine tkL (i:=2) 113 (v:=Γ (some ⟨g,off,none⟩) 1 kc) rfl rfl HS0.out (fun W hW=>by obtain ⟨_,_,_,_,_,_⟩:=hW; go_simp) ?_
 simp only [Act.put,lA,lB,lC]
 refine tkL (i:=3) 114 (v:=Φ (some ⟨g,off,none⟩)) rfl rfl HS0.out (fun W hW=>by obtain ⟨_,_,_,_,_,_⟩:=hW; go_simp) ?_
 simp only [Act.put,lA,lB,lC]
 refine tkL (i:=4) 115 (v:=.agg #[I J h.kind,I J h.num,Ψ (bs h.text),Γ ka1 kn1 kc1,I J h.pl]) rfl rfl HS0.out (fun W hW=>by obtain ⟨_,_,_,_,_,_⟩:=hW; go_simp) ?_
 simp only [Act.put,lA,lB,lC]
 refine tkL (i:=5) 116 (v:=Φ (some ⟨b,0,none⟩)) rfl rfl HS0.out (fun W hW=>by obtain ⟨_,_,_,_,_,_⟩:=hW; go_simp) ?_
 simp only [Act.put,lA,lB,lC]
 refine tkL (i:=6) 117 (v:=Φ (some ⟨b,0,none⟩)) rfl rfl HS0.out (fun W hW=>by obtain ⟨_,_,_,_,_,_⟩:=hW; go_simp) ?_
 simp only [Act.put,lA,lB,lC]
 refine tkL (i:=7) 118 (v:=Φ (some ⟨b,26,none⟩)) rfl rfl HS0.out (fun W hW=>by obtain ⟨_,_,_,_,_,_⟩:=hW; go_simp) ?_
 simp only [Act.put,lA,lB,lC]
 refine wpAnyY_one (i:=8) rfl (by kernel_rfl) (fun K hK=>?_)
 refine call57_step rfl rfl rfl rfl rfl rfl ?_
 refine (HC.out _ _ _ HL6.out).mono ?_
 intro e V2 hp
 obtain ⟨f1,f2,hff⟩:∃ f1 f2,faultOf r = (f1,f2):=⟨_,_,rfl⟩
 have hRl:=HL6.out.loc (w.heap.size + 1,flL (0,0),32) (by simp)
 have hl:=hRl.1.fr (O':=O1) hp.val.2 (fun g hg=>.inl hg)
 have hv:=hp.val.1
 rw [hff] at hv
 have HF:Hid (∀ u v,TPost O b w r e ((V2.setCell ⟨w.heap.size + 1,0,none⟩ u).setCell ⟨w.heap.size + 1,1,none⟩ v)):=fun u v=>hp.lift HL6.out.fr HL6.out.new hRl.1.off hRl.2 hRl.1.lt u v
 refine ⟨_,hv,?_⟩
 subst hv
 refine hK.out _ _ (fun hh=>absurd hh (by decide)) ?_
 clear hK K HL6 HS0 HC HSS hff hp hRl
 simp only [Act.put,lA,lB,lC]
 refine wpAnyY_one (i:=9) rfl (by kernel_rfl) (fun K hK=>?_)
 refine store32_step rfl rfl rfl rfl rfl hl.heap ?_
 intro V3 hV
 have HF3:Hid (TPost O b w r (Ω (.agg #[I J f1,I J f2])) V3):=by rw [hV]; exact HF.out _ _
 have hl3:V3.heap[w.heap.size + 1]? = some (Δ #[I J f1,I J f2] 32 (0,0)):=by rw [hV]; exact ((hl.put 0 (I J f1)).put 1 (I J f2)).heap
 refine hK.out _ _ (fun hh=>absurd hh (by decide)) ?_
 clear hK K HF hl hV
 have z0:V3.cell? ⟨w.heap.size + 1,0,none⟩ = some (I J f1):=blk hl3 rfl
 have z1:V3.cell? ⟨w.heap.size + 1,1,none⟩ = some (I J f2):=blk hl3 rfl
 clear hl3
 refine wpAnyY_done (by kernel_rfl) ?_ _
 go_wp2
 refine bodyPost_ret (v:=flV (f1,f2)) ?_ rfl ?_
 ·simp only [results,hres]
  unfold flV
  simp only
  go_simp
 ·show TPost _ _ _ _ _ _
  exact HF3.out
theorem take_10 {B:Nat} {O:Nat -> Prop} {b:Nat} {s:Sl} {c:Ck} (i:It) (ka:Option Addr) (kc:Nat) (w:World) (hck:CkAt O b s c w) (hok:CkOk c) (hlow:∀ g,O g -> B <= g) (hB:B <= w.heap.size) (hF:FoAt false (fun g=>g < B) w i.args ka 1) (hof:okF i.args) (hn:i.name.length <= maxLen) (hk:i.kind = 10) (htw:twiceB { c with pl:=i.pl } i = false) :
 Calls Tryz.prog 28 #[Φ (some ⟨b,0,none⟩),itV i ka 1 kc] w (TPost O b w (singleB (fun c p=>{ c with least:=p }) ({ c with pl:=i.pl,had:=putHad c.had 10 }) (arg1 i.args))):=by
 have hres:Tryz.f28.results = #[.cell 4 32]:=by kernel_rfl
 obtain ⟨g,off,h,k,ka1,kn1,kc1,rfl,ha1,hr1,hat⟩:=one_arg hF (by omega) hof
 rw [ha1]
 have hS1:LS w O (fun g=>O g /\ g < w.heap.size) b s s (some c) [(w.heap.size + 1,flL (0,0),32),(w.heap.size,[I J 10,Ψ (bs i.name),Γ (some ⟨g,off,none⟩) 1 kc,I J i.pl],67)] ((w.alloc (Δ #[I J 10,Ψ (bs i.name),Γ (some ⟨g,off,none⟩) 1 kc,I J i.pl] 67)).alloc (Δ #[I J 0,I J 0] 32)):=by
  have:=LS.startI hck hok i (some ⟨g,off,none⟩) 1 kc
  unfold itL at this
  rw [hk] at this
  exact this
 have hmem:∀ W,Fr O w W -> ∀ q,q < w.heap.size -> q < B -> W.heap[q]? = w.heap[q]?:=fun W hf q hq hqB=>hf.block q hq (fun ho=>by have:=hlow q ho; omega)
 obtain ⟨r,hr⟩:∃ r,r = singleB (fun c p=>{ c with least:=p }) ({ c with pl:=i.pl,had:=putHad c.had 10 }) (h,k):=⟨_,rfl⟩
 rw [<- hr]
 have HC:Hid (∀ O' s' W,LS w O O' b s s' (some { c with pl:=i.pl,had:=putHad c.had 10 }) [(w.heap.size + 1,flL (0,0),32),(w.heap.size,[I J 10,Ψ (bs i.name),Γ (some ⟨g,off,none⟩) 1 kc,I J i.pl],67)] W -> Calls Tryz.prog 57 #[Φ (some ⟨b,0,none⟩),.agg #[I J h.kind,I J h.num,Ψ (bs h.text),Γ ka1 kn1 kc1,I J h.pl],Φ (some ⟨b,10,none⟩)] W (TPost O' b W r)):=by
  intro O' s' W hL
  have hlow':∀ g,O' g -> B <= g:=fun q hq=>by rcases hL.new q hq with h1 | h1; exact hlow q h1; omega
  obtain ⟨hE,-⟩:=hat W (hmem W hL.fr)
  have hB':=Nat.le_trans hB hL.fr.size
  obtain ⟨k1,k2',k3⟩:=hL.ck _ rfl
  rw [hr]
  exact single_calls h k ka1 kn1 kc1 b 10 (fun c p=>{ c with least:=p }) W k1 k2' hlow' hB' hE hr1 (fun O3 s3 c3 W3 p j1 _ _=>⟨j1.inB,⟨_,j1.c10⟩,j1.fz 10,j1.put rfl rfl rfl rfl rfl rfl⟩)
 have HTW:Hid (∀ O' s' L W,LS w O O' b s s' (some { c with pl:=i.pl }) L W -> Calls Tryz.prog 48 #[Φ (some ⟨b,0,none⟩),.agg #[I J 10,Ψ (bs i.name),Γ (some ⟨g,off,none⟩) 1 kc,I J i.pl]] W fun e w'=>e = Ω (.bool false) /\ Hid (LS w O O' b s s' (some { c with pl:=i.pl }) L w')):=fun O' s' L W hL=>by
  have:=hL.twice i (some ⟨g,off,none⟩) 1 kc (by omega) (by omega) hn
  rw [htw] at this
  unfold itV at this
  rw [hk] at this
  exact this
 have HSS:Hid (∀ O' s' oc W,LS w O O' b s s' oc [(w.heap.size + 1,flL (0,0),32),(w.heap.size,[I J 10,Ψ (bs i.name),Γ (some ⟨g,off,none⟩) 1 kc,I J i.pl],67)] W -> W.cell? ⟨w.heap.size,2,none⟩ = some (Γ (some ⟨g,off,none⟩) 1 kc) /\ W.cell? ⟨g,off,none⟩ = some (I J h.kind) /\ W.cell? ⟨g,off + 1,none⟩ = some (I J h.num) /\ W.cell? ⟨g,off + 2,none⟩ = some (Ψ (bs h.text)) /\ W.cell? ⟨g,off + 3,none⟩ = some (Γ ka1 kn1 kc1) /\ W.cell? ⟨g,off + 4,none⟩ = some (I J h.pl)):=fun O' s' oc W hL=>⟨hL.at (g:=w.heap.size) (cs:=[I J 10,Ψ (bs i.name),Γ (some ⟨g,off,none⟩) 1 kc,I J i.pl]) (ty:=67) (by simp) rfl,(hat W (hmem W hL.fr)).2⟩
 have HOK:Hid (CkOk { c with pl:=i.pl } /\ CkOk { c with pl:=i.pl,had:=putHad c.had 10 }):=⟨hok.pl i.pl,hok.had i.pl _⟩
 generalize hO1:(fun g=>O g /\ g < w.heap.size) = O1 at hS1
 clear hO1 hck hok hlow hB hF hof hn htw hmem hat hr ha1 hr1
 unfold itV
 rw [hk]
 clear hk
 have HS1:=hid hS1
 clear hS1
 go_enter Tryz.func28,Tryz.ntmps28
 go_upto_region 1 with (fail)
 generalize ((w.alloc (Δ #[I J 10,Ψ (bs i.name),Γ (some ⟨g,off,none⟩) 1 kc,I J i.pl] 67)).alloc (Δ #[I J 0,I J 0] 32)) = w1 at *
 have x3:w1.cell? ⟨w.heap.size,3,none⟩ = some (I J i.pl):=HS1.out.at (g:=w.heap.size) (cs:=[I J 10,Ψ (bs i.name),Γ (some ⟨g,off,none⟩) 1 kc,I J i.pl]) (ty:=67) (by simp) rfl
 have b24:w1.cell? ⟨b,24,none⟩ = some (I J c.pl):=(HS1.out.ck _ rfl).1.c24
 have bf:w1.frozen? ⟨b,24,none⟩ = false:=(HS1.out.ck _ rfl).1.fz 24
 have HS2:Hid (LS w O O1 b s s (some { c with pl:=i.pl }) [(w.heap.size + 1,flL (0,0),32),(w.heap.size,[I J 10,Ψ (bs i.name),Γ (some ⟨g,off,none⟩) 1 kc,I J i.pl],67)] (w1.setCell ⟨b,24,none⟩ (I J i.pl))):=HS1.out.putB rfl rfl rfl rfl rfl rfl HOK.out.1
 go_upto_region 2 with (fail)
 clear x3 b24 bf HS1
 generalize w1.setCell ⟨b,24,none⟩ (I J i.pl) = w2 at *
 have x0:w2.cell? ⟨w.heap.size,0,none⟩ = some (I J 10):=HS2.out.at (g:=w.heap.size) (cs:=[I J 10,Ψ (bs i.name),Γ (some ⟨g,off,none⟩) 1 kc,I J i.pl]) (ty:=67) (by simp) rfl
 have x1:w2.cell? ⟨w.heap.size,1,none⟩ = some (Ψ (bs i.name)):=HS2.out.at (g:=w.heap.size) (cs:=[I J 10,Ψ (bs i.name),Γ (some ⟨g,off,none⟩) 1 kc,I J i.pl]) (ty:=67) (by simp) rfl
 have x2:w2.cell? ⟨w.heap.size,2,none⟩ = some (Γ (some ⟨g,off,none⟩) 1 kc):=HS2.out.at (g:=w.heap.size) (cs:=[I J 10,Ψ (bs i.name),Γ (some ⟨g,off,none⟩) 1 kc,I J i.pl]) (ty:=67) (by simp) rfl
 have x3:w2.cell? ⟨w.heap.size,3,none⟩ = some (I J i.pl):=HS2.out.at (g:=w.heap.size) (cs:=[I J 10,Ψ (bs i.name),Γ (some ⟨g,off,none⟩) 1 kc,I J i.pl]) (ty:=67) (by simp) rfl
 go_wp2_with (go_at_call 48; refine (HTW.out _ _ _ _ HS2.out).mono ?_; rintro e w3 ⟨rfl,HS3⟩)
 clear x0 x1 x2 x3 HS2 HTW
 have HL4:=hid (HS3.out.drew)
 have HS0:Hid (w3.drew.cell? ⟨w.heap.size,0,none⟩ = some (I J 10)):=HL4.out.at (g:=w.heap.size) (cs:=[I J 10,Ψ (bs i.name),Γ (some ⟨g,off,none⟩) 1 kc,I J i.pl]) (ty:=67) (by simp) rfl
 clear HS3
 refine wp_region_Y (fun j=>[6].contains j) (fun W=>W.cell? ⟨w.heap.size,0,none⟩ = some (I J 10)) (by kernel_rfl) ?_
 refine tkL (i:=0) 15 (v:=Φ (some ⟨b,0,none⟩)) rfl rfl HS0.out (fun W hW=>by go_simp) ?_
 simp only [Act.put,lA,lB,lC]
 refine tkL (i:=1) 16 (v:=Φ (some ⟨w.heap.size,0,none⟩)) rfl rfl HS0.out (fun W hW=>by go_simp) ?_
 simp only [Act.put,lA,lB,lC]
 refine tkL (i:=2) 17 (v:=I J 10) rfl rfl HS0.out (fun W hW=>by go_simp) ?_
 simp only [Act.put,lA,lB,lC]
 refine tkL (i:=3) 18 (v:=Φ (some ⟨b,0,none⟩)) rfl rfl HS0.out (fun W hW=>by go_simp) ?_
 simp only [Act.put,lA,lB,lC]
 refine tkL (i:=4) 19 (v:=Φ (some ⟨b,13,none⟩)) rfl rfl HS0.out (fun W hW=>by go_simp) ?_
 simp only [Act.put,lA,lB,lC]
 refine tkL (i:=5) 20 (v:=Φ (some ⟨b,23,none⟩)) rfl rfl HS0.out (fun W hW=>by go_simp) ?_
 simp only [Act.put,lA,lB,lC]
 refine wpAnyY_one (i:=6) rfl (by kernel_rfl) (fun K hK=>?_)
 refine storeB_step rfl rfl rfl rfl ((HL4.out.ck _ rfl).1.hadk (k:=10) (by omega)) ((HL4.out.ck _ rfl).1.fz 23) ?_
 intro V hV
 have HL5:Hid (LS w O O1 b s s (some { c with pl:=i.pl,had:=putHad c.had 10 }) [(w.heap.size + 1,flL (0,0),32),(w.heap.size,[I J 10,Ψ (bs i.name),Γ (some ⟨g,off,none⟩) 1 kc,I J i.pl],67)] V):=by subst hV; exact HL4.out.putB rfl rfl rfl rfl rfl rfl HOK.out.2
 refine hK.out _ _ (fun hh=>absurd hh (by decide)) ?_
 clear hK K HL4 HS0 hV HOK
 refine wpAnyY_done (by kernel_rfl) ?_ _
 have x0:V.cell? ⟨w.heap.size,0,none⟩ = some (I J 10):=HL5.out.at (g:=w.heap.size) (cs:=[I J 10,Ψ (bs i.name),Γ (some ⟨g,off,none⟩) 1 kc,I J i.pl]) (ty:=67) (by simp) rfl
 go_wp2_with fail
 clear x0
 have HL6:=hid (HL5.out.drew)
 have HS0:Hid (V.drew.cell? ⟨w.heap.size,2,none⟩ = some (Γ (some ⟨g,off,none⟩) 1 kc) /\ V.drew.cell? ⟨g,off,none⟩ = some (I J h.kind) /\ V.drew.cell? ⟨g,off + 1,none⟩ = some (I J h.num) /\ V.drew.cell? ⟨g,off + 2,none⟩ = some (Ψ (bs h.text)) /\ V.drew.cell? ⟨g,off + 3,none⟩ = some (Γ ka1 kn1 kc1) /\ V.drew.cell? ⟨g,off + 4,none⟩ = some (I J h.pl)):=HSS.out _ _ _ _ HL6.out
 clear HL5
 refine wp_region_Y (fun j=>[9,10].contains j) (fun W=>W.cell? ⟨w.heap.size,2,none⟩ = some (Γ (some ⟨g,off,none⟩) 1 kc) /\ W.cell? ⟨g,off,none⟩ = some (I J h.kind) /\ W.cell? ⟨g,off + 1,none⟩ = some (I J h.num) /\ W.cell? ⟨g,off + 2,none⟩ = some (Ψ (bs h.text)) /\ W.cell? ⟨g,off + 3,none⟩ = some (Γ ka1 kn1 kc1) /\ W.cell? ⟨g,off + 4,none⟩ = some (I J h.pl)) (by kernel_rfl) ?_
 refine tkL (i:=0) 122 (v:=Φ (some ⟨b,0,none⟩)) rfl rfl HS0.out (fun W hW=>by obtain ⟨_,_,_,_,_,_⟩:=hW; go_simp) ?_
 simp only [Act.put,lA,lB,lC]
 refine tkL (i:=1) 123 (v:=Φ (some ⟨w.heap.size,2,none⟩)) rfl rfl HS0.out (fun W hW=>by obtain ⟨_,_,_,_,_,_⟩:=hW; go_simp) ?_
 simp only [Act.put,lA,lB,lC]
 refine tkL (i:=2) 124 (v:=Γ (some ⟨g,off,none⟩) 1 kc) rfl rfl HS0.out (fun W hW=>by obtain ⟨_,_,_,_,_,_⟩:=hW; go_simp) ?_
 simp only [Act.put,lA,lB,lC]
 refine tkL (i:=3) 125 (v:=Φ (some ⟨g,off,none⟩)) rfl rfl HS0.out (fun W hW=>by obtain ⟨_,_,_,_,_,_⟩:=hW; go_simp) ?_
 simp only [Act.put,lA,lB,lC]
 refine tkL (i:=4) 126 (v:=.agg #[I J h.kind,I J h.num,Ψ (bs h.text),Γ ka1 kn1 kc1,I J h.pl]) rfl rfl HS0.out (fun W hW=>by obtain ⟨_,_,_,_,_,_⟩:=hW; go_simp) ?_
 simp only [Act.put,lA,lB,lC]
 refine tkL (i:=5) 127 (v:=Φ (some ⟨b,0,none⟩)) rfl rfl HS0.out (fun W hW=>by obtain ⟨_,_,_,_,_,_⟩:=hW; go_simp) ?_
 simp only [Act.put,lA,lB,lC]
 refine tkL (i:=6) 128 (v:=Φ (some ⟨b,0,none⟩)) rfl rfl HS0.out (fun W hW=>by obtain ⟨_,_,_,_,_,_⟩:=hW; go_simp) ?_
 simp only [Act.put,lA,lB,lC]
 refine tkL (i:=7) 129 (v:=Φ (some ⟨b,0,none⟩)) rfl rfl HS0.out (fun W hW=>by obtain ⟨_,_,_,_,_,_⟩:=hW; go_simp) ?_
 simp only [Act.put,lA,lB,lC]
 refine tkL (i:=8) 130 (v:=Φ (some ⟨b,10,none⟩)) rfl rfl HS0.out (fun W hW=>by obtain ⟨_,_,_,_,_,_⟩:=hW; go_simp) ?_
 simp only [Act.put,lA,lB,lC]
 refine wpAnyY_one (i:=9) rfl (by kernel_rfl) (fun K hK=>?_)
 refine call57_step rfl rfl rfl rfl rfl rfl ?_
 refine (HC.out _ _ _ HL6.out).mono ?_
 intro e V2 hp
 obtain ⟨f1,f2,hff⟩:∃ f1 f2,faultOf r = (f1,f2):=⟨_,_,rfl⟩
 have hRl:=HL6.out.loc (w.heap.size + 1,flL (0,0),32) (by simp)
 have hl:=hRl.1.fr (O':=O1) hp.val.2 (fun g hg=>.inl hg)
 have hv:=hp.val.1
 rw [hff] at hv
 have HF:Hid (∀ u v,TPost O b w r e ((V2.setCell ⟨w.heap.size + 1,0,none⟩ u).setCell ⟨w.heap.size + 1,1,none⟩ v)):=fun u v=>hp.lift HL6.out.fr HL6.out.new hRl.1.off hRl.2 hRl.1.lt u v
 refine ⟨_,hv,?_⟩
 subst hv
 refine hK.out _ _ (fun hh=>absurd hh (by decide)) ?_
 clear hK K HL6 HS0 HC HSS hff hp hRl
 simp only [Act.put,lA,lB,lC]
 refine wpAnyY_one (i:=10) rfl (by kernel_rfl) (fun K hK=>?_)
 refine store32_step rfl rfl rfl rfl rfl hl.heap ?_
 intro V3 hV
 have HF3:Hid (TPost O b w r (Ω (.agg #[I J f1,I J f2])) V3):=by rw [hV]; exact HF.out _ _
 have hl3:V3.heap[w.heap.size + 1]? = some (Δ #[I J f1,I J f2] 32 (0,0)):=by rw [hV]; exact ((hl.put 0 (I J f1)).put 1 (I J f2)).heap
 refine hK.out _ _ (fun hh=>absurd hh (by decide)) ?_
 clear hK K HF hl hV
 have z0:V3.cell? ⟨w.heap.size + 1,0,none⟩ = some (I J f1):=blk hl3 rfl
 have z1:V3.cell? ⟨w.heap.size + 1,1,none⟩ = some (I J f2):=blk hl3 rfl
 clear hl3
 refine wpAnyY_done (by kernel_rfl) ?_ _
 go_wp2
 refine bodyPost_ret (v:=flV (f1,f2)) ?_ rfl ?_
 ·simp only [results,hres]
  unfold flV
  simp only
  go_simp
 ·show TPost _ _ _ _ _ _
  exact HF3.out
end Go.Proofs.YtlaodgdlkkmmeaaGreat
