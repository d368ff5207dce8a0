/-
  A definition is laid down: lay.
-/
import Derived.Deep.DeepCutAuto
import Derived.Test.YtlaodgdlkkmmeaaGreatG16
namespace Go.Proofs.YtlaodgdlkkmmeaaGreat
open Go.RowKit Go.Deep Go.Maps
open Go.Value renaming int->I,string->Ψ,slice->Γ
open Go.IntKind renaming i64->J
open Go.Obj renaming cells->Δ
open Go.Ending renaming returned->Ω
set_option maxRecDepth 20000
set_option maxHeartbeats 4000000
theorem wpost_parts {r:Int} {w:World} {e:Ending} {w':World} (h:WPost r w e w'):∃ v,e = Ω (.tuple #[I J v,.bool (inB maxV r)]) /\ (inB maxV r = true -> v = r) /\ Below w.heap.size w w':=by
 obtain ⟨⟨v,h1,h2⟩,h3⟩:=h
 exact ⟨v,h1,h2,h3⟩
/-- What asking leaves: a fault; or a meaning, and what was said by then. -/
def XPost (O:Nat -> Prop) (b:Nat) (s:Sl) (w:World) (r:Er (Ck × Mn)) (e:Ending) (w':World):Prop:=
 match r with
 | .error f=>f.1 ≠ 0 /\ e = Ω (.tuple #[mnV mn0,flV f]) /\ Fr O w w'
 | .ok (c',m)=>e = Ω (.tuple #[mnV m,flV (0,0)]) /\ Fr O w w' /\ ∃ O' s',s'.sv = s.sv /\ (∀ g,O' g -> O g \/ w.heap.size <= g) /\ CkAt O' b s' c' w'
/-- Where lay stands: the checker, the definition in its box, the two results. -/
structure LA (w:World) (O0 O:Nat -> Prop) (b:Nat) (s:Sl) (c:Ck) (d:Df) (W:World):Prop where
 ck:CkAt O b s c W
 fr:Fr O0 w W
 box:W.heap[w.heap.size]? = some (Δ #[I J d.op,I J d.num,I J d.a,I J d.b] 43 (0,0))
 r1:W.heap[w.heap.size + 1]? = some (Δ #[.bool false,Ψ ⟨#[]⟩,I J 0,I J 0] 109 (0,0))
 r2:W.heap[w.heap.size + 1 + 1]? = some (Δ #[I J 0,I J 0] 32 (0,0))
 new:∀ g,O g -> (O0 g /\ g < w.heap.size) \/ w.heap.size + 3 <= g
section
variable {w W W':World} {O0 O:Nat -> Prop} {b:Nat} {s:Sl} {c:Ck} {d:Df}
theorem LA.next (h:LA w O0 O b s c d W) (hb:Below W.heap.size W W'):LA w O0 O b s c d W':=
 ⟨h.ck.below hb,h.fr.then_below hb,by rw [hb.block _ (lt_block h.box)]; exact h.box,by rw [hb.block _ (lt_block h.r1)]; exact h.r1,by rw [hb.block _ (lt_block h.r2)]; exact h.r2,h.new⟩
theorem LA.off (h:LA w O0 O b s c d W) {g:Nat} (hg:w.heap.size <= g) (hg2:g < w.heap.size + 3):¬ O g:=fun ho=>by
 rcases h.new g ho with h1 | h1 <;> omega
theorem heap_new3 (w:World) (o1 o2 o3:Obj):(((w.alloc o1).alloc o2).alloc o3).heap[w.heap.size]? = some o1 /\ (((w.alloc o1).alloc o2).alloc o3).heap[w.heap.size + 1]? = some o2 /\ (((w.alloc o1).alloc o2).alloc o3).heap[w.heap.size + 1 + 1]? = some o3:=by
 have h1:(w.alloc o1).heap[w.heap.size]? = some o1:=heap_alloc_new w o1
 have h2:=heap_alloc_new (w.alloc o1) o2
 have h3:=heap_alloc_new ((w.alloc o1).alloc o2) o3
 simp only [show (w.alloc o1).heap.size = w.heap.size + 1 by simp] at h2
 simp only [show ((w.alloc o1).alloc o2).heap.size = w.heap.size + 1 + 1 by simp] at h3
 exact ⟨heap_old (heap_old h1),heap_old h2,h3⟩
theorem LA.start (h:CkAt O b s c w) (d:Df):LA w O (fun g=>O g /\ g < w.heap.size) b s c d (((w.alloc (Δ #[I J d.op,I J d.num,I J d.a,I J d.b] 43)).alloc (Δ #[.bool false,Ψ ⟨#[]⟩,I J 0,I J 0] 109)).alloc (Δ #[I J 0,I J 0] 32)):=by
 obtain ⟨h1,h2,h3⟩:=heap_new3 w (Δ #[I J d.op,I J d.num,I J d.a,I J d.b] 43) (Δ #[.bool false,Ψ ⟨#[]⟩,I J 0,I J 0] 109) (Δ #[I J 0,I J 0] 32)
 exact ⟨((h.tight.alloc _).alloc _).alloc _,(((Fr.refl O w).alloc _).alloc _).alloc _,h1,h2,h3,fun g hg=>.inl hg⟩
end
theorem fr_res {O:Nat -> Prop} {w W:World} (h:Fr O w W) (a b c d e f:Value):Fr O w ((((((W.setCell ⟨w.heap.size + 1,0,none⟩ a).setCell ⟨w.heap.size + 1,1,none⟩ b).setCell ⟨w.heap.size + 1,2,none⟩ c).setCell ⟨w.heap.size + 1,3,none⟩ d).setCell ⟨w.heap.size + 1 + 1,0,none⟩ e).setCell ⟨w.heap.size + 1 + 1,1,none⟩ f):=
 (((((h.setCell (.inr (by omega)) 0 a).setCell (.inr (by omega)) 1 b).setCell (.inr (by omega)) 2 c).setCell (.inr (by omega)) 3 d).setCell (.inr (by omega)) 0 e).setCell (.inr (by omega)) 1 f
theorem ck_res {w W:World} {O0 O:Nat -> Prop} {b:Nat} {s:Sl} {c:Ck} {d:Df} (h:LA w O0 O b s c d W) (x1 x2 x3 x4 x5 x6:Value):CkAt O b s c ((((((W.setCell ⟨w.heap.size + 1,0,none⟩ x1).setCell ⟨w.heap.size + 1,1,none⟩ x2).setCell ⟨w.heap.size + 1,2,none⟩ x3).setCell ⟨w.heap.size + 1,3,none⟩ x4).setCell ⟨w.heap.size + 1 + 1,0,none⟩ x5).setCell ⟨w.heap.size + 1 + 1,1,none⟩ x6):=by
 refine h.ck.keep fun g hg ho=>?_
 have h1:g ≠ w.heap.size + 1:=fun e=>h.off (by omega) (by omega) (e ▸ ho)
 have h2:g ≠ w.heap.size + 1 + 1:=fun e=>h.off (by omega) (by omega) (e ▸ ho)
 exact heap_other (heap_other (heap_other (heap_other (heap_other (heap_other rfl h1) h1) h1) h1) h2) h2
/-- append onto a row of the call's own, as one step of a statement that leaves its order open. -/
theorem step_append_fresh {P:Program} {ops:Array Oper} {o:Oper} {a:Act} {w:World} {K:Act -> World -> Prop} {Q:Exit -> Act -> World -> Prop} {E:Prop}
 (hg:o.guard = none) (s x:Operand) (t:TypeId) (hop:o.op = Op.call { callee:=Callee.builtin Builtin.append,args:=#[s,x],argTypes:=#[t,t] })
 (base:Nat) (e:TypeId) (i:TypeInfo) (z:Value) (size bytes:Nat) (h1:P.underlying t = some (.slice e)) (h2:P.info? e = some i) (h3:i.zero = some z) (h4:i.size = size) (h5:i.bytes = bytes) (h6:z.cells.size = size) (h7:0 < size)
 (v:Value) (n:Nat) (xs:List Value) (hs:a.eval s = v) (hown:w.ownsRow base e size v n xs)
 (ad:Addr) (m c:Nat) (news:List Value) (hx:a.eval x = Γ (some ad) m c) (hn:news.length = m * size) (hc:∀ j u,news[j]? = some u -> w.cell? (ad.add j) = some u) (h1c:∀ u ∈ news,u.oneCell' = true)
 (b1:n + m <= maxLen) (b2:(n + m) * bytes <= 140737488355328) (hbase:base <= w.heap.size)
 (hK:∀ v' w',w'.ownsRow base e size v' (n + m) (xs ++ news) -> w.grownBy w' v.ownBlock -> (∀ g,v'.ownBlock = some g -> some g = v.ownBlock \/ w.heap.size <= g) -> K (a.put o.dst v') w') :
 if Region.wanted o (yielded ops a.tmps) = true then Oper.wp P o a w K Q else E:=by
 have hw:Region.wanted o (yielded ops a.tmps) = true:=by simp [Region.wanted,hg]
 rw [if_pos hw]
 exact wp_append_fresh w s x t hop base e i z size bytes h1 h2 h3 h4 h5 h6 h7 v n xs hs hown ad m c news hx hn hc h1c b1 b2 hbase hK
theorem info43:(Tryz.prog.info? 43).map (fun i=>(i.zero,i.size,i.bytes)) = some (some (.agg #[I J 0,I J 0,I J 0,I J 0]),4,32):=by kernel_rfl
theorem info3:(Tryz.prog.info? 3).map (fun i=>(i.zero,i.size,i.bytes)) = some (some (I J 0),1,8):=by kernel_rfl
theorem cells_new (W:World) (l:List Value) (ty:TypeId):∀ (i:Nat) (u:Value),l[i]? = some u -> (W.alloc (Δ l.toArray ty)).cell? ((⟨W.heap.size,0,none⟩:Addr).add i) = some u:=by
 intro i u hu
 have hadd:(⟨W.heap.size,0,none⟩:Addr).add i = ⟨W.heap.size,i,none⟩:=by unfold Addr.add; split <;> simp_all
 rw [hadd,cell_of_row _ W.heap.size i _ ty (0,0) (heap_alloc_new W _)]
 simpa using hu
theorem df_new (W:World) (op num a b:Int):∀ (i:Nat) (u:Value),(dfCells ⟨op,num,a,b⟩)[i]? = some u -> (W.alloc (Δ #[I J op,I J num,I J a,I J b] 43)).cell? ((⟨W.heap.size,0,none⟩:Addr).add i) = some u:=cells_new W (dfCells ⟨op,num,a,b⟩) 43
theorem it_new (W:World) (z:Int):∀ (i:Nat) (u:Value),[Value.int .i64 z][i]? = some u -> (W.alloc (Δ #[I J z] 3)).cell? ((⟨W.heap.size,0,none⟩:Addr).add i) = some u:=cells_new W [I J z] 3
theorem df_one (d:Df):∀ u ∈ dfCells d,u.oneCell' = true:=by
 intro u hu
 simp [dfCells] at hu
 rcases hu with rfl | rfl | rfl | rfl <;> rfl
theorem it_one (z:Int):∀ u ∈ [Value.int .i64 z],u.oneCell' = true:=by
 intro u hu
 simp at hu
 subst hu; rfl
/-- Behind the first append: one definition more. -/
def LB (w:World) (O:Nat -> Prop) (b:Nat) (s:Sl) (c:Ck) (d:Df) (W:World):Prop:=∃ O2 s2,s2.sv = s.sv /\ s2.vv = s.vv /\ LA w O O2 b s2 c d W
theorem LA.addDef {w W w4:World} {O0 O:Nat -> Prop} {b:Nat} {s:Sl} {c:Ck} {d:Df} (h:LA w O0 O b s c d W) {v':Value} (hown:w4.ownsRow 0 43 4 v' (c.defs.length + 1) (dfRow c.defs ++ dfCells d)) (hg:W.grownBy w4 s.dv.ownBlock) (hfr:∀ g,v'.ownBlock = some g -> some g = s.dv.ownBlock \/ W.heap.size <= g) :
 w4.cell? ⟨b,1,none⟩ = some s.dv /\ w4.frozen? ⟨b,1,none⟩ = false /\ LB w O0 b s { c with defs:=c.defs ++ [d] } d (w4.setCell ⟨b,1,none⟩ v'):=by
 obtain ⟨k1,k2,k3⟩:=h.ck.addDef hown hg hfr
 have hnb:∀ g,w.heap.size <= g -> g < w.heap.size + 3 -> ∀ x,W.heap[g]? = some x -> (w4.setCell ⟨b,1,none⟩ v').heap[g]? = some x:=fun g h1 h2 x hx=>by
  have hno:=h.off h1 h2
  refine heap_other ?_ (fun e=>hno (e ▸ h.ck.inB))
  rw [hg.block g (lt_block hx) (fun e=>hno (h.ck.inD g e.symm))]; exact hx
 have hsz:w.heap.size + 3 <= W.heap.size:=by have:=lt_block h.r2; omega
 have hO0:∀ g,O g -> O0 g \/ w.heap.size <= g:=fun g hg=>by rcases h.new g hg with h1 | h1; exact .inl h1.1; exact .inr (by omega)
 refine ⟨k1,k2,fun g=>O g \/ W.heap.size <= g,{ s with dv:=v' },rfl,rfl,k3,?_,hnb _ (by omega) (by omega) _ h.box,hnb _ (by omega) (by omega) _ h.r1,hnb _ (by omega) (by omega) _ h.r2,?_⟩
 ·exact (h.fr.grown hg (fun k hk=>hO0 k (h.ck.inD k hk))).setCell (hO0 b h.ck.inB) _ _
 ·intro g hg
  rcases hg with h1 | h1
  ·exact h.new g h1
  ·exact .inr (by omega)
theorem LA.addVal {w W w4:World} {O0 O:Nat -> Prop} {b:Nat} {s:Sl} {c:Ck} {d:Df} {z:Int} (h:LA w O0 O b s c d W) {v':Value} (hown:w4.ownsRow 0 3 1 v' (c.values.length + 1) (itRow c.values ++ [I J z])) (hg:W.grownBy w4 s.vv.ownBlock) (hfr:∀ g,v'.ownBlock = some g -> some g = s.vv.ownBlock \/ W.heap.size <= g) :
 w4.cell? ⟨b,11,none⟩ = some s.vv /\ w4.frozen? ⟨b,11,none⟩ = false /\ ∃ O2 s2,s2.sv = s.sv /\ LA w O0 O2 b s2 { c with values:=c.values ++ [z] } d (w4.setCell ⟨b,11,none⟩ v'):=by
 obtain ⟨k1,k2,k3⟩:=h.ck.addVal hown hg hfr
 have hnb:∀ g,w.heap.size <= g -> g < w.heap.size + 3 -> ∀ x,W.heap[g]? = some x -> (w4.setCell ⟨b,11,none⟩ v').heap[g]? = some x:=fun g h1 h2 x hx=>by
  have hno:=h.off h1 h2
  refine heap_other ?_ (fun e=>hno (e ▸ h.ck.inB))
  rw [hg.block g (lt_block hx) (fun e=>hno (h.ck.inV g e.symm))]; exact hx
 have hsz:w.heap.size + 3 <= W.heap.size:=by have:=lt_block h.r2; omega
 have hO0:∀ g,O g -> O0 g \/ w.heap.size <= g:=fun g hg=>by rcases h.new g hg with h1 | h1; exact .inl h1.1; exact .inr (by omega)
 refine ⟨k1,k2,fun g=>O g \/ W.heap.size <= g,{ s with vv:=v' },rfl,k3,?_,hnb _ (by omega) (by omega) _ h.box,hnb _ (by omega) (by omega) _ h.r1,hnb _ (by omega) (by omega) _ h.r2,?_⟩
 ·exact (h.fr.grown hg (fun k hk=>hO0 k (h.ck.inV k hk))).setCell (hO0 b h.ck.inB) _ _
 ·intro g hg
  rcases hg with h1 | h1
  ·exact h.new g h1
  ·exact .inr (by omega)
theorem lay_far {O:Nat -> Prop} {b:Nat} {s:Sl} {c:Ck} (w:World) (h:CkAt O b s c w) (hok:CkOk c) (d:Df) (hd:DfIn d c.values.length) (p:Int) (hin:inB maxK (rawB c.values d) = false) :
 Calls Tryz.prog 59 #[.pointer (some ⟨b,0,none⟩),dfV d,I J p] w (XPost O b s w (.error (93,p))):=by
 have hres:Tryz.f59.results = #[.cell 6 109,.cell 7 32]:=by kernel_rfl
 obtain ⟨va,cap,hvv,-⟩:=own_isI h.values
 have HLA:=LA.start h d
 generalize hO1:(fun g=>O g /\ g < w.heap.size) = O1 at HLA
 clear hO1
 have HJK:Hid (∀ W,LA w O O1 b s c d W -> W.cell? ⟨w.heap.size,0,none⟩ = some (I J d.op) /\ W.cell? ⟨w.heap.size,1,none⟩ = some (I J d.num) /\ W.cell? ⟨w.heap.size,2,none⟩ = some (I J d.a) /\ W.cell? ⟨w.heap.size,3,none⟩ = some (I J d.b) /\ W.cell? ⟨b,11,none⟩ = some (Γ va c.values.length cap)):=
  fun W hW=>⟨blk hW.box rfl,blk hW.box rfl,blk hW.box rfl,blk hW.box rfl,hvv ▸ blk hW.ck.block rfl⟩
 have HJB:Hid (∀ W W',LA w O O1 b s c d W -> Below W.heap.size W W' -> LA w O O1 b s c d W'):=fun W W' h1 h2=>h1.next h2
 have HC:Hid (∀ W,LA w O O1 b s c d W -> Calls Tryz.prog 41 #[.agg #[I J d.op,I J d.num,I J d.a,I J d.b],Γ va c.values.length cap] W (WPost (rawB c.values d) W)):=fun W hW=>by
  obtain ⟨va',cap',e,hI⟩:=own_isI hW.ck.values
  rw [hvv] at e
  cases e
  exact worth_calls d c.values va cap W hI (fun v hv=>by have:=hok.vals v hv; omega) hd
 unfold dfV
 obtain ⟨op,num,a,b'⟩:=d
 simp only at HLA HJK HC ⊢
 have HL:=hid HLA
 have HIN:=hid hin
 generalize rawB c.values ⟨op,num,a,b'⟩ = r at *
 generalize c.values.length = n at *
 clear HLA h hok hd hin hvv
 go_enter Tryz.func59,Tryz.ntmps59
 go_upto_region 1 with (fail)
 generalize (((w.alloc (Δ #[I J op,I J num,I J a,I J b'] 43)).alloc (Δ #[.bool false,Ψ ⟨#[]⟩,I J 0,I J 0] 109)).alloc (Δ #[I J 0,I J 0] 32)) = w1 at *
 have hJ0:LA w O O1 b s c ⟨op,num,a,b'⟩ w1:=HL.out
 have hJ1:LA w O O1 b s c ⟨op,num,a,b'⟩ w1.drew:=hJ0.next (Below.refl _ _).drew
 obtain ⟨x0,x1,x2,x3,x4⟩:=HJK.out _ hJ0
 have y:=HJK.out _ hJ1
 clear HL
 go_region_held3 (fun W=>LA w O O1 b s c ⟨op,num,a,b'⟩ W /\ W.cell? ⟨w.heap.size,0,none⟩ = some (I J op) /\ W.cell? ⟨w.heap.size,1,none⟩ = some (I J num) /\ W.cell? ⟨w.heap.size,2,none⟩ = some (I J a) /\ W.cell? ⟨w.heap.size,3,none⟩ = some (I J b') /\ W.cell? ⟨b,11,none⟩ = some (Γ va n cap)) (first | exact ⟨hJ1,y⟩ | exact ⟨by assumption,HJK.out _ (by assumption)⟩) (first
  | (go_at_call 41; with_reducible refine (HC.out _ (by assumption)).mono ?_; intro e W1 hp; obtain ⟨v,rfl,hv,hb⟩:=wpost_parts hp; clear hp; have HJ':=HJB.out _ _ (by assumption) hb; have hc':=HJK.out _ HJ'; clear hb))
 have HLW:=hid HJ'
 clear HJ' hc' HC HJB HJK hJ0 hJ1 x0 x1 x2 x3 x4 y
 rename_i hcx
 clear hcx
 cases hm:inB maxV r with
 | false=>
   clear hv
   have r0:=blk (i:=0) HLW.out.r1 rfl
   have r1:=blk (i:=1) HLW.out.r1 rfl
   have r2:=blk (i:=2) HLW.out.r1 rfl
   have r3:=blk (i:=3) HLW.out.r1 rfl
   have q0:=blk (i:=0) HLW.out.r2 rfl
   have q1:=blk (i:=1) HLW.out.r2 rfl
   have rf:∀ i,W1.frozen? ⟨w.heap.size + 1,i,none⟩ = false:=fun i=>blkf i HLW.out.r1
   have qf:∀ i,W1.frozen? ⟨w.heap.size + 1 + 1,i,none⟩ = false:=fun i=>blkf i HLW.out.r2
   go_wp2
   refine bodyPost_ret (v:=.tuple #[mnV mn0,flV (93,p)]) ?_ rfl ⟨by simp,rfl,?_⟩
   ·simp only [results,hres]
    go_simp
    exact ⟨rfl,rfl⟩
   ·exact fr_res HLW.out.fr _ _ _ _ _ _
 | true=>
   have hv2:=hv hm
   subst hv2
   clear hv
   have HW:Hid (∀ w,Calls Tryz.prog 80 #[I J v,I J 72057594037927936] w fun e w'=>e = Ω (.bool false) /\ w' = w):=fun w=>by
    have:=within_calls v 72057594037927936 w (by omega) (by omega)
    rw [show inB 72057594037927936 v = false from HIN.out] at this; exact this
   have r0:=blk (i:=0) HLW.out.r1 rfl
   have r1:=blk (i:=1) HLW.out.r1 rfl
   have r2:=blk (i:=2) HLW.out.r1 rfl
   have r3:=blk (i:=3) HLW.out.r1 rfl
   have q0:=blk (i:=0) HLW.out.r2 rfl
   have q1:=blk (i:=1) HLW.out.r2 rfl
   have rf:∀ i,W1.frozen? ⟨w.heap.size + 1,i,none⟩ = false:=fun i=>blkf i HLW.out.r1
   have qf:∀ i,W1.frozen? ⟨w.heap.size + 1 + 1,i,none⟩ = false:=fun i=>blkf i HLW.out.r2
   go_wp2_with (go_at_call 80; refine (HW.out _).mono ?_; rintro e w' ⟨rfl,rfl⟩)
   refine bodyPost_ret (v:=.tuple #[mnV mn0,flV (93,p)]) ?_ rfl ⟨by simp,rfl,?_⟩
   ·simp only [results,hres]
    go_simp
    exact ⟨rfl,rfl⟩
   ·exact fr_res HLW.out.fr _ _ _ _ _ _
theorem lay_full {O:Nat -> Prop} {b:Nat} {s:Sl} {c:Ck} (w:World) (h:CkAt O b s c w) (hok:CkOk c) (d:Df) (hd:DfIn d c.values.length) (p:Int) (hin:inB maxK (rawB c.values d) = true) (hn:c.values.length = 5000) :
 Calls Tryz.prog 59 #[.pointer (some ⟨b,0,none⟩),dfV d,I J p] w (XPost O b s w (.error (72,c.pl))):=by
 have hres:Tryz.f59.results = #[.cell 6 109,.cell 7 32]:=by kernel_rfl
 obtain ⟨va,cap,hvv,-⟩:=own_isI h.values
 have HLA:=LA.start h d
 generalize hO1:(fun g=>O g /\ g < w.heap.size) = O1 at HLA
 clear hO1
 have HJK:Hid (∀ W,LA w O O1 b s c d W -> W.cell? ⟨w.heap.size,0,none⟩ = some (I J d.op) /\ W.cell? ⟨w.heap.size,1,none⟩ = some (I J d.num) /\ W.cell? ⟨w.heap.size,2,none⟩ = some (I J d.a) /\ W.cell? ⟨w.heap.size,3,none⟩ = some (I J d.b) /\ W.cell? ⟨b,11,none⟩ = some (Γ va c.values.length cap)):=
  fun W hW=>⟨blk hW.box rfl,blk hW.box rfl,blk hW.box rfl,blk hW.box rfl,hvv ▸ blk hW.ck.block rfl⟩
 have HJB:Hid (∀ W W',LA w O O1 b s c d W -> Below W.heap.size W W' -> LA w O O1 b s c d W'):=fun W W' h1 h2=>h1.next h2
 have HC:Hid (∀ W,LA w O O1 b s c d W -> Calls Tryz.prog 41 #[.agg #[I J d.op,I J d.num,I J d.a,I J d.b],Γ va c.values.length cap] W (WPost (rawB c.values d) W)):=fun W hW=>by
  obtain ⟨va',cap',e,hI⟩:=own_isI hW.ck.values
  rw [hvv] at e
  cases e
  exact worth_calls d c.values va cap W hI (fun v hv=>by have:=hok.vals v hv; omega) hd
 unfold dfV
 obtain ⟨op,num,a,b'⟩:=d
 simp only at HLA HJK HC ⊢
 have HL:=hid HLA
 have HVV:=hid hvv
 have HIN:=hid hin
 generalize rawB c.values ⟨op,num,a,b'⟩ = r at *
 generalize c.values.length = n at *
 have hn1:((n:Int) == 5000) = true:=by rw [beq_iff_eq]; omega
 clear HLA h hok hd hin hvv hn
 go_enter Tryz.func59,Tryz.ntmps59
 go_upto_region 1 with (fail)
 generalize (((w.alloc (Δ #[I J op,I J num,I J a,I J b'] 43)).alloc (Δ #[.bool false,Ψ ⟨#[]⟩,I J 0,I J 0] 109)).alloc (Δ #[I J 0,I J 0] 32)) = w1 at *
 have hJ0:LA w O O1 b s c ⟨op,num,a,b'⟩ w1:=HL.out
 have hJ1:LA w O O1 b s c ⟨op,num,a,b'⟩ w1.drew:=hJ0.next (Below.refl _ _).drew
 obtain ⟨x0,x1,x2,x3,x4⟩:=HJK.out _ hJ0
 have y:=HJK.out _ hJ1
 clear HL
 go_region_held3 (fun W=>LA w O O1 b s c ⟨op,num,a,b'⟩ W /\ W.cell? ⟨w.heap.size,0,none⟩ = some (I J op) /\ W.cell? ⟨w.heap.size,1,none⟩ = some (I J num) /\ W.cell? ⟨w.heap.size,2,none⟩ = some (I J a) /\ W.cell? ⟨w.heap.size,3,none⟩ = some (I J b') /\ W.cell? ⟨b,11,none⟩ = some (Γ va n cap)) (first | exact ⟨hJ1,y⟩ | exact ⟨by assumption,HJK.out _ (by assumption)⟩) (first
  | (go_at_call 41; with_reducible refine (HC.out _ (by assumption)).mono ?_; intro e W1 hp; obtain ⟨v,rfl,hv,hb⟩:=wpost_parts hp; clear hp; have HJ':=HJB.out _ _ (by assumption) hb; have hc':=HJK.out _ HJ'; clear hb))
 have HLW:=hid HJ'
 have hm:inB maxV r = true:=inB_KV HIN.out
 have hv2:=hv hm
 clear HJ' hc' HC HJB HJK hJ0 hJ1 x0 x1 x2 x3 x4 y
 rename_i hcx
 clear hcx
 subst hv2
 clear hv
 have HW:Hid (∀ w,Calls Tryz.prog 80 #[I J v,I J 72057594037927936] w fun e w'=>e = Ω (.bool true) /\ w' = w):=fun w=>by
  have:=within_calls v 72057594037927936 w (by omega) (by omega)
  rw [show inB 72057594037927936 v = true from HIN.out] at this; exact this
 have r0:=blk (i:=0) HLW.out.r1 rfl
 have r1:=blk (i:=1) HLW.out.r1 rfl
 have r2:=blk (i:=2) HLW.out.r1 rfl
 have r3:=blk (i:=3) HLW.out.r1 rfl
 have q0:=blk (i:=0) HLW.out.r2 rfl
 have q1:=blk (i:=1) HLW.out.r2 rfl
 have rf:∀ i,W1.frozen? ⟨w.heap.size + 1,i,none⟩ = false:=fun i=>blkf i HLW.out.r1
 have qf:∀ i,W1.frozen? ⟨w.heap.size + 1 + 1,i,none⟩ = false:=fun i=>blkf i HLW.out.r2
 have r5:W1.cell? ⟨b,11,none⟩ = some (Γ va n cap):=by have:=HLW.out.ck.c11; rw [HVV.out] at this; exact this
 have r6:=HLW.out.ck.c24
 have hlt:=HLW.out.ck.lt
 have hne1:¬ b = w.heap.size + 1:=fun e=>HLW.out.off (by omega) (by omega) (e ▸ HLW.out.ck.inB)
 have hne2:¬ b = w.heap.size + 1 + 1:=fun e=>HLW.out.off (by omega) (by omega) (e ▸ HLW.out.ck.inB)
 generalize c.pl = pl at *
 go_wp2_with (go_at_call 80; refine (HW.out _).mono ?_; rintro e w' ⟨rfl,rfl⟩)
 have HS1:Hid (∀ (W:World) (i:Nat) (u:Value),W.cell? ⟨b,24,none⟩ = some (I J pl) -> (W.setCell ⟨w.heap.size + 1,i,none⟩ u).cell? ⟨b,24,none⟩ = some (I J pl)):=fun W i u hW=>by
  rw [World.cell?_of_block (w:=W) (a:=⟨b,24,none⟩) (heap_other rfl hne1)]; exact hW
 have HS2:Hid (∀ (W:World) (i:Nat) (u:Value),W.cell? ⟨b,24,none⟩ = some (I J pl) -> (W.setCell ⟨w.heap.size + 1 + 1,i,none⟩ u).cell? ⟨b,24,none⟩ = some (I J pl)):=fun W i u hW=>by
  rw [World.cell?_of_block (w:=W) (a:=⟨b,24,none⟩) (heap_other rfl hne2)]; exact hW
 have r6d:Hid (∀ W:World,W.cell? ⟨b,24,none⟩ = some (I J pl) -> W.drew.cell? ⟨b,24,none⟩ = some (I J pl)):=fun W h=>h
 go_region_held3 (fun W=>W.cell? ⟨b,24,none⟩ = some (I J pl)) (((try with_reducible refine r6d.out _ ?_); repeat (first | with_reducible exact r6 | with_reducible refine HS1.out _ _ _ ?_ | with_reducible refine HS2.out _ _ _ ?_))) (fail)
 rename_i hh
 clear hh
 go_wp2
 refine bodyPost_ret (v:=.tuple #[mnV mn0,flV (72,pl)]) ?_ rfl ⟨by simp,rfl,?_⟩
 ·simp only [results,hres]
  go_simp
  exact ⟨rfl,rfl⟩
 ·exact (fr_res HLW.out.fr _ _ _ _ _ _).drew
end Go.Proofs.YtlaodgdlkkmmeaaGreat
