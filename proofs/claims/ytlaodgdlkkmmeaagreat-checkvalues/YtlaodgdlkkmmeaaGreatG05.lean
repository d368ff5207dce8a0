/-
  What a rule of the parser leaves; sign. What stands in memory while terms and expressions are read.
-/
import Derived.Deep.RegionHeld3
import Derived.Test.YtlaodgdlkkmmeaaGreatG04
namespace Go.Proofs.YtlaodgdlkkmmeaaGreat
open Go.RowKit Go.Deep
open Go.Value renaming int->I,pointer->Φ,string->Ψ
open Go.IntKind renaming i64->J
open Go.Ending renaming returned->Ω
set_option maxRecDepth 20000
set_option maxHeartbeats 1000000
/-- What a rule of the parser leaves: what was read, or a panic behind a fault that is noted. -/
def PPost (b:Nat) (ta:Option Addr) (tn tc:Nat) (T:List Tk) (f:Int × Int) {α:Type} (x:Rs α) (V:α -> Value -> World -> Prop) (w:World) (e:Ending) (w':World):Prop:=
 Kp b w w' /\ ((∃ a v,x.val = some a /\ e = Ω v /\ V a v w' /\ PAt b ta tn tc T x.rest (flt x.many f) w') \/
  (x.val = none /\ (∃ v,e = .panicked [{ v:=.iface 32 v,recovered:=false }]) /\ PAt b ta tn tc T x.rest (70,plOf x.rest) w'))
section
variable {b:Nat} {ta:Option Addr} {tn tc:Nat} {T:List Tk} {f:Int × Int} {α:Type} {x:Rs α} {V:α -> Value -> World -> Prop} {w:World} {N:Nat} {args:Array Value}
theorem calls_ok (h:Calls Tryz.prog N args w (PPost b ta tn tc T f x V w)) {a:α} (hx:x.val = some a) :
 Calls Tryz.prog N args w fun e w'=>∃ v,e = Ω v /\ V a v w' /\ Kp b w w' /\ PAt b ta tn tc T x.rest (flt x.many f) w':=by
 refine h.mono ?_
 rintro e w' ⟨hk,⟨a',v,hv,he,hV,hP⟩ | ⟨hn,_⟩⟩
 ·rw [hx] at hv; cases hv
  exact ⟨v,he,hV,hk,hP⟩
 ·rw [hx] at hn; cases hn
theorem calls_no (h:Calls Tryz.prog N args w (PPost b ta tn tc T f x V w)) (hx:x.val = none) :
 Calls Tryz.prog N args w fun e w'=>∃ v,e = .panicked [{ v:=.iface 32 v,recovered:=false }] /\ Kp b w w' /\ PAt b ta tn tc T x.rest (70,plOf x.rest) w':=by
 refine h.mono ?_
 rintro e w' ⟨hk,⟨a',v,hv,_⟩ | ⟨_,⟨v,he⟩,hP⟩⟩
 ·rw [hx] at hv; cases hv
 ·exact ⟨v,he,hk,hP⟩
end
def VU (_:Unit) (v:Value) (_:World):Prop:=v = .tuple #[]
def VS (s:List UInt8) (v:Value) (_:World):Prop:=v = Ψ (bs s)
def VEx (B:Nat) (a:Ex) (v:Value) (w:World):Prop:=∃ ka kn kc,v = exV a.1 ka kn kc /\ ExAt true (fun g=>B <= g) w a ka kn
def VFo (B:Nat) (F:Fo) (v:Value) (w:World):Prop:=∃ ao n c,v = .slice ao n c /\ n <= maxLen /\ FoAt true (fun g=>B <= g) w F ao n
theorem signP_calls {b:Nat} {ta:Option Addr} {tn tc:Nat} {T l:List Tk} {f:Int × Int} (w:World) (s:ByteArray) (h:PAt b ta tn tc T l f w) :
 Calls Tryz.prog 111 #[Φ (some ⟨b,0,none⟩),Ψ s] w (PPost b ta tn tc T f (signG s.data.toList l) VU w):=by
 obtain ⟨t,r,rfl⟩:=h.here1
 have HP:Hid (PAt b ta tn tc T (t :: r) f w):=h
 cases hx:isT 6 s.data.toList t with
 | true=>
   have HS:Hid (∀ w,PAt b ta tn tc T (t :: r) f w -> Calls Tryz.prog 138 #[Φ (some ⟨b,0,none⟩),I J 6,Ψ s] w fun e w'=>e = Ω (.bool true) /\ Below w.heap.size w w'):=fun w h=>by
    have:=sees_calls w h 6 s
    rw [hx] at this; exact this
   have hk:t.kind ≠ 1:=by
    intro e; unfold isT at hx; rw [e] at hx; simp at hx
   have HN:Hid (∀ w,PAt b ta tn tc T (t :: r) f w -> Calls Tryz.prog 137 #[Φ (some ⟨b,0,none⟩)] w fun e w'=>e = Ω (.agg #[I J t.kind,I J t.num,Ψ (bs t.text),I J (t.pl:Int)]) /\ Kp b w w' /\ PAt b ta tn tc T r f w'):=fun w h=>nextP_calls w h hk
   have HE:Hid (signG s.data.toList (t :: r) = pure' () r):=by show (if isT 6 s.data.toList t = true then pure' () r else wrong' (t :: r)) = _; rw [if_pos hx]
   clear hx hk h
   go_enter Tryz.func111,Tryz.ntmps111
   go_wp2_with fail
   refine (HS.out _ HP.out).mono ?_
   rintro e w1 ⟨rfl,hb1⟩
   have HB:Hid (Below w.heap.size w w1 /\ PAt b ta tn tc T (t :: r) f w1):=⟨hb1,HP.out.below hb1⟩
   clear hb1 HS
   go_wp2_with fail
   refine (HN.out _ HB.out.2).mono ?_
   rintro e w2 ⟨rfl,hk2,hp2⟩
   have HR:Hid (Kp b w w2 /\ PAt b ta tn tc T r f w2):=⟨(Kp.of_below HB.out.1).trans hk2,hp2⟩
   clear hk2 hp2 HB HN HP
   go_wp2
   go_end0
   rw [HE.out]
   exact ⟨HR.out.1,.inl ⟨(),_,rfl,rfl,rfl,by show PAt b ta tn tc T r (flt [] f) w2; rw [flt_nil]; exact HR.out.2⟩⟩
 | false=>
   have HS:Hid (∀ w,PAt b ta tn tc T (t :: r) f w -> Calls Tryz.prog 138 #[Φ (some ⟨b,0,none⟩),I J 6,Ψ s] w fun e w'=>e = Ω (.bool false) /\ Below w.heap.size w w'):=fun w h=>by
    have:=sees_calls w h 6 s
    rw [hx] at this; exact this
   have HN:Hid (∀ w,PAt b ta tn tc T (t :: r) f w -> Calls Tryz.prog 136 #[Φ (some ⟨b,0,none⟩)] w fun e w'=>e = Ω (.agg #[I J 70,I J (t.pl:Int)]) /\ Kp b w w' /\ PAt b ta tn tc T (t :: r) (70,t.pl) w'):=fun w h=>wrong_calls w h
   have HE:Hid (signG s.data.toList (t :: r) = wrong' (t :: r)):=by show (if isT 6 s.data.toList t = true then pure' () r else wrong' (t :: r)) = _; rw [if_neg (by rw [hx]; decide)]
   clear hx h
   go_enter Tryz.func111,Tryz.ntmps111
   go_wp2_with fail
   refine (HS.out _ HP.out).mono ?_
   rintro e w1 ⟨rfl,hb1⟩
   have HB:Hid (Below w.heap.size w w1 /\ PAt b ta tn tc T (t :: r) f w1):=⟨hb1,HP.out.below hb1⟩
   clear hb1 HS
   go_wp2_with fail
   refine (HN.out _ HB.out.2).mono ?_
   rintro e w2 ⟨rfl,hk2,hp2⟩
   have HR:Hid (Kp b w w2 /\ PAt b ta tn tc T (t :: r) (70,t.pl) w2):=⟨(Kp.of_below HB.out.1).trans hk2,hp2⟩
   clear hk2 hp2 HB HN HP
   go_wp2
   refine ⟨rfl,?_⟩
   rw [HE.out]
   exact ⟨HR.out.1,.inr ⟨rfl,⟨_,rfl⟩,HR.out.2⟩⟩
open Go.Value renaming int->I,string->Ψ,slice->Γ
open Go.Obj renaming cells->Δ
def exArr (h:Hd) (ka:Option Addr) (kn kc:Nat):Array Value:=#[I J h.kind,I J h.num,Ψ (bs h.text),Γ ka kn kc,I J h.pl]
def zero5:Array Value:=#[I J 0,I J 0,Ψ ⟨#[]⟩,Γ none 0 0,I J 0]
/-- The expression so far, in its variable; the result's variable; the parser. -/
structure TL (b:Nat) (ta:Option Addr) (tn tc:Nat) (T:List Tk) (w:World) (g2 g3:Nat) (l:List Tk) (f:Int × Int) (e:Ex) (ka:Option Addr) (kn kc:Nat) (W:World):Prop where
 p:PAt b ta tn tc T l f W
 kp:Kp b w W
 n2:w.heap.size <= g2
 n3:w.heap.size <= g3
 ne:g2 ≠ g3
 nb:b < w.heap.size
 res:W.heap[g2]? = some (Δ zero5 102 (0,0))
 val:W.heap[g3]? = some (Δ (exArr e.1 ka kn kc) 102 (0,0))
 ex:ExAt true (fun g=>w.heap.size <= g /\ g ≠ g2 /\ g ≠ g3) W e ka kn
section
variable {b:Nat} {ta:Option Addr} {tn tc:Nat} {T:List Tk} {w:World} {g2 g3:Nat} {l:List Tk} {f:Int × Int} {e:Ex} {ka:Option Addr} {kn kc:Nat} {W W':World}
theorem TL.go (h:TL b ta tn tc T w g2 g3 l f e ka kn kc W) (hk:Kp b W W') {l':List Tk} {f':Int × Int} (hp:PAt b ta tn tc T l' f' W'):TL b ta tn tc T w g2 g3 l' f' e ka kn kc W':=
 ⟨hp,h.kp.trans hk,h.n2,h.n3,h.ne,h.nb,by rw [hk.block g2 (lt_block h.res) (by have:=h.n2; have:=h.nb; omega)]; exact h.res,by rw [hk.block g3 (lt_block h.val) (by have:=h.n3; have:=h.nb; omega)]; exact h.val,h.ex.kp hk (fun hb=>by have:=hb.1; have:=h.nb; omega)⟩
theorem TL.next (h:TL b ta tn tc T w g2 g3 l f e ka kn kc W) (hk:Below W.heap.size W W'):TL b ta tn tc T w g2 g3 l f e ka kn kc W':=h.go (Kp.of_below hk) (h.p.below hk)
theorem TL.cells (h:TL b ta tn tc T w g2 g3 l f e ka kn kc W):W.cell? ⟨g3,0,none⟩ = some (I J e.1.kind) /\ W.cell? ⟨g3,1,none⟩ = some (I J e.1.num) /\ W.cell? ⟨g3,2,none⟩ = some (Ψ (bs e.1.text)) /\ W.cell? ⟨g3,3,none⟩ = some (Γ ka kn kc) /\ W.cell? ⟨g3,4,none⟩ = some (I J e.1.pl):=
 ⟨blk h.val rfl,blk h.val rfl,blk h.val rfl,blk h.val rfl,blk h.val rfl⟩
theorem small_ok {k:Int} {t:Tk} (hk:0 <= k /\ k <= 100) (ht:t.pl <= 4000):HdOk (hdB k t):=by
 refine ⟨?_,?_,?_,?_⟩
 ·show InR k; unfold InR; omega
 ·show InR 0; unfold InR; omega
 ·show ([]:List UInt8).length <= maxLen; simp
 ·show InR (t.pl:Int); unfold InR; omega
theorem row2 (h1 h2:Hd) (k1:Option Addr) (n1 c1:Nat) (k2:Option Addr) (n2 c2:Nat) (a1 a2:Fo) (i:Nat) (u:Value) (hi:(xRow [((h1,a1),k1,n1,c1),((h2,a2),k2,n2,c2)])[i]? = some u) :
 (#[I J h1.kind,I J h1.num,Ψ (bs h1.text),Γ k1 n1 c1,I J h1.pl,I J h2.kind,I J h2.num,Ψ (bs h2.text),Γ k2 n2 c2,I J h2.pl]:Array Value)[0 + i]? = some u:=by
 rw [Nat.zero_add]
 simpa [xRow,xsCells,exCells] using hi
theorem row1 (h1:Hd) (k1:Option Addr) (n1 c1:Nat) (a1:Fo) (i:Nat) (u:Value) (hi:(xRow [((h1,a1),k1,n1,c1)])[i]? = some u) :
 (#[I J h1.kind,I J h1.num,Ψ (bs h1.text),Γ k1 n1 c1,I J h1.pl]:Array Value)[0 + i]? = some u:=by
 rw [Nat.zero_add]
 simpa [xRow,xsCells,exCells] using hi
/-- A new block with two expressions is their list. -/
theorem two_new {o:Bool} {S:Nat -> Prop} {W:World} (hB:S W.heap.size) {e e2:Ex} {ka k2:Option Addr} {kn kc n2 c2:Nat} (h1:ExAt o S W e ka kn) (h2:ExAt o S W e2 k2 n2) :
 FoAt o S (W.alloc (Δ #[I J e.1.kind,I J e.1.num,Ψ (bs e.1.text),Γ ka kn kc,I J e.1.pl,I J e2.1.kind,I J e2.1.num,Ψ (bs e2.1.text),Γ k2 n2 c2,I J e2.1.pl] 102 (0,0))) (ofL [e,e2]) (some ⟨W.heap.size,0,none⟩) 2:=by
 have hb:Below W.heap.size W (W.alloc (Δ #[I J e.1.kind,I J e.1.num,Ψ (bs e.1.text),Γ ka kn kc,I J e.1.pl,I J e2.1.kind,I J e2.1.num,Ψ (bs e2.1.text),Γ k2 n2 c2,I J e2.1.pl] 102 (0,0))):=(Below.refl _ _).alloc (Nat.le_refl _) _
 refine foAt_row hB (heap_alloc_new W _) [(e,ka,kn,kc),(e2,k2,n2,c2)] 0 (fun _=>rfl) (fun i u hi=>row2 _ _ _ _ _ _ _ _ _ _ i u hi) fun x hx=>?_
 simp at hx
 rcases hx with rfl | rfl
 ·exact h1.below hb
 ·exact h2.below hb
theorem one_new {o:Bool} {S:Nat -> Prop} {W:World} (hB:S W.heap.size) {e:Ex} {ka:Option Addr} {kn kc:Nat} (h1:ExAt o S W e ka kn) :
 FoAt o S (W.alloc (Δ #[I J e.1.kind,I J e.1.num,Ψ (bs e.1.text),Γ ka kn kc,I J e.1.pl] 102 (0,0))) (ofL [e]) (some ⟨W.heap.size,0,none⟩) 1:=by
 have hb:Below W.heap.size W (W.alloc (Δ #[I J e.1.kind,I J e.1.num,Ψ (bs e.1.text),Γ ka kn kc,I J e.1.pl] 102 (0,0))):=(Below.refl _ _).alloc (Nat.le_refl _) _
 refine foAt_row hB (heap_alloc_new W _) [(e,ka,kn,kc)] 0 (fun _=>rfl) (fun i u hi=>row1 _ _ _ _ _ i u hi) fun x hx=>?_
 simp at hx
 rcases hx with rfl
 exact h1.below hb
/-- The variable takes an expression with two Kids. -/
theorem TL.put (h:TL b ta tn tc T w g2 g3 l f e ka kn kc W) {e2:Ex} {k2:Option Addr} {n2 c2:Nat} (h2:ExAt true (fun g=>w.heap.size <= g /\ g ≠ g2 /\ g ≠ g3) W e2 k2 n2) {k:Int} {t:Tk} (hk:0 <= k /\ k <= 100) (ht:t.pl <= 4000) :
 TL b ta tn tc T w g2 g3 l f (hdB k t,ofL [e,e2]) (some ⟨W.heap.size,0,none⟩) 2 2 ((((((W.alloc (Δ #[I J e.1.kind,I J e.1.num,Ψ (bs e.1.text),Γ ka kn kc,I J e.1.pl,I J e2.1.kind,I J e2.1.num,Ψ (bs e2.1.text),Γ k2 n2 c2,I J e2.1.pl] 102 (0,0))).setCell ⟨g3,0,none⟩ (I J k)).setCell ⟨g3,1,none⟩ (I J 0)).setCell ⟨g3,2,none⟩ (Ψ ⟨#[]⟩)).setCell ⟨g3,3,none⟩ (Γ (some ⟨W.heap.size,0,none⟩) 2 2)).setCell ⟨g3,4,none⟩ (I J (t.pl:Int))):=by
 have hz:=lt_block h.val
 have hb1:=h.p.lt
 have hA:=(Kp.refl b W).alloc (Δ #[I J e.1.kind,I J e.1.num,Ψ (bs e.1.text),Γ ka kn kc,I J e.1.pl,I J e2.1.kind,I J e2.1.num,Ψ (bs e2.1.text),Γ k2 n2 c2,I J e2.1.pl] 102 (0,0))
 have hz2:=lt_block h.res
 have hsz:=h.kp.size
 have hN:=two_new (o:=true) (S:=fun g=>w.heap.size <= g /\ g ≠ g2 /\ g ≠ g3) (kc:=kc) (c2:=c2) (by show w.heap.size <= W.heap.size /\ W.heap.size ≠ g2 /\ W.heap.size ≠ g3; omega) h.ex h2
 generalize hWA:W.alloc (Δ #[I J e.1.kind,I J e.1.num,Ψ (bs e.1.text),Γ ka kn kc,I J e.1.pl,I J e2.1.kind,I J e2.1.num,Ψ (bs e2.1.text),Γ k2 n2 c2,I J e2.1.pl] 102 (0,0)) = WA at *
 have hT:TL b ta tn tc T w g2 g3 l f e ka kn kc WA:=h.next (by rw [<- hWA]; exact (Below.refl _ _).alloc (Nat.le_refl _) _)
 have hn3:=h.n3
 have hnb:=h.nb
 have hne:b ≠ g3:=by omega
 have hoth:∀ g,g ≠ g3 -> ((((((WA).setCell ⟨g3,0,none⟩ (I J k)).setCell ⟨g3,1,none⟩ (I J 0)).setCell ⟨g3,2,none⟩ (Ψ ⟨#[]⟩)).setCell ⟨g3,3,none⟩ (Γ (some ⟨W.heap.size,0,none⟩) 2 2)).setCell ⟨g3,4,none⟩ (I J (t.pl:Int))).heap[g]? = WA.heap[g]?:=fun g hg=>
  heap_other (heap_other (heap_other (heap_other (heap_other rfl hg) hg) hg) hg) hg
 have hkp:=((((hT.kp.setNew hn3 0 (I J k)).setNew hn3 1 (I J 0)).setNew hn3 2 (Ψ ⟨#[]⟩)).setNew hn3 3 (Γ (some ⟨W.heap.size,0,none⟩) 2 2)).setNew hn3 4 (I J (t.pl:Int))
 obtain ⟨kk,q1,q2,q3⟩:=hT.p.block
 refine ⟨⟨⟨kk,q1,q2,by rw [hoth b hne]; exact q3⟩,?_,hT.p.low,hT.p.last,hT.p.few⟩,hkp,h.n2,h.n3,h.ne,h.nb,by rw [hoth g2 h.ne]; exact hT.res,?_,small_ok hk ht,by decide,foAt_keep (fun g _ hg=>hoth g hg.2.2) hN⟩
 ·refine hT.p.toks.keep fun x hx=>hoth x.block ?_
  have:=hT.p.low x hx
  omega
 ·exact heap_put (heap_put (heap_put (heap_put (heap_put hT.val rfl) rfl) rfl) rfl) rfl
theorem TL.zeros (h:TL b ta tn tc T w g2 g3 l f e ka kn kc W):W.cell? ⟨g2,0,none⟩ = some (I J 0) /\ W.cell? ⟨g2,1,none⟩ = some (I J 0) /\ W.cell? ⟨g2,2,none⟩ = some (Ψ ⟨#[]⟩) /\ W.cell? ⟨g2,3,none⟩ = some (Γ none 0 0) /\ W.cell? ⟨g2,4,none⟩ = some (I J 0) /\ ∀ i,W.frozen? ⟨g2,i,none⟩ = false:=
 ⟨blk h.res rfl,blk h.res rfl,blk h.res rfl,blk h.res rfl,blk h.res rfl,fun i=>blkf i h.res⟩
/-- The result's variable takes what was read. -/
theorem TL.done (h:TL b ta tn tc T w g2 g3 l f e ka kn kc W) (u0 u1 u2 u3 u4:Value) {W':World} (hW:W' = ((((W.setCell ⟨g2,0,none⟩ u0).setCell ⟨g2,1,none⟩ u1).setCell ⟨g2,2,none⟩ u2).setCell ⟨g2,3,none⟩ u3).setCell ⟨g2,4,none⟩ u4) :
 Kp b w W' /\ PAt b ta tn tc T l f W' /\ ExAt true (fun g=>w.heap.size <= g) W' e ka kn:=by
 have hn2:=h.n2
 have hnb:=h.nb
 have hoth:∀ g,g ≠ g2 -> W'.heap[g]? = W.heap[g]?:=fun g hg=>by
  rw [hW]; exact heap_other (heap_other (heap_other (heap_other (heap_other rfl hg) hg) hg) hg) hg
 have hkp:=((((h.kp.setNew hn2 0 u0).setNew hn2 1 u1).setNew hn2 2 u2).setNew hn2 3 u3).setNew hn2 4 u4
 rw [<- hW] at hkp
 obtain ⟨kk,q1,q2,q3⟩:=h.p.block
 refine ⟨hkp,⟨⟨kk,q1,q2,by rw [hoth b (by omega)]; exact q3⟩,?_,h.p.low,h.p.last,h.p.few⟩,?_⟩
 ·refine h.p.toks.keep fun x hx=>hoth x.block ?_
  have:=h.p.low x hx
  omega
 ·refine ExAt.base (h.ex.keep fun g _ hg=>hoth g hg.2.1) fun g _ hg=>hg.1
/-- The five cells of an expression's variable. -/
def SC (g:Nat) (h:Hd) (ka:Option Addr) (kn kc:Nat) (W:World):Prop:=W.cell? ⟨g,0,none⟩ = some (I J h.kind) /\ W.cell? ⟨g,1,none⟩ = some (I J h.num) /\ W.cell? ⟨g,2,none⟩ = some (Ψ (bs h.text)) /\ W.cell? ⟨g,3,none⟩ = some (Γ ka kn kc) /\ W.cell? ⟨g,4,none⟩ = some (I J h.pl)
theorem TL.sc (h:TL b ta tn tc T w g2 g3 l f e ka kn kc W):SC g3 e.1 ka kn kc W:=h.cells
theorem TL.frz (h:TL b ta tn tc T w g2 g3 l f e ka kn kc W) (i:Nat):W.frozen? ⟨g3,i,none⟩ = false:=blkf i h.val
end
end Go.Proofs.YtlaodgdlkkmmeaaGreat
