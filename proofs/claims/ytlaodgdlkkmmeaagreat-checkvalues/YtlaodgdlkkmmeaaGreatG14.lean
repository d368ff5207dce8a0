/-
  The word that an item begins with; two expressions with a sign between. What stands in memory while an item is read. Items.
-/
import Derived.Test.YtlaodgdlkkmmeaaGreatG13
namespace Go.Proofs.YtlaodgdlkkmmeaaGreat
open Go.RowKit Go.Deep
open Go.Value renaming int->I,pointer->Φ,string->Ψ,slice->Γ
open Go.IntKind renaming i64->J
open Go.Obj renaming cells->Δ
open Go.Ending renaming returned->Ω
set_option maxRecDepth 20000
set_option maxHeartbeats 2000000
theorem bind_assoc {α β γ:Type} (x:Rs α) (F:α -> List Tk -> Rs β) (G:β -> List Tk -> Rs γ):(x.bind F).bind G = x.bind fun a l=>(F a l).bind G:=by
 cases hx:x.val with
 | none=>rw [bind_none _ hx,bind_none _ hx]; rfl
 | some a=>rw [bind_pre _ hx,bind_pre _ hx,pre_bind]
theorem close_bind {α β:Type} (s:List UInt8) (x:Rs α) (F:α -> List Tk -> Rs β):closeG s (x.bind F) = x.bind fun a l=>closeG s (F a l):=bind_assoc x F _
theorem close_pure {α:Type} (s:List UInt8) (a:α) (l:List Tk):closeG s (pure' a l) = (signG s l).bind fun _ l2=>pure' a l2:=rfl
theorem one_bind {β:Type} (ex:List Tk -> Rs Ex) (l:List Tk) (G:Fo -> List Tk -> Rs β):(oneG ex l).bind G = (ex l).bind fun a l1=>G (ofL [a]) l1:=bind_assoc _ _ _
def zeroI:Array Value:=#[I J 0,Ψ ⟨#[]⟩,Γ none 0 0,I J 0]
def itArr (k:Int) (s:List UInt8) (ao:Option Addr) (n c:Nat) (p:Int):Array Value:=#[I J k,Ψ (bs s),Γ ao n c,I J p]
/-- The parser, and a result's variable of any type. -/
structure DL (b:Nat) (ta:Option Addr) (tn tc:Nat) (T:List Tk) (w:World) (ty:TypeId) (z:Array Value) (l:List Tk) (f:Int × Int) (W:World):Prop where
 p:PAt b ta tn tc T l f W
 kp:Kp b w W
 nb:b < w.heap.size
 res:W.heap[w.heap.size]? = some (Δ z ty (0,0))
section
variable {b:Nat} {ta:Option Addr} {tn tc:Nat} {T:List Tk} {w:World} {ty:TypeId} {z:Array Value} {l:List Tk} {f:Int × Int} {W W':World}
theorem DL.start (h:PAt b ta tn tc T l f w):DL b ta tn tc T w ty z l f (w.alloc (Δ z ty)):=
 ⟨h.below ((Below.refl _ _).alloc (Nat.le_refl _) _),(Kp.refl b w).alloc _,h.lt,heap_alloc_new w _⟩
theorem DL.go (h:DL b ta tn tc T w ty z l f W) (hk:Kp b W W') {l':List Tk} {f':Int × Int} (hp:PAt b ta tn tc T l' f' W'):DL b ta tn tc T w ty z l' f' W':=
 ⟨hp,h.kp.trans hk,h.nb,by rw [hk.block _ (lt_block h.res) (by have:=h.nb; omega)]; exact h.res⟩
theorem DL.next (h:DL b ta tn tc T w ty z l f W) (hk:Below W.heap.size W W'):DL b ta tn tc T w ty z l f W':=h.go (Kp.of_below hk) (h.p.below hk)
theorem DL.size (h:DL b ta tn tc T w ty z l f W):w.heap.size < W.heap.size:=lt_block h.res
theorem DL.zeros (h:DL b ta tn tc T w 67 zeroI l f W):W.cell? ⟨w.heap.size,0,none⟩ = some (I J 0) /\ W.cell? ⟨w.heap.size,1,none⟩ = some (Ψ ⟨#[]⟩) /\ W.cell? ⟨w.heap.size,2,none⟩ = some (Γ none 0 0) /\ W.cell? ⟨w.heap.size,3,none⟩ = some (I J 0) /\ ∀ i,W.frozen? ⟨w.heap.size,i,none⟩ = false:=
 ⟨blk h.res rfl,blk h.res rfl,blk h.res rfl,blk h.res rfl,fun i=>blkf i h.res⟩
/-- The result's variable takes an item. -/
theorem DL.done (h:DL b ta tn tc T w 67 zeroI l f W) (u0 u1 u2 u3:Value) {W':World} (hW:W' = (((W.setCell ⟨w.heap.size,0,none⟩ u0).setCell ⟨w.heap.size,1,none⟩ u1).setCell ⟨w.heap.size,2,none⟩ u2).setCell ⟨w.heap.size,3,none⟩ u3) :
 Kp b w W' /\ PAt b ta tn tc T l f W' /\ ∀ g,g ≠ w.heap.size -> W'.heap[g]? = W.heap[g]?:=by
 have hnb:=h.nb
 have hn2:w.heap.size <= w.heap.size:=Nat.le_refl _
 have hoth:∀ g,g ≠ w.heap.size -> W'.heap[g]? = W.heap[g]?:=fun g hg=>by
  rw [hW]; exact heap_other (heap_other (heap_other (heap_other rfl hg) hg) hg) hg
 have hkp:=(((h.kp.setNew hn2 0 u0).setNew hn2 1 u1).setNew hn2 2 u2).setNew hn2 3 u3
 rw [<- hW] at hkp
 obtain ⟨kk,q1,q2,q3⟩:=h.p.block
 refine ⟨hkp,⟨⟨kk,q1,q2,by rw [hoth b (by omega)]; exact q3⟩,?_,h.p.low,h.p.last,h.p.few⟩,hoth⟩
 refine h.p.toks.keep fun x hx=>hoth x.block ?_
 have:=h.p.low x hx
 omega
end
theorem kind_calls (t:Tk) (w:World):Calls Tryz.prog 135 #[Ψ (bs t.text)] w fun e w'=>e = Ω (I J (itemKindB t.text)) /\ w' = w:=by
 have:=itemKind_calls (bs t.text) w
 rw [bs_list] at this; exact this
theorem begin_ok {b:Nat} {ta:Option Addr} {tn tc:Nat} {T:List Tk} {f:Int × Int} (w:World) {t:Tk} {r:List Tk} (h:PAt b ta tn tc T (t :: r) f w) (hk:t.kind = 4) (hi:itemKindB t.text ≠ 0) :
 Calls Tryz.prog 109 #[Φ (some ⟨b,0,none⟩)] w fun e w'=>e = Ω (.agg #[I J (itemKindB t.text),Ψ ⟨#[]⟩,Γ none 0 0,I J (t.pl:Int)]) /\ Kp b w w' /\ PAt b ta tn tc T r f w':=by
 have hres:Tryz.f109.results = #[.cell 2 67]:=by kernel_rfl
 have HC0:Hid (DL b ta tn tc T w 67 zeroI (t :: r) f (w.alloc (Δ zeroI 67))):=DL.start h
 have HH:Hid (∀ w,PAt b ta tn tc T (t :: r) f w -> Calls Tryz.prog 74 #[Φ (some ⟨b,0,none⟩)] w fun e w'=>e = Ω (.agg #[I J t.kind,I J t.num,Ψ (bs t.text),I J (t.pl:Int)]) /\ Below w.heap.size w w'):=fun w h=>here_calls w h
 have HN:Hid (∀ w,PAt b ta tn tc T (t :: r) f w -> Calls Tryz.prog 137 #[Φ (some ⟨b,0,none⟩)] w fun e w'=>e = Ω (.agg #[I J t.kind,I J t.num,Ψ (bs t.text),I J (t.pl:Int)]) /\ Kp b w w' /\ PAt b ta tn tc T r f w'):=fun w h=>nextP_calls w h (by rw [hk]; decide)
 have HI:Hid (∀ w,Calls Tryz.prog 135 #[Ψ (bs t.text)] w fun e w'=>e = Ω (I J (itemKindB t.text)) /\ w' = w):=kind_calls t
 have q:(t.kind != 4) = false:=by rw [hk]; rfl
 have q2:(itemKindB t.text == 0) = false:=by rw [beq_eq_false_iff_ne]; exact hi
 clear hk hi h
 generalize itemKindB t.text = kd at *
 go_enter Tryz.func109,Tryz.ntmps109
 go_wp2_with fail
 refine (HH.out _ HC0.out.p).mono ?_
 rintro e w1 ⟨rfl,hb1⟩
 have H1:Hid (∀ o,DL b ta tn tc T w 67 zeroI (t :: r) f (w1.alloc o)):=fun o=>(HC0.out.next hb1).next ((Below.refl _ _).alloc (Nat.le_refl _) o)
 have hz1:w.heap.size < w1.heap.size:=(HC0.out.next hb1).size
 clear hb1 HC0
 go_wp2_with (go_at_call 135; refine (HI.out _).mono ?_; rintro e w2 ⟨rfl,rfl⟩)
 refine (HN.out _ (H1.out _).p).mono ?_
 rintro e w2 ⟨rfl,hk2,hp2⟩
 have H2:Hid (DL b ta tn tc T w 67 zeroI r f w2):=(H1.out _).go hk2 hp2
 have hnb:=(H1.out (.stringIter ⟨#[]⟩ 0)).nb
 have hg:w2.heap[w1.heap.size]? = some (Δ #[I J t.kind,I J t.num,Ψ (bs t.text),I J (t.pl:Int)] 124 (0,0)):=by
  rw [hk2.block w1.heap.size (by simp) (by omega)]; exact heap_alloc_new w1 _
 have g3:=blk (i:=3) hg rfl
 obtain ⟨z0,z1,z2,z3,zf⟩:=H2.out.zeros
 have HD:Hid _:=H2.out.done (I J kd) (Ψ ⟨#[]⟩) (Γ none 0 0) (I J (t.pl:Int)) rfl
 clear hk2 hp2 H1 HN HH HI hg H2
 go_wp2
 refine bodyPost_ret (v:=.agg #[I J kd,Ψ ⟨#[]⟩,Γ none 0 0,I J (t.pl:Int)]) ?_ rfl ⟨rfl,?_⟩
 ·simp only [results,hres]
  go_simp
 ·exact ⟨HD.out.1,HD.out.2.1⟩
theorem begin_no {b:Nat} {ta:Option Addr} {tn tc:Nat} {T:List Tk} {f:Int × Int} (w:World) {t:Tk} {r:List Tk} (h:PAt b ta tn tc T (t :: r) f w) (hc:¬ (t.kind = 4 /\ itemKindB t.text ≠ 0)) :
 Calls Tryz.prog 109 #[Φ (some ⟨b,0,none⟩)] w fun e w'=>∃ v,e = .panicked [{ v:=.iface 32 v,recovered:=false }] /\ Kp b w w' /\ PAt b ta tn tc T (t :: r) (70,t.pl) w':=by
 have HC0:Hid (DL b ta tn tc T w 67 zeroI (t :: r) f (w.alloc (Δ zeroI 67))):=DL.start h
 have HH:Hid (∀ w,PAt b ta tn tc T (t :: r) f w -> Calls Tryz.prog 74 #[Φ (some ⟨b,0,none⟩)] w fun e w'=>e = Ω (.agg #[I J t.kind,I J t.num,Ψ (bs t.text),I J (t.pl:Int)]) /\ Below w.heap.size w w'):=fun w h=>here_calls w h
 have HW:Hid (∀ w,PAt b ta tn tc T (t :: r) f w -> Calls Tryz.prog 136 #[Φ (some ⟨b,0,none⟩)] w fun e w'=>e = Ω (.agg #[I J 70,I J (t.pl:Int)]) /\ Kp b w w' /\ PAt b ta tn tc T (t :: r) (70,t.pl) w'):=fun w h=>wrong_calls w h
 have HI:Hid (∀ w,Calls Tryz.prog 135 #[Ψ (bs t.text)] w fun e w'=>e = Ω (I J (itemKindB t.text)) /\ w' = w):=kind_calls t
 have q:(t.kind != 4) = true \/ ((t.kind != 4) = false /\ (itemKindB t.text == 0) = true):=by
  by_cases hk:t.kind = 4
  ·right
   refine ⟨by rw [hk]; rfl,?_⟩
   rw [beq_iff_eq]
   rcases Classical.em (itemKindB t.text = 0) with h0 | h0
   ·exact h0
   ·exact absurd ⟨hk,h0⟩ hc
  ·left; simpa using hk
 clear hc h
 generalize itemKindB t.text = kd at *
 rcases q with q | ⟨q,q2⟩
 all_goals
  go_enter Tryz.func109,Tryz.ntmps109
  go_wp2_with fail
  refine (HH.out _ HC0.out.p).mono ?_
  rintro e w1 ⟨rfl,hb1⟩
  have H1:Hid (∀ o,DL b ta tn tc T w 67 zeroI (t :: r) f (w1.alloc o)):=fun o=>(HC0.out.next hb1).next ((Below.refl _ _).alloc (Nat.le_refl _) o)
  clear hb1 HC0
  go_wp2_with (go_at_call 135; refine (HI.out _).mono ?_; rintro e w2 ⟨rfl,rfl⟩)
  refine (HW.out _ (H1.out _).p).mono ?_
  rintro e w2 ⟨rfl,hk2,hp2⟩
  have H2:Hid (Kp b w w2 /\ PAt b ta tn tc T (t :: r) (70,t.pl) w2):=⟨(H1.out _).kp.trans hk2,hp2⟩
  clear hk2 hp2 H1 HW HH HI
  go_wp2
  exact ⟨rfl,_,rfl,H2.out.1,H2.out.2⟩
theorem both_calls {b:Nat} {ta:Option Addr} {tn tc:Nat} {T:List Tk} (n:Nat) (ex:List Tk -> Rs Ex) (hsuf:∀ l,(ex l).rest <:+ l)
 (HX:∀ l f w,PAt b ta tn tc T l f w -> l.length <= n -> Calls Tryz.prog 112 #[Φ (some ⟨b,0,none⟩)] w (PPost b ta tn tc T f (ex l) (VEx w.heap.size) w)) (s:ByteArray) (l:List Tk) (f:Int × Int) (w:World) (h:PAt b ta tn tc T l f w) (hl:l.length <= n) :
 Calls Tryz.prog 114 #[Φ (some ⟨b,0,none⟩),Ψ s] w (PPost b ta tn tc T f (bothG ex s.data.toList l) (VFo w.heap.size) w):=by
 have HP:Hid (PAt b ta tn tc T l f w):=h
 have HQ:Hid (Eqv (bothG ex s.data.toList l) ((ex l).bind fun a l1=>(signG s.data.toList l1).bind fun _ l2=>(ex l2).bind fun b l3=>pure' (ofL [a,b]) l3) f f):=eqv_refl _ _
 generalize bothG ex s.data.toList l = X at *
 have HZ:Hid (∀ v w' l',X.val = none /\ X.rest = l' -> Kp b w w' -> PAt b ta tn tc T l' (70,plOf l') w' -> PPost b ta tn tc T f X (VFo w.heap.size) w (.panicked [{ v:=.iface 32 v,recovered:=false }]) w'):=fun v w' l' h1 h3 h4=>⟨h3,.inr ⟨h1.1,⟨v,rfl⟩,by rw [h1.2]; exact h4⟩⟩
 have hnb:=h.lt
 cases hx:(ex l).val with
 | none=>
   have HN:Hid (Calls Tryz.prog 112 #[Φ (some ⟨b,0,none⟩)] w fun e w'=>∃ v,e = .panicked [{ v:=.iface 32 v,recovered:=false }] /\ Kp b w w' /\ PAt b ta tn tc T (ex l).rest (70,plOf (ex l).rest) w'):=calls_no (HX l f w h hl) hx
   have HE:Hid (X.val = none /\ X.rest = (ex l).rest):=eqv_none HQ.out hx
   clear hx HQ HX h
   go_enter Tryz.func114,Tryz.ntmps114
   go_wp2_with fail
   refine HN.out.mono ?_
   rintro e w1 ⟨v,rfl,hk1,hp1⟩
   exact ⟨rfl,HZ.out _ _ _ HE.out hk1 hp1⟩
 | some a=>
   have HN:Hid (Calls Tryz.prog 112 #[Φ (some ⟨b,0,none⟩)] w fun e w'=>∃ ka kn kc,e = Ω (.agg #[I J a.1.kind,I J a.1.num,Ψ (bs a.1.text),Γ ka kn kc,I J a.1.pl]) /\ ExAt true (fun g=>w.heap.size <= g) w' a ka kn /\ Kp b w w' /\ PAt b ta tn tc T (ex l).rest (flt (ex l).many f) w'):=ex_ok (HX l f w h hl) hx
   have HQ1:Hid (Eqv X ((signG s.data.toList (ex l).rest).bind fun _ l2=>(ex l2).bind fun b l3=>pure' (ofL [a,b]) l3) f (flt (ex l).many f)):=eqv_some HQ.out hx
   have HL1:Hid ((ex l).rest.length <= n):=Nat.le_trans (suf_len (hsuf l)) hl
   clear hx HQ h
   generalize (ex l).rest = l1 at *
   generalize flt (ex l).many f = f1 at *
   go_enter Tryz.func114,Tryz.ntmps114
   go_wp2_with fail
   refine HN.out.mono ?_
   rintro e w1 ⟨ka,kn,kc,rfl,hE1,hk1,hp1⟩
   have H1:Hid (Kp b w (w1.alloc (Δ (exArr a.1 ka kn kc) 102)) /\ PAt b ta tn tc T l1 f1 (w1.alloc (Δ (exArr a.1 ka kn kc) 102)) /\ ExAt true (fun g=>w.heap.size <= g) (w1.alloc (Δ (exArr a.1 ka kn kc) 102)) a ka kn /\ (w1.alloc (Δ (exArr a.1 ka kn kc) 102)).heap[w1.heap.size]? = some (Δ (exArr a.1 ka kn kc) 102 (0,0))):=by
    have hbel:Below w1.heap.size w1 (w1.alloc (Δ (exArr a.1 ka kn kc) 102)):=(Below.refl _ _).alloc (Nat.le_refl _) _
    exact ⟨hk1.then_below hbel,hp1.below hbel,hE1.below hbel,heap_alloc_new w1 _⟩
   have hz1:w.heap.size <= w1.heap.size:=hk1.size
   clear hE1 hk1 hp1 HN
   cases hx:(signG s.data.toList l1).val with
   | none=>
     have HNs:Hid (Calls Tryz.prog 111 #[Φ (some ⟨b,0,none⟩),Ψ s] (w1.alloc (Δ (exArr a.1 ka kn kc) 102)) fun e w'=>∃ v,e = .panicked [{ v:=.iface 32 v,recovered:=false }] /\ Kp b (w1.alloc (Δ (exArr a.1 ka kn kc) 102)) w' /\ PAt b ta tn tc T (signG s.data.toList l1).rest (70,plOf (signG s.data.toList l1).rest) w'):=calls_no (signP_calls _ s H1.out.2.1) hx
     have HE:Hid (X.val = none /\ X.rest = (signG s.data.toList l1).rest):=eqv_none HQ1.out hx
     clear hx HQ1 HX
     go_wp2_with fail
     refine HNs.out.mono ?_
     rintro e w2 ⟨v,rfl,hk2,hp2⟩
     exact ⟨rfl,HZ.out _ _ _ HE.out (H1.out.1.trans hk2) hp2⟩
   | some u=>
     have HNs:Hid (Calls Tryz.prog 111 #[Φ (some ⟨b,0,none⟩),Ψ s] (w1.alloc (Δ (exArr a.1 ka kn kc) 102)) fun e w'=>e = Ω (.tuple #[]) /\ Kp b (w1.alloc (Δ (exArr a.1 ka kn kc) 102)) w' /\ PAt b ta tn tc T (signG s.data.toList l1).rest f1 w'):=sign_ok (s:=s) H1.out.2.1 hx
     have HQ2:Hid (Eqv X ((ex (signG s.data.toList l1).rest).bind fun b l3=>pure' (ofL [a,b]) l3) f f1):=by
      have:=eqv_some HQ1.out hx
      rw [sign_many,flt_nil] at this; exact this
     have HL2:Hid ((signG s.data.toList l1).rest.length <= n):=Nat.le_trans (suf_len (sign_suf _ _)) HL1.out
     clear hx HQ1
     generalize (signG s.data.toList l1).rest = l2 at *
     go_wp2_with fail
     refine HNs.out.mono ?_
     rintro e w2 ⟨rfl,hk2,hp2⟩
     have H2:Hid (Kp b w w2 /\ PAt b ta tn tc T l2 f1 w2 /\ ExAt true (fun g=>w.heap.size <= g) w2 a ka kn /\ w2.heap[w1.heap.size]? = some (Δ (exArr a.1 ka kn kc) 102 (0,0))):=
      ⟨H1.out.1.trans hk2,hp2,H1.out.2.2.1.kp hk2 (fun hb=>by omega),by rw [hk2.block w1.heap.size (by simp) (by omega)]; exact H1.out.2.2.2⟩
     clear hk2 hp2 HNs H1
     cases hx:(ex l2).val with
     | none=>
       have HN:Hid (Calls Tryz.prog 112 #[Φ (some ⟨b,0,none⟩)] w2 fun e w'=>∃ v,e = .panicked [{ v:=.iface 32 v,recovered:=false }] /\ Kp b w2 w' /\ PAt b ta tn tc T (ex l2).rest (70,plOf (ex l2).rest) w'):=calls_no (HX l2 f1 w2 H2.out.2.1 HL2.out) hx
       have HE:Hid (X.val = none /\ X.rest = (ex l2).rest):=eqv_none HQ2.out hx
       clear hx HQ2 HX
       go_wp2_with fail
       refine HN.out.mono ?_
       rintro e w3 ⟨v,rfl,hk3,hp3⟩
       exact ⟨rfl,HZ.out _ _ _ HE.out (H2.out.1.trans hk3) hp3⟩
     | some c=>
       have HN:Hid (Calls Tryz.prog 112 #[Φ (some ⟨b,0,none⟩)] w2 fun e w'=>∃ ka kn kc,e = Ω (.agg #[I J c.1.kind,I J c.1.num,Ψ (bs c.1.text),Γ ka kn kc,I J c.1.pl]) /\ ExAt true (fun g=>w2.heap.size <= g) w' c ka kn /\ Kp b w2 w' /\ PAt b ta tn tc T (ex l2).rest (flt (ex l2).many f1) w'):=ex_ok (HX l2 f1 w2 H2.out.2.1 HL2.out) hx
       have HY:Hid (Eqv X (pure' (ofL [a,c]) (ex l2).rest) f (flt (ex l2).many f1)):=eqv_some HQ2.out hx
       clear hx HQ2 HX
       generalize (ex l2).rest = l3 at *
       generalize flt (ex l2).many f1 = f3 at *
       go_wp2_with fail
       refine HN.out.mono ?_
       rintro e w3 ⟨k2,n2,c2,rfl,hE3,hk3,hp3⟩
       have H3:Hid (Kp b w w3 /\ PAt b ta tn tc T l3 f3 w3 /\ ExAt true (fun g=>w.heap.size <= g) w3 a ka kn /\ ExAt true (fun g=>w.heap.size <= g) w3 c k2 n2 /\ w3.heap[w1.heap.size]? = some (Δ (exArr a.1 ka kn kc) 102 (0,0))):=
        ⟨H2.out.1.trans hk3,hp3,H2.out.2.2.1.kp hk3 (fun hb=>by omega),hE3.base (fun g _ hg=>by have h5:w2.heap.size <= g:=hg; have:=H2.out.1.size; show w.heap.size <= g; omega),by rw [hk3.block w1.heap.size (lt_block H2.out.2.2.2) (by omega)]; exact H2.out.2.2.2⟩
       clear hE3 hk3 hp3 HN H2
       have ha:∀ o,(w3.alloc o).heap[w1.heap.size]? = some (Δ (exArr a.1 ka kn kc) 102 (0,0)):=fun o=>heap_old H3.out.2.2.2.2
       have a0:=fun o=>blk (i:=0) (ha o) rfl
       have a1:=fun o=>blk (i:=1) (ha o) rfl
       have a2:=fun o=>blk (i:=2) (ha o) rfl
       have a3:=fun o=>blk (i:=3) (ha o) rfl
       have a4:=fun o=>blk (i:=4) (ha o) rfl
       have hne:¬ w1.heap.size = w3.heap.size:=by have:=lt_block H3.out.2.2.2.2; omega
       clear ha
       have HV:Hid (∀ o,VFo w.heap.size (ofL [a,c]) (Γ (some ⟨w3.heap.size + 1,0,none⟩) 2 2) ((w3.alloc o).alloc (Δ #[I J a.1.kind,I J a.1.num,Ψ (bs a.1.text),Γ ka kn kc,I J a.1.pl,I J c.1.kind,I J c.1.num,Ψ (bs c.1.text),Γ k2 n2 c2,I J c.1.pl] 102)) /\ Kp b w ((w3.alloc o).alloc (Δ #[I J a.1.kind,I J a.1.num,Ψ (bs a.1.text),Γ ka kn kc,I J a.1.pl,I J c.1.kind,I J c.1.num,Ψ (bs c.1.text),Γ k2 n2 c2,I J c.1.pl] 102)) /\ PAt b ta tn tc T l3 f3 ((w3.alloc o).alloc (Δ #[I J a.1.kind,I J a.1.num,Ψ (bs a.1.text),Γ ka kn kc,I J a.1.pl,I J c.1.kind,I J c.1.num,Ψ (bs c.1.text),Γ k2 n2 c2,I J c.1.pl] 102))):=fun o=>by
        have hbel:Below w3.heap.size w3 (w3.alloc o):=(Below.refl _ _).alloc (Nat.le_refl _) _
        have hbel2:Below (w3.alloc o).heap.size (w3.alloc o) ((w3.alloc o).alloc (Δ #[I J a.1.kind,I J a.1.num,Ψ (bs a.1.text),Γ ka kn kc,I J a.1.pl,I J c.1.kind,I J c.1.num,Ψ (bs c.1.text),Γ k2 n2 c2,I J c.1.pl] 102)):=(Below.refl _ _).alloc (Nat.le_refl _) _
        have hsz:(w3.alloc o).heap.size = w3.heap.size + 1:=by simp
        refine ⟨⟨some ⟨(w3.alloc o).heap.size,0,none⟩,2,2,by rw [hsz],by decide,two_new ?_ (H3.out.2.2.1.below hbel) (H3.out.2.2.2.1.below hbel)⟩,(H3.out.1.then_below hbel).then_below hbel2,(H3.out.2.1.below hbel).below hbel2⟩
        have:=H3.out.1.size
        show w.heap.size <= (w3.alloc o).heap.size
        simp; omega
       clear H3
       go_wp2
       go_ret
       refine ⟨(HV.out _).2.1,.inl ⟨_,_,HY.out.1,rfl,?_,?_⟩⟩
       ·exact (HV.out _).1
       ·rw [HY.out.2.1,HY.out.2.2]
        exact (flt_nil f3).symm ▸ (HV.out _).2.2
open Go.Value renaming int->I,string->Ψ,slice->Γ
structure ItOk (i:It):Prop where
 kind:InR i.kind
 name:i.name.length <= maxLen
 pl:InR i.pl
def VIt (B:Nat) (i:It) (v:Value) (w:World):Prop:=∃ ao n c,v = .agg #[I J i.kind,Ψ (bs i.name),Γ ao n c,I J i.pl] /\ n <= maxLen /\ FoAt true (fun g=>B <= g) w i.args ao n /\ ItOk i
/-- The item so far, in its variable; the result's variable; the parser. -/
structure IL (b:Nat) (ta:Option Addr) (tn tc:Nat) (T:List Tk) (w:World) (g3:Nat) (k:Int) (s:List UInt8) (ao:Option Addr) (n c:Nat) (pl:Int) (F:Fo) (l:List Tk) (f:Int × Int) (W:World):Prop where
 p:PAt b ta tn tc T l f W
 kp:Kp b w W
 nb:b < w.heap.size
 n3:w.heap.size < g3
 res:W.heap[w.heap.size]? = some (Δ zeroI 67 (0,0))
 val:W.heap[g3]? = some (Δ (itArr k s ao n c pl) 67 (0,0))
 few:n <= maxLen
 fo:FoAt true (fun g=>w.heap.size <= g /\ g ≠ w.heap.size /\ g ≠ g3) W F ao n
section
variable {b:Nat} {ta:Option Addr} {tn tc:Nat} {T:List Tk} {w:World} {g3:Nat} {k:Int} {s:List UInt8} {ao:Option Addr} {n c:Nat} {pl:Int} {F:Fo} {l:List Tk} {f:Int × Int} {W W':World}
theorem IL.go (h:IL b ta tn tc T w g3 k s ao n c pl F l f W) (hk:Kp b W W') {l':List Tk} {f':Int × Int} (hp:PAt b ta tn tc T l' f' W'):IL b ta tn tc T w g3 k s ao n c pl F l' f' W':=by
 have h1:=h.nb
 have h2:=h.n3
 exact ⟨hp,h.kp.trans hk,h1,h2,by rw [hk.block _ (lt_block h.res) (by omega)]; exact h.res,by rw [hk.block _ (lt_block h.val) (by omega)]; exact h.val,h.few,h.fo.kp hk (fun hb=>by have:=hb.1; omega)⟩
theorem IL.next (h:IL b ta tn tc T w g3 k s ao n c pl F l f W) (hk:Below W.heap.size W W'):IL b ta tn tc T w g3 k s ao n c pl F l f W':=h.go (Kp.of_below hk) (h.p.below hk)
theorem IL.alloc (h:IL b ta tn tc T w g3 k s ao n c pl F l f W) (o:Obj):IL b ta tn tc T w g3 k s ao n c pl F l f (W.alloc o):=h.next ((Below.refl _ _).alloc (Nat.le_refl _) o)
theorem IL.size (h:IL b ta tn tc T w g3 k s ao n c pl F l f W):g3 < W.heap.size:=lt_block h.val
theorem IL.cells (h:IL b ta tn tc T w g3 k s ao n c pl F l f W):W.cell? ⟨g3,0,none⟩ = some (I J k) /\ W.cell? ⟨g3,1,none⟩ = some (Ψ (bs s)) /\ W.cell? ⟨g3,2,none⟩ = some (Γ ao n c) /\ W.cell? ⟨g3,3,none⟩ = some (I J pl) /\ ∀ i,W.frozen? ⟨g3,i,none⟩ = false:=
 ⟨blk h.val rfl,blk h.val rfl,blk h.val rfl,blk h.val rfl,fun i=>blkf i h.val⟩
theorem IL.zeros (h:IL b ta tn tc T w g3 k s ao n c pl F l f W):W.cell? ⟨w.heap.size,0,none⟩ = some (I J 0) /\ W.cell? ⟨w.heap.size,1,none⟩ = some (Ψ ⟨#[]⟩) /\ W.cell? ⟨w.heap.size,2,none⟩ = some (Γ none 0 0) /\ W.cell? ⟨w.heap.size,3,none⟩ = some (I J 0) /\ ∀ i,W.frozen? ⟨w.heap.size,i,none⟩ = false:=
 ⟨blk h.res rfl,blk h.res rfl,blk h.res rfl,blk h.res rfl,fun i=>blkf i h.res⟩
theorem IL.start {w1:World} (hb:b < w.heap.size) (hK:Kp b (w.alloc (Δ zeroI 67)) w1) (hP:PAt b ta tn tc T l f w1) :
 IL b ta tn tc T w w1.heap.size k [] none 0 0 pl .nil l f (w1.alloc (Δ #[I J k,Ψ ⟨#[]⟩,Γ none 0 0,I J pl] 67)):=by
 have hs:w.heap.size + 1 <= w1.heap.size:=by have:=hK.size; simp at this; omega
 have hbel:Below w1.heap.size w1 (w1.alloc (Δ #[I J k,Ψ ⟨#[]⟩,Γ none 0 0,I J pl] 67)):=(Below.refl _ _).alloc (Nat.le_refl _) _
 have h0:w1.heap[w.heap.size]? = some (Δ zeroI 67 (0,0)):=by
  rw [hK.block w.heap.size (by simp) (by omega)]; exact heap_alloc_new w _
 exact ⟨hP.below hbel,((Kp.refl b w).alloc _).trans (hK.then_below hbel),hb,by omega,heap_old h0,heap_alloc_new w1 _,Nat.zero_le _,rfl⟩
theorem IL.toks (h:IL b ta tn tc T w g3 k s ao n c pl F l f W) {W':World} (hoth:∀ g,g ≠ g3 -> W'.heap[g]? = W.heap[g]?):PAt b ta tn tc T l f W':=by
 have h1:=h.nb
 have h2:=h.n3
 obtain ⟨kk,q1,q2,q3⟩:=h.p.block
 refine ⟨⟨kk,q1,q2,by rw [hoth b (by omega)]; exact q3⟩,h.p.toks.keep fun x hx=>hoth x.block ?_,h.p.low,h.p.last,h.p.few⟩
 have:=h.p.low x hx
 omega
theorem IL.setName (h:IL b ta tn tc T w g3 k s ao n c pl F l f W) (s':List UInt8):IL b ta tn tc T w g3 k s' ao n c pl F l f (W.setCell ⟨g3,1,none⟩ (Ψ (bs s'))):=by
 have h1:=h.nb
 have h2:=h.n3
 have hoth:∀ g,g ≠ g3 -> (W.setCell ⟨g3,1,none⟩ (Ψ (bs s'))).heap[g]? = W.heap[g]?:=fun g hg=>heap_other rfl hg
 exact ⟨h.toks hoth,h.kp.setNew (by omega) 1 _,h1,h2,by rw [hoth _ (by omega)]; exact h.res,heap_put h.val rfl,h.few,foAt_keep (fun g _ hg=>hoth g hg.2.2) h.fo⟩
theorem IL.setArgs (h:IL b ta tn tc T w g3 k s ao n c pl F l f W) {F':Fo} {ao':Option Addr} {n' c':Nat} (hn:n' <= maxLen) (hF:FoAt true (fun g=>w.heap.size <= g /\ g ≠ w.heap.size /\ g ≠ g3) W F' ao' n'):IL b ta tn tc T w g3 k s ao' n' c' pl F' l f (W.setCell ⟨g3,2,none⟩ (Γ ao' n' c')):=by
 have h1:=h.nb
 have h2:=h.n3
 have hoth:∀ g,g ≠ g3 -> (W.setCell ⟨g3,2,none⟩ (Γ ao' n' c')).heap[g]? = W.heap[g]?:=fun g hg=>heap_other rfl hg
 exact ⟨h.toks hoth,h.kp.setNew (by omega) 2 _,h1,h2,by rw [hoth _ (by omega)]; exact h.res,heap_put h.val rfl,hn,foAt_keep (fun g _ hg=>hoth g hg.2.2) hF⟩
/-- The result's variable takes the item. -/
theorem IL.done (h:IL b ta tn tc T w g3 k s ao n c pl F l f W) (hk:InR k) (hs:s.length <= maxLen) (hpl:InR pl) {W':World} (hW:W' = (((W.setCell ⟨w.heap.size,0,none⟩ (I J k)).setCell ⟨w.heap.size,1,none⟩ (Ψ (bs s))).setCell ⟨w.heap.size,2,none⟩ (Γ ao n c)).setCell ⟨w.heap.size,3,none⟩ (I J pl)) :
 Kp b w W' /\ PAt b ta tn tc T l f W' /\ VIt w.heap.size ⟨k,s,F,pl⟩ (.agg #[I J k,Ψ (bs s),Γ ao n c,I J pl]) W':=by
 have hD:DL b ta tn tc T w 67 zeroI l f W:=⟨h.p,h.kp,h.nb,h.res⟩
 obtain ⟨d1,d2,d3⟩:=hD.done _ _ _ _ hW
 exact ⟨d1,d2,ao,n,c,rfl,h.few,(foAt_keep (fun g _ hg=>d3 g hg.2.1) h.fo).base (fun g _ hg=>hg.1),hk,hs,hpl⟩
end
theorem kind_range (s:List UInt8):0 <= itemKindB s /\ itemKindB s <= 10:=by
 unfold itemKindB
 repeat' split
 all_goals omega
/-- What an item says, by what stands behind its word. -/
theorem item_eq {ex:List Tk -> Rs Ex} {t:Tk} {r:List Tk} (hk:t.kind = 4) (hi:itemKindB t.text ≠ 0):itemG ex (t :: r) = (closeG [59] (bodyG ex (itemKindB t.text) r)).map fun b=>⟨itemKindB t.text,b.1,b.2,t.pl⟩:=by
 show (if t.kind = 4 /\ itemKindB t.text ≠ 0 then _ else _) = _
 rw [if_pos ⟨hk,hi⟩]
set_option maxRecDepth 20000
set_option maxHeartbeats 2000000
theorem item_one {b:Nat} {ta:Option Addr} {tn tc:Nat} {T:List Tk} {n:Nat} {ex:List Tk -> Rs Ex} {f:Int × Int} (w:World) {t:Tk} {r:List Tk} (h:PAt b ta tn tc T (t :: r) f w) (hl:r.length <= n)
 (HX:∀ l f w,PAt b ta tn tc T l f w -> l.length <= n -> Calls Tryz.prog 112 #[Φ (some ⟨b,0,none⟩)] w (PPost b ta tn tc T f (ex l) (VEx w.heap.size) w)) (hk:t.kind = 4) (hi:itemKindB t.text ≠ 0) (hkd:itemKindB t.text ≠ 1 /\ itemKindB t.text ≠ 7 /\ itemKindB t.text ≠ 8 /\ itemKindB t.text ≠ 5 /\ itemKindB t.text ≠ 6 /\ itemKindB t.text ≠ 9) :
 Calls Tryz.prog 76 #[Φ (some ⟨b,0,none⟩)] w (PPost b ta tn tc T f (itemG ex (t :: r)) (VIt w.heap.size) w):=by
 have hres:Tryz.f76.results = #[.cell 2 67]:=by kernel_rfl
 have HC0:Hid (PAt b ta tn tc T (t :: r) f (w.alloc (Δ zeroI 67))):=h.below ((Below.refl _ _).alloc (Nat.le_refl _) _)
 have HG:Hid (∀ W,PAt b ta tn tc T (t :: r) f W -> Calls Tryz.prog 109 #[Φ (some ⟨b,0,none⟩)] W fun e w'=>e = Ω (.agg #[I J (itemKindB t.text),Ψ ⟨#[]⟩,Γ none 0 0,I J (t.pl:Int)]) /\ Kp b W w' /\ PAt b ta tn tc T r f w'):=fun W hW=>begin_ok W hW hk hi
 have HO:Hid (TkOk t):=pl_le h
 have hnb:=h.lt
 have HE0:=item_eq (ex:=ex) (t:=t) (r:=r) hk hi
 have HR0:=kind_range t.text
 generalize itemG ex (t :: r) = X at *
 clear hk hi h
 generalize itemKindB t.text = kd at *
 obtain ⟨Z,hQ,HE1⟩:∃ Z:Rs (List UInt8 × Fo),Eqv Z (closeG [59] (bodyG ex kd r)) f f /\ X = Z.map fun b=>⟨kd,b.1,b.2,t.pl⟩:=⟨_,eqv_refl _ _,HE0⟩
 have HQ:=hid hQ
 clear hQ
 have HE:Hid (X.val = (Z.val.map fun (q:List UInt8 × Fo)=>(⟨kd,q.1,q.2,(t.pl:Int)⟩:It)) /\ X.rest = Z.rest /\ X.many = Z.many):=by rw [HE1]; exact ⟨rfl,rfl,rfl⟩
 clear HE0 HE1
 have HKd:Hid (InR kd /\ InR (t.pl:Int)):=by
  have:=HO.out.pl
  unfold InR
  exact ⟨by omega,by omega⟩
 have HZ:Hid (∀ v w' l',Z.val = none /\ Z.rest = l' -> Kp b w w' -> PAt b ta tn tc T l' (70,plOf l') w' -> PPost b ta tn tc T f X (VIt w.heap.size) w (.panicked [{ v:=.iface 32 v,recovered:=false }]) w'):=fun v w' l' h1 h3 h4=>⟨h3,.inr ⟨by rw [HE.out.1,h1.1]; rfl,⟨v,rfl⟩,by rw [HE.out.2.1,h1.2]; exact h4⟩⟩
 have q1:(kd == 1) = false:=by rw [beq_eq_false_iff_ne]; omega
 have q7:(kd == 7) = false:=by rw [beq_eq_false_iff_ne]; omega
 have q8:(kd == 8) = false:=by rw [beq_eq_false_iff_ne]; omega
 have q5:(kd == 5) = false:=by rw [beq_eq_false_iff_ne]; omega
 have q6:(kd == 6) = false:=by rw [beq_eq_false_iff_ne]; omega
 have q9:(kd == 9) = false:=by rw [beq_eq_false_iff_ne]; omega
 have HQ1:Hid (Eqv Z ((ex r).bind fun a l1=>(signG [59] l1).bind fun _ l2=>pure' (([]:List UInt8),ofL [a]) l2) f f):=by
  have h1:=HQ.out
  obtain ⟨k1,k2,k3,k4,k5,k6⟩:=hkd
  rw [bodyG,if_neg k1,if_neg k2,if_neg k3,if_neg (by omega),close_bind,one_bind] at h1
  exact h1
 clear hkd HQ
 go_enter Tryz.func76,Tryz.ntmps76
 go_wp2_with fail
 refine (HG.out _ HC0.out).mono ?_
 rintro e w1 ⟨rfl,hk1,hp1⟩
 have HI1:Hid (IL b ta tn tc T w w1.heap.size kd [] none 0 0 (t.pl:Int) .nil r f (w1.alloc (Δ #[I J kd,Ψ ⟨#[]⟩,Γ none 0 0,I J (t.pl:Int)] 67))):=IL.start hnb hk1 hp1
 clear hk1 hp1 HC0 HG
 have ck:=HI1.out.cells.1
 cases hx:(ex r).val with
 | none=>
   have HNx:Hid (Calls Tryz.prog 112 #[Φ (some ⟨b,0,none⟩)] (w1.alloc (Δ #[I J kd,Ψ ⟨#[]⟩,Γ none 0 0,I J (t.pl:Int)] 67)) fun e w'=>∃ v,e = .panicked [{ v:=.iface 32 v,recovered:=false }] /\ Kp b (w1.alloc (Δ #[I J kd,Ψ ⟨#[]⟩,Γ none 0 0,I J (t.pl:Int)] 67)) w' /\ PAt b ta tn tc T (ex r).rest (70,plOf (ex r).rest) w'):=calls_no (HX r f _ HI1.out.p hl) hx
   have HEq:Hid (Z.val = none /\ Z.rest = (ex r).rest):=eqv_none HQ1.out hx
   clear hx HQ1 HX
   go_wp2_with fail
   refine HNx.out.mono ?_
   rintro e w9 ⟨v,rfl,hk9,hp9⟩
   exact ⟨rfl,HZ.out _ _ _ HEq.out (HI1.out.kp.trans hk9) hp9⟩
 | some a=>
   have HNx:Hid (Calls Tryz.prog 112 #[Φ (some ⟨b,0,none⟩)] (w1.alloc (Δ #[I J kd,Ψ ⟨#[]⟩,Γ none 0 0,I J (t.pl:Int)] 67)) fun e w'=>∃ ka kn kc,e = Ω (.agg #[I J a.1.kind,I J a.1.num,Ψ (bs a.1.text),Γ ka kn kc,I J a.1.pl]) /\ ExAt true (fun g=>((w1.alloc (Δ #[I J kd,Ψ ⟨#[]⟩,Γ none 0 0,I J (t.pl:Int)] 67))).heap.size <= g) w' a ka kn /\ Kp b (w1.alloc (Δ #[I J kd,Ψ ⟨#[]⟩,Γ none 0 0,I J (t.pl:Int)] 67)) w' /\ PAt b ta tn tc T (ex r).rest (flt (ex r).many f) w'):=ex_ok (HX r f _ HI1.out.p hl) hx
   have HQ5:Hid (Eqv Z ((signG [59] (ex r).rest).bind fun _ l2=>pure' ([],ofL [a]) l2) f (flt (ex r).many f)):=eqv_some HQ1.out hx
   clear hx HQ1 HX
   generalize (ex r).rest = l5 at *
   generalize flt (ex r).many f = f5 at *
   go_wp2_with fail
   refine HNx.out.mono ?_
   rintro e w5 ⟨ka,kn,kc,rfl,hE5,hk5,hp5⟩
   have HI5:Hid (∀ o,IL b ta tn tc T w w1.heap.size kd [] none 0 0 (t.pl:Int) .nil l5 f5 (w5.alloc o)):=fun o=>(HI1.out.go hk5 hp5).alloc o
   have HF5:Hid (FoAt true (fun g=>w.heap.size <= g /\ g ≠ w.heap.size /\ g ≠ w1.heap.size) (w5.alloc (Δ #[I J a.1.kind,I J a.1.num,Ψ (bs a.1.text),Γ ka kn kc,I J a.1.pl] 102)) (ofL [a]) (some ⟨w5.heap.size,0,none⟩) 1):=by
    have h1:=HI1.out.n3
    have h2:=HI1.out.size
    have h3:=hk5.size
    refine one_new (by show w.heap.size <= w5.heap.size /\ w5.heap.size ≠ w.heap.size /\ w5.heap.size ≠ w1.heap.size; omega) (hE5.base fun g _ hg=>?_)
    have h4:((w1.alloc (Δ #[I J kd,Ψ ⟨#[]⟩,Γ none 0 0,I J (t.pl:Int)] 67))).heap.size <= g:=hg
    exact ⟨by omega,by omega,by omega⟩
   have d2:=fun o=>(HI5.out o).cells.2.2.1
   have df:=fun o i=>(HI5.out o).cells.2.2.2.2 i
   have HI6:Hid (IL b ta tn tc T w w1.heap.size kd [] (some ⟨w5.heap.size,0,none⟩) 1 1 (t.pl:Int) (ofL [a]) l5 f5 ((w5.alloc (Δ #[I J a.1.kind,I J a.1.num,Ψ (bs a.1.text),Γ ka kn kc,I J a.1.pl] 102)).setCell ⟨w1.heap.size,2,none⟩ (Γ (some ⟨w5.heap.size,0,none⟩) 1 1))):=(HI5.out _).setArgs (by decide) HF5.out
   clear hE5 hk5 hp5 HNx HI1
   cases hx9:(signG [59] l5).val with
   | none=>
     have HNs:Hid (Calls Tryz.prog 111 #[Φ (some ⟨b,0,none⟩),Ψ ⟨#[59]⟩] ((w5.alloc (Δ #[I J a.1.kind,I J a.1.num,Ψ (bs a.1.text),Γ ka kn kc,I J a.1.pl] 102)).setCell ⟨w1.heap.size,2,none⟩ (Γ (some ⟨w5.heap.size,0,none⟩) 1 1)) fun e w'=>∃ v,e = .panicked [{ v:=.iface 32 v,recovered:=false }] /\ Kp b ((w5.alloc (Δ #[I J a.1.kind,I J a.1.num,Ψ (bs a.1.text),Γ ka kn kc,I J a.1.pl] 102)).setCell ⟨w1.heap.size,2,none⟩ (Γ (some ⟨w5.heap.size,0,none⟩) 1 1)) w' /\ PAt b ta tn tc T (signG [59] l5).rest (70,plOf (signG [59] l5).rest) w'):=calls_no (signP_calls _ ⟨#[59]⟩ HI6.out.p) hx9
     have HEq:Hid (Z.val = none /\ Z.rest = (signG [59] l5).rest):=eqv_none HQ5.out hx9
     clear hx9 HQ5
     go_wp2_with fail
     refine HNs.out.mono ?_
     rintro e w9 ⟨v,rfl,hk9,hp9⟩
     exact ⟨rfl,HZ.out _ _ _ HEq.out (HI6.out.kp.trans hk9) hp9⟩
   | some u9=>
     have HNs:Hid (Calls Tryz.prog 111 #[Φ (some ⟨b,0,none⟩),Ψ ⟨#[59]⟩] ((w5.alloc (Δ #[I J a.1.kind,I J a.1.num,Ψ (bs a.1.text),Γ ka kn kc,I J a.1.pl] 102)).setCell ⟨w1.heap.size,2,none⟩ (Γ (some ⟨w5.heap.size,0,none⟩) 1 1)) fun e w'=>e = Ω (.tuple #[]) /\ Kp b ((w5.alloc (Δ #[I J a.1.kind,I J a.1.num,Ψ (bs a.1.text),Γ ka kn kc,I J a.1.pl] 102)).setCell ⟨w1.heap.size,2,none⟩ (Γ (some ⟨w5.heap.size,0,none⟩) 1 1)) w' /\ PAt b ta tn tc T (signG [59] l5).rest f5 w'):=sign_ok (s:=⟨#[59]⟩) HI6.out.p hx9
     have HY:Hid (Eqv Z (pure' ([],ofL [a]) (signG [59] l5).rest) f f5):=by
      have:=eqv_some HQ5.out hx9
      rw [sign_many,flt_nil] at this; exact this
     clear hx9 HQ5
     generalize (signG [59] l5).rest = l9 at *
     go_wp2_with fail
     refine HNs.out.mono ?_
     rintro e w9 ⟨rfl,hk9,hp9⟩
     have HI9:Hid (IL b ta tn tc T w w1.heap.size kd [] (some ⟨w5.heap.size,0,none⟩) 1 1 (t.pl:Int) (ofL [a]) l9 f5 w9):=HI6.out.go hk9 hp9
     clear hk9 hp9 HNs
     obtain ⟨c0,c1,c2,c3,cf⟩:=HI9.out.cells
     obtain ⟨z0,z1,z2,z3,zf⟩:=HI9.out.zeros
     have hne:¬ w.heap.size = w1.heap.size:=by have:=HI9.out.n3; omega
     have HD:Hid _:=HI9.out.done HKd.out.1 (by simp) HKd.out.2 rfl
     clear HI9
     go_wp2
     refine bodyPost_ret (v:=.agg #[I J kd,Ψ (bs []),Γ (some ⟨w5.heap.size,0,none⟩) 1 1,I J (t.pl:Int)]) ?_ rfl ?_
     ·simp only [results,hres]
      go_simp
      try rfl
     ·refine ⟨HD.out.1,.inl ⟨⟨kd,[],ofL [a],(t.pl:Int)⟩,_,by rw [HE.out.1,HY.out.1]; rfl,rfl,HD.out.2.2,?_⟩⟩
      rw [HE.out.2.1,HE.out.2.2,HY.out.2.1,HY.out.2.2]
      exact (flt_nil f5).symm ▸ HD.out.2.1
theorem item_band {b:Nat} {ta:Option Addr} {tn tc:Nat} {T:List Tk} {n:Nat} {ex:List Tk -> Rs Ex} {f:Int × Int} (w:World) {t:Tk} {r:List Tk} (h:PAt b ta tn tc T (t :: r) f w) (hl:r.length <= n)
 (HB:∀ (s:ByteArray) l f w,PAt b ta tn tc T l f w -> l.length <= n -> Calls Tryz.prog 114 #[Φ (some ⟨b,0,none⟩),Ψ s] w (PPost b ta tn tc T f (bothG ex s.data.toList l) (VFo w.heap.size) w)) (hk:t.kind = 4) (hi:itemKindB t.text ≠ 0) (hkd:itemKindB t.text = 8) :
 Calls Tryz.prog 76 #[Φ (some ⟨b,0,none⟩)] w (PPost b ta tn tc T f (itemG ex (t :: r)) (VIt w.heap.size) w):=by
 have hres:Tryz.f76.results = #[.cell 2 67]:=by kernel_rfl
 have HC0:Hid (PAt b ta tn tc T (t :: r) f (w.alloc (Δ zeroI 67))):=h.below ((Below.refl _ _).alloc (Nat.le_refl _) _)
 have HG:Hid (∀ W,PAt b ta tn tc T (t :: r) f W -> Calls Tryz.prog 109 #[Φ (some ⟨b,0,none⟩)] W fun e w'=>e = Ω (.agg #[I J (itemKindB t.text),Ψ ⟨#[]⟩,Γ none 0 0,I J (t.pl:Int)]) /\ Kp b W w' /\ PAt b ta tn tc T r f w'):=fun W hW=>begin_ok W hW hk hi
 have HO:Hid (TkOk t):=pl_le h
 have hnb:=h.lt
 have HE0:=item_eq (ex:=ex) (t:=t) (r:=r) hk hi
 have HR0:=kind_range t.text
 generalize itemG ex (t :: r) = X at *
 clear hk hi h
 generalize itemKindB t.text = kd at *
 obtain ⟨Z,hQ,HE1⟩:∃ Z:Rs (List UInt8 × Fo),Eqv Z (closeG [59] (bodyG ex kd r)) f f /\ X = Z.map fun b=>⟨kd,b.1,b.2,t.pl⟩:=⟨_,eqv_refl _ _,HE0⟩
 have HQ:=hid hQ
 clear hQ
 have HE:Hid (X.val = (Z.val.map fun (q:List UInt8 × Fo)=>(⟨kd,q.1,q.2,(t.pl:Int)⟩:It)) /\ X.rest = Z.rest /\ X.many = Z.many):=by rw [HE1]; exact ⟨rfl,rfl,rfl⟩
 clear HE0 HE1
 have HKd:Hid (InR kd /\ InR (t.pl:Int)):=by
  have:=HO.out.pl
  unfold InR
  exact ⟨by omega,by omega⟩
 have HZ:Hid (∀ v w' l',Z.val = none /\ Z.rest = l' -> Kp b w w' -> PAt b ta tn tc T l' (70,plOf l') w' -> PPost b ta tn tc T f X (VIt w.heap.size) w (.panicked [{ v:=.iface 32 v,recovered:=false }]) w'):=fun v w' l' h1 h3 h4=>⟨h3,.inr ⟨by rw [HE.out.1,h1.1]; rfl,⟨v,rfl⟩,by rw [HE.out.2.1,h1.2]; exact h4⟩⟩
 have q1:(kd == 1) = false:=by rw [beq_eq_false_iff_ne]; omega
 have q7:(kd == 7) = false:=by rw [beq_eq_false_iff_ne]; omega
 have q8:(kd == 8) = true:=by rw [hkd]; decide
 have HQ1:Hid (Eqv Z ((bothG ex [46,46] r).bind fun F l1=>(signG [59] l1).bind fun _ l2=>pure' (([]:List UInt8),F) l2) f f):=by
  have h1:=HQ.out
  rw [bodyG,if_neg (by omega),if_neg (by omega),if_pos hkd,close_bind] at h1
  exact h1
 clear hkd HQ
 go_enter Tryz.func76,Tryz.ntmps76
 go_wp2_with fail
 refine (HG.out _ HC0.out).mono ?_
 rintro e w1 ⟨rfl,hk1,hp1⟩
 have HI1:Hid (IL b ta tn tc T w w1.heap.size kd [] none 0 0 (t.pl:Int) .nil r f (w1.alloc (Δ #[I J kd,Ψ ⟨#[]⟩,Γ none 0 0,I J (t.pl:Int)] 67))):=IL.start hnb hk1 hp1
 clear hk1 hp1 HC0 HG
 have ck:=HI1.out.cells.1
 cases hx:(bothG ex [46,46] r).val with
 | none=>
   have HNx:Hid (Calls Tryz.prog 114 #[Φ (some ⟨b,0,none⟩),Ψ ⟨#[46,46]⟩] (w1.alloc (Δ #[I J kd,Ψ ⟨#[]⟩,Γ none 0 0,I J (t.pl:Int)] 67)) fun e w'=>∃ v,e = .panicked [{ v:=.iface 32 v,recovered:=false }] /\ Kp b (w1.alloc (Δ #[I J kd,Ψ ⟨#[]⟩,Γ none 0 0,I J (t.pl:Int)] 67)) w' /\ PAt b ta tn tc T (bothG ex [46,46] r).rest (70,plOf (bothG ex [46,46] r).rest) w'):=calls_no (HB ⟨#[46,46]⟩ r f _ HI1.out.p hl) hx
   have HEq:Hid (Z.val = none /\ Z.rest = (bothG ex [46,46] r).rest):=eqv_none HQ1.out hx
   clear hx HQ1 HB
   go_wp2_with fail
   refine HNx.out.mono ?_
   rintro e w9 ⟨v,rfl,hk9,hp9⟩
   exact ⟨rfl,HZ.out _ _ _ HEq.out (HI1.out.kp.trans hk9) hp9⟩
 | some F=>
   have HNx:Hid (Calls Tryz.prog 114 #[Φ (some ⟨b,0,none⟩),Ψ ⟨#[46,46]⟩] (w1.alloc (Δ #[I J kd,Ψ ⟨#[]⟩,Γ none 0 0,I J (t.pl:Int)] 67)) fun e w'=>∃ ka kn kc,e = Ω (Γ ka kn kc) /\ (kn <= maxLen /\ FoAt true (fun g=>((w1.alloc (Δ #[I J kd,Ψ ⟨#[]⟩,Γ none 0 0,I J (t.pl:Int)] 67))).heap.size <= g) w' F ka kn) /\ Kp b (w1.alloc (Δ #[I J kd,Ψ ⟨#[]⟩,Γ none 0 0,I J (t.pl:Int)] 67)) w' /\ PAt b ta tn tc T (bothG ex [46,46] r).rest (flt (bothG ex [46,46] r).many f) w'):=by
    refine (calls_ok (HB ⟨#[46,46]⟩ r f _ HI1.out.p hl) hx).mono ?_
    rintro e w' ⟨v,he,⟨ka,kn,kc,hv,hE⟩,hK,hP⟩
    exact ⟨ka,kn,kc,by rw [he,hv],hE,hK,hP⟩
   have HQ5:Hid (Eqv Z ((signG [59] (bothG ex [46,46] r).rest).bind fun _ l2=>pure' (([]:List UInt8),F) l2) f (flt (bothG ex [46,46] r).many f)):=eqv_some HQ1.out hx
   clear hx HQ1 HB
   generalize (bothG ex [46,46] r).rest = l5 at *
   generalize flt (bothG ex [46,46] r).many f = f5 at *
   go_wp2_with fail
   refine HNx.out.mono ?_
   rintro e w5 ⟨ka,kn,kc,rfl,⟨hn5,hE5⟩,hk5,hp5⟩
   have HI5:Hid (IL b ta tn tc T w w1.heap.size kd [] none 0 0 (t.pl:Int) .nil l5 f5 w5):=HI1.out.go hk5 hp5
   have HF5:Hid (FoAt true (fun g=>w.heap.size <= g /\ g ≠ w.heap.size /\ g ≠ w1.heap.size) w5 F ka kn):=by
    have h1:=HI1.out.n3
    have h2:=HI1.out.size
    refine hE5.base fun g _ hg=>?_
    have h4:((w1.alloc (Δ #[I J kd,Ψ ⟨#[]⟩,Γ none 0 0,I J (t.pl:Int)] 67))).heap.size <= g:=hg
    exact ⟨by omega,by omega,by omega⟩
   have d2:=HI5.out.cells.2.2.1
   have df:=fun i=>HI5.out.cells.2.2.2.2 i
   have HI6:Hid (IL b ta tn tc T w w1.heap.size kd [] ka kn kc (t.pl:Int) F l5 f5 (w5.setCell ⟨w1.heap.size,2,none⟩ (Γ ka kn kc))):=HI5.out.setArgs hn5 HF5.out
   clear hE5 hk5 hp5 HNx HI1
   cases hx9:(signG [59] l5).val with
   | none=>
     have HNs:Hid (Calls Tryz.prog 111 #[Φ (some ⟨b,0,none⟩),Ψ ⟨#[59]⟩] (w5.setCell ⟨w1.heap.size,2,none⟩ (Γ ka kn kc)) fun e w'=>∃ v,e = .panicked [{ v:=.iface 32 v,recovered:=false }] /\ Kp b (w5.setCell ⟨w1.heap.size,2,none⟩ (Γ ka kn kc)) w' /\ PAt b ta tn tc T (signG [59] l5).rest (70,plOf (signG [59] l5).rest) w'):=calls_no (signP_calls _ ⟨#[59]⟩ HI6.out.p) hx9
     have HEq:Hid (Z.val = none /\ Z.rest = (signG [59] l5).rest):=eqv_none HQ5.out hx9
     clear hx9 HQ5
     go_wp2_with fail
     refine HNs.out.mono ?_
     rintro e w9 ⟨v,rfl,hk9,hp9⟩
     exact ⟨rfl,HZ.out _ _ _ HEq.out (HI6.out.kp.trans hk9) hp9⟩
   | some u9=>
     have HNs:Hid (Calls Tryz.prog 111 #[Φ (some ⟨b,0,none⟩),Ψ ⟨#[59]⟩] (w5.setCell ⟨w1.heap.size,2,none⟩ (Γ ka kn kc)) fun e w'=>e = Ω (.tuple #[]) /\ Kp b (w5.setCell ⟨w1.heap.size,2,none⟩ (Γ ka kn kc)) w' /\ PAt b ta tn tc T (signG [59] l5).rest f5 w'):=sign_ok (s:=⟨#[59]⟩) HI6.out.p hx9
     have HY:Hid (Eqv Z (pure' ([],F) (signG [59] l5).rest) f f5):=by
      have:=eqv_some HQ5.out hx9
      rw [sign_many,flt_nil] at this; exact this
     clear hx9 HQ5
     generalize (signG [59] l5).rest = l9 at *
     go_wp2_with fail
     refine HNs.out.mono ?_
     rintro e w9 ⟨rfl,hk9,hp9⟩
     have HI9:Hid (IL b ta tn tc T w w1.heap.size kd [] ka kn kc (t.pl:Int) (F) l9 f5 w9):=HI6.out.go hk9 hp9
     clear hk9 hp9 HNs
     obtain ⟨c0,c1,c2,c3,cf⟩:=HI9.out.cells
     obtain ⟨z0,z1,z2,z3,zf⟩:=HI9.out.zeros
     have hne:¬ w.heap.size = w1.heap.size:=by have:=HI9.out.n3; omega
     have HD:Hid _:=HI9.out.done HKd.out.1 (by simp) HKd.out.2 rfl
     clear HI9
     go_wp2
     refine bodyPost_ret (v:=.agg #[I J kd,Ψ (bs []),Γ ka kn kc,I J (t.pl:Int)]) ?_ rfl ?_
     ·simp only [results,hres]
      go_simp
      try rfl
     ·refine ⟨HD.out.1,.inl ⟨⟨kd,[],F,(t.pl:Int)⟩,_,by rw [HE.out.1,HY.out.1]; rfl,rfl,HD.out.2.2,?_⟩⟩
      rw [HE.out.2.1,HE.out.2.2,HY.out.2.1,HY.out.2.2]
      exact (flt_nil f5).symm ▸ HD.out.2.1
theorem item_two5 {b:Nat} {ta:Option Addr} {tn tc:Nat} {T:List Tk} {n:Nat} {ex:List Tk -> Rs Ex} {f:Int × Int} (w:World) {t:Tk} {r:List Tk} (h:PAt b ta tn tc T (t :: r) f w) (hl:r.length <= n)
 (HB:∀ (s:ByteArray) l f w,PAt b ta tn tc T l f w -> l.length <= n -> Calls Tryz.prog 114 #[Φ (some ⟨b,0,none⟩),Ψ s] w (PPost b ta tn tc T f (bothG ex s.data.toList l) (VFo w.heap.size) w)) (hk:t.kind = 4) (hi:itemKindB t.text ≠ 0) (hkd:itemKindB t.text = 5) :
 Calls Tryz.prog 76 #[Φ (some ⟨b,0,none⟩)] w (PPost b ta tn tc T f (itemG ex (t :: r)) (VIt w.heap.size) w):=by
 have hres:Tryz.f76.results = #[.cell 2 67]:=by kernel_rfl
 have HC0:Hid (PAt b ta tn tc T (t :: r) f (w.alloc (Δ zeroI 67))):=h.below ((Below.refl _ _).alloc (Nat.le_refl _) _)
 have HG:Hid (∀ W,PAt b ta tn tc T (t :: r) f W -> Calls Tryz.prog 109 #[Φ (some ⟨b,0,none⟩)] W fun e w'=>e = Ω (.agg #[I J (itemKindB t.text),Ψ ⟨#[]⟩,Γ none 0 0,I J (t.pl:Int)]) /\ Kp b W w' /\ PAt b ta tn tc T r f w'):=fun W hW=>begin_ok W hW hk hi
 have HO:Hid (TkOk t):=pl_le h
 have hnb:=h.lt
 have HE0:=item_eq (ex:=ex) (t:=t) (r:=r) hk hi
 have HR0:=kind_range t.text
 generalize itemG ex (t :: r) = X at *
 clear hk hi h
 generalize itemKindB t.text = kd at *
 obtain ⟨Z,hQ,HE1⟩:∃ Z:Rs (List UInt8 × Fo),Eqv Z (closeG [59] (bodyG ex kd r)) f f /\ X = Z.map fun b=>⟨kd,b.1,b.2,t.pl⟩:=⟨_,eqv_refl _ _,HE0⟩
 have HQ:=hid hQ
 clear hQ
 have HE:Hid (X.val = (Z.val.map fun (q:List UInt8 × Fo)=>(⟨kd,q.1,q.2,(t.pl:Int)⟩:It)) /\ X.rest = Z.rest /\ X.many = Z.many):=by rw [HE1]; exact ⟨rfl,rfl,rfl⟩
 clear HE0 HE1
 have HKd:Hid (InR kd /\ InR (t.pl:Int)):=by
  have:=HO.out.pl
  unfold InR
  exact ⟨by omega,by omega⟩
 have HZ:Hid (∀ v w' l',Z.val = none /\ Z.rest = l' -> Kp b w w' -> PAt b ta tn tc T l' (70,plOf l') w' -> PPost b ta tn tc T f X (VIt w.heap.size) w (.panicked [{ v:=.iface 32 v,recovered:=false }]) w'):=fun v w' l' h1 h3 h4=>⟨h3,.inr ⟨by rw [HE.out.1,h1.1]; rfl,⟨v,rfl⟩,by rw [HE.out.2.1,h1.2]; exact h4⟩⟩
 have q1:(kd == 1) = false:=by rw [beq_eq_false_iff_ne]; omega
 have q7:(kd == 7) = false:=by rw [beq_eq_false_iff_ne]; omega
 have q8:(kd == 8) = false:=by rw [beq_eq_false_iff_ne]; omega
 have q5:(kd == 5) = true:=by rw [hkd]; decide
 have HQ1:Hid (Eqv Z ((bothG ex [44] r).bind fun F l1=>(signG [59] l1).bind fun _ l2=>pure' (([]:List UInt8),F) l2) f f):=by
  have h1:=HQ.out
  rw [bodyG,if_neg (by omega),if_neg (by omega),if_neg (by omega),if_pos (by omega),close_bind] at h1
  exact h1
 clear hkd HQ
 go_enter Tryz.func76,Tryz.ntmps76
 go_wp2_with fail
 refine (HG.out _ HC0.out).mono ?_
 rintro e w1 ⟨rfl,hk1,hp1⟩
 have HI1:Hid (IL b ta tn tc T w w1.heap.size kd [] none 0 0 (t.pl:Int) .nil r f (w1.alloc (Δ #[I J kd,Ψ ⟨#[]⟩,Γ none 0 0,I J (t.pl:Int)] 67))):=IL.start hnb hk1 hp1
 clear hk1 hp1 HC0 HG
 have ck:=HI1.out.cells.1
 cases hx:(bothG ex [44] r).val with
 | none=>
   have HNx:Hid (Calls Tryz.prog 114 #[Φ (some ⟨b,0,none⟩),Ψ ⟨#[44]⟩] (w1.alloc (Δ #[I J kd,Ψ ⟨#[]⟩,Γ none 0 0,I J (t.pl:Int)] 67)) fun e w'=>∃ v,e = .panicked [{ v:=.iface 32 v,recovered:=false }] /\ Kp b (w1.alloc (Δ #[I J kd,Ψ ⟨#[]⟩,Γ none 0 0,I J (t.pl:Int)] 67)) w' /\ PAt b ta tn tc T (bothG ex [44] r).rest (70,plOf (bothG ex [44] r).rest) w'):=calls_no (HB ⟨#[44]⟩ r f _ HI1.out.p hl) hx
   have HEq:Hid (Z.val = none /\ Z.rest = (bothG ex [44] r).rest):=eqv_none HQ1.out hx
   clear hx HQ1 HB
   go_wp2_with fail
   refine HNx.out.mono ?_
   rintro e w9 ⟨v,rfl,hk9,hp9⟩
   exact ⟨rfl,HZ.out _ _ _ HEq.out (HI1.out.kp.trans hk9) hp9⟩
 | some F=>
   have HNx:Hid (Calls Tryz.prog 114 #[Φ (some ⟨b,0,none⟩),Ψ ⟨#[44]⟩] (w1.alloc (Δ #[I J kd,Ψ ⟨#[]⟩,Γ none 0 0,I J (t.pl:Int)] 67)) fun e w'=>∃ ka kn kc,e = Ω (Γ ka kn kc) /\ (kn <= maxLen /\ FoAt true (fun g=>((w1.alloc (Δ #[I J kd,Ψ ⟨#[]⟩,Γ none 0 0,I J (t.pl:Int)] 67))).heap.size <= g) w' F ka kn) /\ Kp b (w1.alloc (Δ #[I J kd,Ψ ⟨#[]⟩,Γ none 0 0,I J (t.pl:Int)] 67)) w' /\ PAt b ta tn tc T (bothG ex [44] r).rest (flt (bothG ex [44] r).many f) w'):=by
    refine (calls_ok (HB ⟨#[44]⟩ r f _ HI1.out.p hl) hx).mono ?_
    rintro e w' ⟨v,he,⟨ka,kn,kc,hv,hE⟩,hK,hP⟩
    exact ⟨ka,kn,kc,by rw [he,hv],hE,hK,hP⟩
   have HQ5:Hid (Eqv Z ((signG [59] (bothG ex [44] r).rest).bind fun _ l2=>pure' (([]:List UInt8),F) l2) f (flt (bothG ex [44] r).many f)):=eqv_some HQ1.out hx
   clear hx HQ1 HB
   generalize (bothG ex [44] r).rest = l5 at *
   generalize flt (bothG ex [44] r).many f = f5 at *
   go_wp2_with fail
   refine HNx.out.mono ?_
   rintro e w5 ⟨ka,kn,kc,rfl,⟨hn5,hE5⟩,hk5,hp5⟩
   have HI5:Hid (IL b ta tn tc T w w1.heap.size kd [] none 0 0 (t.pl:Int) .nil l5 f5 w5):=HI1.out.go hk5 hp5
   have HF5:Hid (FoAt true (fun g=>w.heap.size <= g /\ g ≠ w.heap.size /\ g ≠ w1.heap.size) w5 F ka kn):=by
    have h1:=HI1.out.n3
    have h2:=HI1.out.size
    refine hE5.base fun g _ hg=>?_
    have h4:((w1.alloc (Δ #[I J kd,Ψ ⟨#[]⟩,Γ none 0 0,I J (t.pl:Int)] 67))).heap.size <= g:=hg
    exact ⟨by omega,by omega,by omega⟩
   have d2:=HI5.out.cells.2.2.1
   have df:=fun i=>HI5.out.cells.2.2.2.2 i
   have HI6:Hid (IL b ta tn tc T w w1.heap.size kd [] ka kn kc (t.pl:Int) F l5 f5 (w5.setCell ⟨w1.heap.size,2,none⟩ (Γ ka kn kc))):=HI5.out.setArgs hn5 HF5.out
   clear hE5 hk5 hp5 HNx HI1
   cases hx9:(signG [59] l5).val with
   | none=>
     have HNs:Hid (Calls Tryz.prog 111 #[Φ (some ⟨b,0,none⟩),Ψ ⟨#[59]⟩] (w5.setCell ⟨w1.heap.size,2,none⟩ (Γ ka kn kc)) fun e w'=>∃ v,e = .panicked [{ v:=.iface 32 v,recovered:=false }] /\ Kp b (w5.setCell ⟨w1.heap.size,2,none⟩ (Γ ka kn kc)) w' /\ PAt b ta tn tc T (signG [59] l5).rest (70,plOf (signG [59] l5).rest) w'):=calls_no (signP_calls _ ⟨#[59]⟩ HI6.out.p) hx9
     have HEq:Hid (Z.val = none /\ Z.rest = (signG [59] l5).rest):=eqv_none HQ5.out hx9
     clear hx9 HQ5
     go_wp2_with fail
     refine HNs.out.mono ?_
     rintro e w9 ⟨v,rfl,hk9,hp9⟩
     exact ⟨rfl,HZ.out _ _ _ HEq.out (HI6.out.kp.trans hk9) hp9⟩
   | some u9=>
     have HNs:Hid (Calls Tryz.prog 111 #[Φ (some ⟨b,0,none⟩),Ψ ⟨#[59]⟩] (w5.setCell ⟨w1.heap.size,2,none⟩ (Γ ka kn kc)) fun e w'=>e = Ω (.tuple #[]) /\ Kp b (w5.setCell ⟨w1.heap.size,2,none⟩ (Γ ka kn kc)) w' /\ PAt b ta tn tc T (signG [59] l5).rest f5 w'):=sign_ok (s:=⟨#[59]⟩) HI6.out.p hx9
     have HY:Hid (Eqv Z (pure' ([],F) (signG [59] l5).rest) f f5):=by
      have:=eqv_some HQ5.out hx9
      rw [sign_many,flt_nil] at this; exact this
     clear hx9 HQ5
     generalize (signG [59] l5).rest = l9 at *
     go_wp2_with fail
     refine HNs.out.mono ?_
     rintro e w9 ⟨rfl,hk9,hp9⟩
     have HI9:Hid (IL b ta tn tc T w w1.heap.size kd [] ka kn kc (t.pl:Int) (F) l9 f5 w9):=HI6.out.go hk9 hp9
     clear hk9 hp9 HNs
     obtain ⟨c0,c1,c2,c3,cf⟩:=HI9.out.cells
     obtain ⟨z0,z1,z2,z3,zf⟩:=HI9.out.zeros
     have hne:¬ w.heap.size = w1.heap.size:=by have:=HI9.out.n3; omega
     have HD:Hid _:=HI9.out.done HKd.out.1 (by simp) HKd.out.2 rfl
     clear HI9
     go_wp2
     refine bodyPost_ret (v:=.agg #[I J kd,Ψ (bs []),Γ ka kn kc,I J (t.pl:Int)]) ?_ rfl ?_
     ·simp only [results,hres]
      go_simp
      try rfl
     ·refine ⟨HD.out.1,.inl ⟨⟨kd,[],F,(t.pl:Int)⟩,_,by rw [HE.out.1,HY.out.1]; rfl,rfl,HD.out.2.2,?_⟩⟩
      rw [HE.out.2.1,HE.out.2.2,HY.out.2.1,HY.out.2.2]
      exact (flt_nil f5).symm ▸ HD.out.2.1
theorem item_two6 {b:Nat} {ta:Option Addr} {tn tc:Nat} {T:List Tk} {n:Nat} {ex:List Tk -> Rs Ex} {f:Int × Int} (w:World) {t:Tk} {r:List Tk} (h:PAt b ta tn tc T (t :: r) f w) (hl:r.length <= n)
 (HB:∀ (s:ByteArray) l f w,PAt b ta tn tc T l f w -> l.length <= n -> Calls Tryz.prog 114 #[Φ (some ⟨b,0,none⟩),Ψ s] w (PPost b ta tn tc T f (bothG ex s.data.toList l) (VFo w.heap.size) w)) (hk:t.kind = 4) (hi:itemKindB t.text ≠ 0) (hkd:itemKindB t.text = 6) :
 Calls Tryz.prog 76 #[Φ (some ⟨b,0,none⟩)] w (PPost b ta tn tc T f (itemG ex (t :: r)) (VIt w.heap.size) w):=by
 have hres:Tryz.f76.results = #[.cell 2 67]:=by kernel_rfl
 have HC0:Hid (PAt b ta tn tc T (t :: r) f (w.alloc (Δ zeroI 67))):=h.below ((Below.refl _ _).alloc (Nat.le_refl _) _)
 have HG:Hid (∀ W,PAt b ta tn tc T (t :: r) f W -> Calls Tryz.prog 109 #[Φ (some ⟨b,0,none⟩)] W fun e w'=>e = Ω (.agg #[I J (itemKindB t.text),Ψ ⟨#[]⟩,Γ none 0 0,I J (t.pl:Int)]) /\ Kp b W w' /\ PAt b ta tn tc T r f w'):=fun W hW=>begin_ok W hW hk hi
 have HO:Hid (TkOk t):=pl_le h
 have hnb:=h.lt
 have HE0:=item_eq (ex:=ex) (t:=t) (r:=r) hk hi
 have HR0:=kind_range t.text
 generalize itemG ex (t :: r) = X at *
 clear hk hi h
 generalize itemKindB t.text = kd at *
 obtain ⟨Z,hQ,HE1⟩:∃ Z:Rs (List UInt8 × Fo),Eqv Z (closeG [59] (bodyG ex kd r)) f f /\ X = Z.map fun b=>⟨kd,b.1,b.2,t.pl⟩:=⟨_,eqv_refl _ _,HE0⟩
 have HQ:=hid hQ
 clear hQ
 have HE:Hid (X.val = (Z.val.map fun (q:List UInt8 × Fo)=>(⟨kd,q.1,q.2,(t.pl:Int)⟩:It)) /\ X.rest = Z.rest /\ X.many = Z.many):=by rw [HE1]; exact ⟨rfl,rfl,rfl⟩
 clear HE0 HE1
 have HKd:Hid (InR kd /\ InR (t.pl:Int)):=by
  have:=HO.out.pl
  unfold InR
  exact ⟨by omega,by omega⟩
 have HZ:Hid (∀ v w' l',Z.val = none /\ Z.rest = l' -> Kp b w w' -> PAt b ta tn tc T l' (70,plOf l') w' -> PPost b ta tn tc T f X (VIt w.heap.size) w (.panicked [{ v:=.iface 32 v,recovered:=false }]) w'):=fun v w' l' h1 h3 h4=>⟨h3,.inr ⟨by rw [HE.out.1,h1.1]; rfl,⟨v,rfl⟩,by rw [HE.out.2.1,h1.2]; exact h4⟩⟩
 have q1:(kd == 1) = false:=by rw [beq_eq_false_iff_ne]; omega
 have q7:(kd == 7) = false:=by rw [beq_eq_false_iff_ne]; omega
 have q8:(kd == 8) = false:=by rw [beq_eq_false_iff_ne]; omega
 have q5:(kd == 5) = false:=by rw [beq_eq_false_iff_ne]; omega
 have q6:(kd == 6) = true:=by rw [hkd]; decide
 have HQ1:Hid (Eqv Z ((bothG ex [44] r).bind fun F l1=>(signG [59] l1).bind fun _ l2=>pure' (([]:List UInt8),F) l2) f f):=by
  have h1:=HQ.out
  rw [bodyG,if_neg (by omega),if_neg (by omega),if_neg (by omega),if_pos (by omega),close_bind] at h1
  exact h1
 clear hkd HQ
 go_enter Tryz.func76,Tryz.ntmps76
 go_wp2_with fail
 refine (HG.out _ HC0.out).mono ?_
 rintro e w1 ⟨rfl,hk1,hp1⟩
 have HI1:Hid (IL b ta tn tc T w w1.heap.size kd [] none 0 0 (t.pl:Int) .nil r f (w1.alloc (Δ #[I J kd,Ψ ⟨#[]⟩,Γ none 0 0,I J (t.pl:Int)] 67))):=IL.start hnb hk1 hp1
 clear hk1 hp1 HC0 HG
 have ck:=HI1.out.cells.1
 cases hx:(bothG ex [44] r).val with
 | none=>
   have HNx:Hid (Calls Tryz.prog 114 #[Φ (some ⟨b,0,none⟩),Ψ ⟨#[44]⟩] (w1.alloc (Δ #[I J kd,Ψ ⟨#[]⟩,Γ none 0 0,I J (t.pl:Int)] 67)) fun e w'=>∃ v,e = .panicked [{ v:=.iface 32 v,recovered:=false }] /\ Kp b (w1.alloc (Δ #[I J kd,Ψ ⟨#[]⟩,Γ none 0 0,I J (t.pl:Int)] 67)) w' /\ PAt b ta tn tc T (bothG ex [44] r).rest (70,plOf (bothG ex [44] r).rest) w'):=calls_no (HB ⟨#[44]⟩ r f _ HI1.out.p hl) hx
   have HEq:Hid (Z.val = none /\ Z.rest = (bothG ex [44] r).rest):=eqv_none HQ1.out hx
   clear hx HQ1 HB
   go_wp2_with fail
   refine HNx.out.mono ?_
   rintro e w9 ⟨v,rfl,hk9,hp9⟩
   exact ⟨rfl,HZ.out _ _ _ HEq.out (HI1.out.kp.trans hk9) hp9⟩
 | some F=>
   have HNx:Hid (Calls Tryz.prog 114 #[Φ (some ⟨b,0,none⟩),Ψ ⟨#[44]⟩] (w1.alloc (Δ #[I J kd,Ψ ⟨#[]⟩,Γ none 0 0,I J (t.pl:Int)] 67)) fun e w'=>∃ ka kn kc,e = Ω (Γ ka kn kc) /\ (kn <= maxLen /\ FoAt true (fun g=>((w1.alloc (Δ #[I J kd,Ψ ⟨#[]⟩,Γ none 0 0,I J (t.pl:Int)] 67))).heap.size <= g) w' F ka kn) /\ Kp b (w1.alloc (Δ #[I J kd,Ψ ⟨#[]⟩,Γ none 0 0,I J (t.pl:Int)] 67)) w' /\ PAt b ta tn tc T (bothG ex [44] r).rest (flt (bothG ex [44] r).many f) w'):=by
    refine (calls_ok (HB ⟨#[44]⟩ r f _ HI1.out.p hl) hx).mono ?_
    rintro e w' ⟨v,he,⟨ka,kn,kc,hv,hE⟩,hK,hP⟩
    exact ⟨ka,kn,kc,by rw [he,hv],hE,hK,hP⟩
   have HQ5:Hid (Eqv Z ((signG [59] (bothG ex [44] r).rest).bind fun _ l2=>pure' (([]:List UInt8),F) l2) f (flt (bothG ex [44] r).many f)):=eqv_some HQ1.out hx
   clear hx HQ1 HB
   generalize (bothG ex [44] r).rest = l5 at *
   generalize flt (bothG ex [44] r).many f = f5 at *
   go_wp2_with fail
   refine HNx.out.mono ?_
   rintro e w5 ⟨ka,kn,kc,rfl,⟨hn5,hE5⟩,hk5,hp5⟩
   have HI5:Hid (IL b ta tn tc T w w1.heap.size kd [] none 0 0 (t.pl:Int) .nil l5 f5 w5):=HI1.out.go hk5 hp5
   have HF5:Hid (FoAt true (fun g=>w.heap.size <= g /\ g ≠ w.heap.size /\ g ≠ w1.heap.size) w5 F ka kn):=by
    have h1:=HI1.out.n3
    have h2:=HI1.out.size
    refine hE5.base fun g _ hg=>?_
    have h4:((w1.alloc (Δ #[I J kd,Ψ ⟨#[]⟩,Γ none 0 0,I J (t.pl:Int)] 67))).heap.size <= g:=hg
    exact ⟨by omega,by omega,by omega⟩
   have d2:=HI5.out.cells.2.2.1
   have df:=fun i=>HI5.out.cells.2.2.2.2 i
   have HI6:Hid (IL b ta tn tc T w w1.heap.size kd [] ka kn kc (t.pl:Int) F l5 f5 (w5.setCell ⟨w1.heap.size,2,none⟩ (Γ ka kn kc))):=HI5.out.setArgs hn5 HF5.out
   clear hE5 hk5 hp5 HNx HI1
   cases hx9:(signG [59] l5).val with
   | none=>
     have HNs:Hid (Calls Tryz.prog 111 #[Φ (some ⟨b,0,none⟩),Ψ ⟨#[59]⟩] (w5.setCell ⟨w1.heap.size,2,none⟩ (Γ ka kn kc)) fun e w'=>∃ v,e = .panicked [{ v:=.iface 32 v,recovered:=false }] /\ Kp b (w5.setCell ⟨w1.heap.size,2,none⟩ (Γ ka kn kc)) w' /\ PAt b ta tn tc T (signG [59] l5).rest (70,plOf (signG [59] l5).rest) w'):=calls_no (signP_calls _ ⟨#[59]⟩ HI6.out.p) hx9
     have HEq:Hid (Z.val = none /\ Z.rest = (signG [59] l5).rest):=eqv_none HQ5.out hx9
     clear hx9 HQ5
     go_wp2_with fail
     refine HNs.out.mono ?_
     rintro e w9 ⟨v,rfl,hk9,hp9⟩
     exact ⟨rfl,HZ.out _ _ _ HEq.out (HI6.out.kp.trans hk9) hp9⟩
   | some u9=>
     have HNs:Hid (Calls Tryz.prog 111 #[Φ (some ⟨b,0,none⟩),Ψ ⟨#[59]⟩] (w5.setCell ⟨w1.heap.size,2,none⟩ (Γ ka kn kc)) fun e w'=>e = Ω (.tuple #[]) /\ Kp b (w5.setCell ⟨w1.heap.size,2,none⟩ (Γ ka kn kc)) w' /\ PAt b ta tn tc T (signG [59] l5).rest f5 w'):=sign_ok (s:=⟨#[59]⟩) HI6.out.p hx9
     have HY:Hid (Eqv Z (pure' ([],F) (signG [59] l5).rest) f f5):=by
      have:=eqv_some HQ5.out hx9
      rw [sign_many,flt_nil] at this; exact this
     clear hx9 HQ5
     generalize (signG [59] l5).rest = l9 at *
     go_wp2_with fail
     refine HNs.out.mono ?_
     rintro e w9 ⟨rfl,hk9,hp9⟩
     have HI9:Hid (IL b ta tn tc T w w1.heap.size kd [] ka kn kc (t.pl:Int) (F) l9 f5 w9):=HI6.out.go hk9 hp9
     clear hk9 hp9 HNs
     obtain ⟨c0,c1,c2,c3,cf⟩:=HI9.out.cells
     obtain ⟨z0,z1,z2,z3,zf⟩:=HI9.out.zeros
     have hne:¬ w.heap.size = w1.heap.size:=by have:=HI9.out.n3; omega
     have HD:Hid _:=HI9.out.done HKd.out.1 (by simp) HKd.out.2 rfl
     clear HI9
     go_wp2
     refine bodyPost_ret (v:=.agg #[I J kd,Ψ (bs []),Γ ka kn kc,I J (t.pl:Int)]) ?_ rfl ?_
     ·simp only [results,hres]
      go_simp
      try rfl
     ·refine ⟨HD.out.1,.inl ⟨⟨kd,[],F,(t.pl:Int)⟩,_,by rw [HE.out.1,HY.out.1]; rfl,rfl,HD.out.2.2,?_⟩⟩
      rw [HE.out.2.1,HE.out.2.2,HY.out.2.1,HY.out.2.2]
      exact (flt_nil f5).symm ▸ HD.out.2.1
theorem item_two9 {b:Nat} {ta:Option Addr} {tn tc:Nat} {T:List Tk} {n:Nat} {ex:List Tk -> Rs Ex} {f:Int × Int} (w:World) {t:Tk} {r:List Tk} (h:PAt b ta tn tc T (t :: r) f w) (hl:r.length <= n)
 (HB:∀ (s:ByteArray) l f w,PAt b ta tn tc T l f w -> l.length <= n -> Calls Tryz.prog 114 #[Φ (some ⟨b,0,none⟩),Ψ s] w (PPost b ta tn tc T f (bothG ex s.data.toList l) (VFo w.heap.size) w)) (hk:t.kind = 4) (hi:itemKindB t.text ≠ 0) (hkd:itemKindB t.text = 9) :
 Calls Tryz.prog 76 #[Φ (some ⟨b,0,none⟩)] w (PPost b ta tn tc T f (itemG ex (t :: r)) (VIt w.heap.size) w):=by
 have hres:Tryz.f76.results = #[.cell 2 67]:=by kernel_rfl
 have HC0:Hid (PAt b ta tn tc T (t :: r) f (w.alloc (Δ zeroI 67))):=h.below ((Below.refl _ _).alloc (Nat.le_refl _) _)
 have HG:Hid (∀ W,PAt b ta tn tc T (t :: r) f W -> Calls Tryz.prog 109 #[Φ (some ⟨b,0,none⟩)] W fun e w'=>e = Ω (.agg #[I J (itemKindB t.text),Ψ ⟨#[]⟩,Γ none 0 0,I J (t.pl:Int)]) /\ Kp b W w' /\ PAt b ta tn tc T r f w'):=fun W hW=>begin_ok W hW hk hi
 have HO:Hid (TkOk t):=pl_le h
 have hnb:=h.lt
 have HE0:=item_eq (ex:=ex) (t:=t) (r:=r) hk hi
 have HR0:=kind_range t.text
 generalize itemG ex (t :: r) = X at *
 clear hk hi h
 generalize itemKindB t.text = kd at *
 obtain ⟨Z,hQ,HE1⟩:∃ Z:Rs (List UInt8 × Fo),Eqv Z (closeG [59] (bodyG ex kd r)) f f /\ X = Z.map fun b=>⟨kd,b.1,b.2,t.pl⟩:=⟨_,eqv_refl _ _,HE0⟩
 have HQ:=hid hQ
 clear hQ
 have HE:Hid (X.val = (Z.val.map fun (q:List UInt8 × Fo)=>(⟨kd,q.1,q.2,(t.pl:Int)⟩:It)) /\ X.rest = Z.rest /\ X.many = Z.many):=by rw [HE1]; exact ⟨rfl,rfl,rfl⟩
 clear HE0 HE1
 have HKd:Hid (InR kd /\ InR (t.pl:Int)):=by
  have:=HO.out.pl
  unfold InR
  exact ⟨by omega,by omega⟩
 have HZ:Hid (∀ v w' l',Z.val = none /\ Z.rest = l' -> Kp b w w' -> PAt b ta tn tc T l' (70,plOf l') w' -> PPost b ta tn tc T f X (VIt w.heap.size) w (.panicked [{ v:=.iface 32 v,recovered:=false }]) w'):=fun v w' l' h1 h3 h4=>⟨h3,.inr ⟨by rw [HE.out.1,h1.1]; rfl,⟨v,rfl⟩,by rw [HE.out.2.1,h1.2]; exact h4⟩⟩
 have q1:(kd == 1) = false:=by rw [beq_eq_false_iff_ne]; omega
 have q7:(kd == 7) = false:=by rw [beq_eq_false_iff_ne]; omega
 have q8:(kd == 8) = false:=by rw [beq_eq_false_iff_ne]; omega
 have q5:(kd == 5) = false:=by rw [beq_eq_false_iff_ne]; omega
 have q6:(kd == 6) = false:=by rw [beq_eq_false_iff_ne]; omega
 have q9:(kd == 9) = true:=by rw [hkd]; decide
 have HQ1:Hid (Eqv Z ((bothG ex [44] r).bind fun F l1=>(signG [59] l1).bind fun _ l2=>pure' (([]:List UInt8),F) l2) f f):=by
  have h1:=HQ.out
  rw [bodyG,if_neg (by omega),if_neg (by omega),if_neg (by omega),if_pos (by omega),close_bind] at h1
  exact h1
 clear hkd HQ
 go_enter Tryz.func76,Tryz.ntmps76
 go_wp2_with fail
 refine (HG.out _ HC0.out).mono ?_
 rintro e w1 ⟨rfl,hk1,hp1⟩
 have HI1:Hid (IL b ta tn tc T w w1.heap.size kd [] none 0 0 (t.pl:Int) .nil r f (w1.alloc (Δ #[I J kd,Ψ ⟨#[]⟩,Γ none 0 0,I J (t.pl:Int)] 67))):=IL.start hnb hk1 hp1
 clear hk1 hp1 HC0 HG
 have ck:=HI1.out.cells.1
 cases hx:(bothG ex [44] r).val with
 | none=>
   have HNx:Hid (Calls Tryz.prog 114 #[Φ (some ⟨b,0,none⟩),Ψ ⟨#[44]⟩] (w1.alloc (Δ #[I J kd,Ψ ⟨#[]⟩,Γ none 0 0,I J (t.pl:Int)] 67)) fun e w'=>∃ v,e = .panicked [{ v:=.iface 32 v,recovered:=false }] /\ Kp b (w1.alloc (Δ #[I J kd,Ψ ⟨#[]⟩,Γ none 0 0,I J (t.pl:Int)] 67)) w' /\ PAt b ta tn tc T (bothG ex [44] r).rest (70,plOf (bothG ex [44] r).rest) w'):=calls_no (HB ⟨#[44]⟩ r f _ HI1.out.p hl) hx
   have HEq:Hid (Z.val = none /\ Z.rest = (bothG ex [44] r).rest):=eqv_none HQ1.out hx
   clear hx HQ1 HB
   go_wp2_with fail
   refine HNx.out.mono ?_
   rintro e w9 ⟨v,rfl,hk9,hp9⟩
   exact ⟨rfl,HZ.out _ _ _ HEq.out (HI1.out.kp.trans hk9) hp9⟩
 | some F=>
   have HNx:Hid (Calls Tryz.prog 114 #[Φ (some ⟨b,0,none⟩),Ψ ⟨#[44]⟩] (w1.alloc (Δ #[I J kd,Ψ ⟨#[]⟩,Γ none 0 0,I J (t.pl:Int)] 67)) fun e w'=>∃ ka kn kc,e = Ω (Γ ka kn kc) /\ (kn <= maxLen /\ FoAt true (fun g=>((w1.alloc (Δ #[I J kd,Ψ ⟨#[]⟩,Γ none 0 0,I J (t.pl:Int)] 67))).heap.size <= g) w' F ka kn) /\ Kp b (w1.alloc (Δ #[I J kd,Ψ ⟨#[]⟩,Γ none 0 0,I J (t.pl:Int)] 67)) w' /\ PAt b ta tn tc T (bothG ex [44] r).rest (flt (bothG ex [44] r).many f) w'):=by
    refine (calls_ok (HB ⟨#[44]⟩ r f _ HI1.out.p hl) hx).mono ?_
    rintro e w' ⟨v,he,⟨ka,kn,kc,hv,hE⟩,hK,hP⟩
    exact ⟨ka,kn,kc,by rw [he,hv],hE,hK,hP⟩
   have HQ5:Hid (Eqv Z ((signG [59] (bothG ex [44] r).rest).bind fun _ l2=>pure' (([]:List UInt8),F) l2) f (flt (bothG ex [44] r).many f)):=eqv_some HQ1.out hx
   clear hx HQ1 HB
   generalize (bothG ex [44] r).rest = l5 at *
   generalize flt (bothG ex [44] r).many f = f5 at *
   go_wp2_with fail
   refine HNx.out.mono ?_
   rintro e w5 ⟨ka,kn,kc,rfl,⟨hn5,hE5⟩,hk5,hp5⟩
   have HI5:Hid (IL b ta tn tc T w w1.heap.size kd [] none 0 0 (t.pl:Int) .nil l5 f5 w5):=HI1.out.go hk5 hp5
   have HF5:Hid (FoAt true (fun g=>w.heap.size <= g /\ g ≠ w.heap.size /\ g ≠ w1.heap.size) w5 F ka kn):=by
    have h1:=HI1.out.n3
    have h2:=HI1.out.size
    refine hE5.base fun g _ hg=>?_
    have h4:((w1.alloc (Δ #[I J kd,Ψ ⟨#[]⟩,Γ none 0 0,I J (t.pl:Int)] 67))).heap.size <= g:=hg
    exact ⟨by omega,by omega,by omega⟩
   have d2:=HI5.out.cells.2.2.1
   have df:=fun i=>HI5.out.cells.2.2.2.2 i
   have HI6:Hid (IL b ta tn tc T w w1.heap.size kd [] ka kn kc (t.pl:Int) F l5 f5 (w5.setCell ⟨w1.heap.size,2,none⟩ (Γ ka kn kc))):=HI5.out.setArgs hn5 HF5.out
   clear hE5 hk5 hp5 HNx HI1
   cases hx9:(signG [59] l5).val with
   | none=>
     have HNs:Hid (Calls Tryz.prog 111 #[Φ (some ⟨b,0,none⟩),Ψ ⟨#[59]⟩] (w5.setCell ⟨w1.heap.size,2,none⟩ (Γ ka kn kc)) fun e w'=>∃ v,e = .panicked [{ v:=.iface 32 v,recovered:=false }] /\ Kp b (w5.setCell ⟨w1.heap.size,2,none⟩ (Γ ka kn kc)) w' /\ PAt b ta tn tc T (signG [59] l5).rest (70,plOf (signG [59] l5).rest) w'):=calls_no (signP_calls _ ⟨#[59]⟩ HI6.out.p) hx9
     have HEq:Hid (Z.val = none /\ Z.rest = (signG [59] l5).rest):=eqv_none HQ5.out hx9
     clear hx9 HQ5
     go_wp2_with fail
     refine HNs.out.mono ?_
     rintro e w9 ⟨v,rfl,hk9,hp9⟩
     exact ⟨rfl,HZ.out _ _ _ HEq.out (HI6.out.kp.trans hk9) hp9⟩
   | some u9=>
     have HNs:Hid (Calls Tryz.prog 111 #[Φ (some ⟨b,0,none⟩),Ψ ⟨#[59]⟩] (w5.setCell ⟨w1.heap.size,2,none⟩ (Γ ka kn kc)) fun e w'=>e = Ω (.tuple #[]) /\ Kp b (w5.setCell ⟨w1.heap.size,2,none⟩ (Γ ka kn kc)) w' /\ PAt b ta tn tc T (signG [59] l5).rest f5 w'):=sign_ok (s:=⟨#[59]⟩) HI6.out.p hx9
     have HY:Hid (Eqv Z (pure' ([],F) (signG [59] l5).rest) f f5):=by
      have:=eqv_some HQ5.out hx9
      rw [sign_many,flt_nil] at this; exact this
     clear hx9 HQ5
     generalize (signG [59] l5).rest = l9 at *
     go_wp2_with fail
     refine HNs.out.mono ?_
     rintro e w9 ⟨rfl,hk9,hp9⟩
     have HI9:Hid (IL b ta tn tc T w w1.heap.size kd [] ka kn kc (t.pl:Int) (F) l9 f5 w9):=HI6.out.go hk9 hp9
     clear hk9 hp9 HNs
     obtain ⟨c0,c1,c2,c3,cf⟩:=HI9.out.cells
     obtain ⟨z0,z1,z2,z3,zf⟩:=HI9.out.zeros
     have hne:¬ w.heap.size = w1.heap.size:=by have:=HI9.out.n3; omega
     have HD:Hid _:=HI9.out.done HKd.out.1 (by simp) HKd.out.2 rfl
     clear HI9
     go_wp2
     refine bodyPost_ret (v:=.agg #[I J kd,Ψ (bs []),Γ ka kn kc,I J (t.pl:Int)]) ?_ rfl ?_
     ·simp only [results,hres]
      go_simp
      try rfl
     ·refine ⟨HD.out.1,.inl ⟨⟨kd,[],F,(t.pl:Int)⟩,_,by rw [HE.out.1,HY.out.1]; rfl,rfl,HD.out.2.2,?_⟩⟩
      rw [HE.out.2.1,HE.out.2.2,HY.out.2.1,HY.out.2.2]
      exact (flt_nil f5).symm ▸ HD.out.2.1
theorem item_mode {b:Nat} {ta:Option Addr} {tn tc:Nat} {T:List Tk} {ex:List Tk -> Rs Ex} {f:Int × Int} (w:World) {t:Tk} {r:List Tk} (h:PAt b ta tn tc T (t :: r) f w)
 (hk:t.kind = 4) (hi:itemKindB t.text ≠ 0) (hkd:itemKindB t.text = 7) :
 Calls Tryz.prog 76 #[Φ (some ⟨b,0,none⟩)] w (PPost b ta tn tc T f (itemG ex (t :: r)) (VIt w.heap.size) w):=by
 have hres:Tryz.f76.results = #[.cell 2 67]:=by kernel_rfl
 have HC0:Hid (PAt b ta tn tc T (t :: r) f (w.alloc (Δ zeroI 67))):=h.below ((Below.refl _ _).alloc (Nat.le_refl _) _)
 have HG:Hid (∀ W,PAt b ta tn tc T (t :: r) f W -> Calls Tryz.prog 109 #[Φ (some ⟨b,0,none⟩)] W fun e w'=>e = Ω (.agg #[I J (itemKindB t.text),Ψ ⟨#[]⟩,Γ none 0 0,I J (t.pl:Int)]) /\ Kp b W w' /\ PAt b ta tn tc T r f w'):=fun W hW=>begin_ok W hW hk hi
 have HO:Hid (TkOk t):=pl_le h
 have hnb:=h.lt
 have HE0:=item_eq (ex:=ex) (t:=t) (r:=r) hk hi
 have HR0:=kind_range t.text
 generalize itemG ex (t :: r) = X at *
 clear hk hi h
 generalize itemKindB t.text = kd at *
 obtain ⟨Z,hQ,HE1⟩:∃ Z:Rs (List UInt8 × Fo),Eqv Z (closeG [59] (bodyG ex kd r)) f f /\ X = Z.map fun b=>⟨kd,b.1,b.2,t.pl⟩:=⟨_,eqv_refl _ _,HE0⟩
 have HQ:=hid hQ
 clear hQ
 have HE:Hid (X.val = (Z.val.map fun (q:List UInt8 × Fo)=>(⟨kd,q.1,q.2,(t.pl:Int)⟩:It)) /\ X.rest = Z.rest /\ X.many = Z.many):=by rw [HE1]; exact ⟨rfl,rfl,rfl⟩
 clear HE0 HE1
 have HKd:Hid (InR kd /\ InR (t.pl:Int)):=by
  have:=HO.out.pl
  unfold InR
  exact ⟨by omega,by omega⟩
 have HZ:Hid (∀ v w' l',Z.val = none /\ Z.rest = l' -> Kp b w w' -> PAt b ta tn tc T l' (70,plOf l') w' -> PPost b ta tn tc T f X (VIt w.heap.size) w (.panicked [{ v:=.iface 32 v,recovered:=false }]) w'):=fun v w' l' h1 h3 h4=>⟨h3,.inr ⟨by rw [HE.out.1,h1.1]; rfl,⟨v,rfl⟩,by rw [HE.out.2.1,h1.2]; exact h4⟩⟩
 have q1:(kd == 1) = false:=by rw [beq_eq_false_iff_ne]; omega
 have q7:(kd == 7) = true:=by rw [hkd]; decide
 have HQ1:Hid (Eqv Z ((wayG r).bind fun s l1=>(signG [59] l1).bind fun _ l2=>pure' (s,(BT.nil:Fo)) l2) f f):=by
  have h1:=HQ.out
  rw [bodyG,if_neg (by omega),if_pos hkd,close_bind] at h1
  exact h1
 clear hkd HQ
 go_enter Tryz.func76,Tryz.ntmps76
 go_wp2_with fail
 refine (HG.out _ HC0.out).mono ?_
 rintro e w1 ⟨rfl,hk1,hp1⟩
 have HI1:Hid (IL b ta tn tc T w w1.heap.size kd [] none 0 0 (t.pl:Int) .nil r f (w1.alloc (Δ #[I J kd,Ψ ⟨#[]⟩,Γ none 0 0,I J (t.pl:Int)] 67))):=IL.start hnb hk1 hp1
 clear hk1 hp1 HC0 HG
 have ck:=HI1.out.cells.1
 obtain ⟨t2,r2,rfl⟩:=HI1.out.p.here1
 have HO2:Hid (TkOk t2):=pl_le HI1.out.p
 cases hx:(wayG (t2 :: r2)).val with
 | none=>
   have HNx:Hid (Calls Tryz.prog 113 #[Φ (some ⟨b,0,none⟩)] (w1.alloc (Δ #[I J kd,Ψ ⟨#[]⟩,Γ none 0 0,I J (t.pl:Int)] 67)) fun e w'=>∃ v,e = .panicked [{ v:=.iface 32 v,recovered:=false }] /\ Kp b (w1.alloc (Δ #[I J kd,Ψ ⟨#[]⟩,Γ none 0 0,I J (t.pl:Int)] 67)) w' /\ PAt b ta tn tc T (wayG (t2 :: r2)).rest (70,plOf (wayG (t2 :: r2)).rest) w'):=calls_no (way_calls _ HI1.out.p) hx
   have HEq:Hid (Z.val = none /\ Z.rest = (wayG (t2 :: r2)).rest):=eqv_none HQ1.out hx
   clear hx HQ1
   go_wp2_with fail
   refine HNx.out.mono ?_
   rintro e w9 ⟨v,rfl,hk9,hp9⟩
   exact ⟨rfl,HZ.out _ _ _ HEq.out (HI1.out.kp.trans hk9) hp9⟩
 | some s=>
   have hsl:s.length <= maxLen:=by
    have h1:(if t2.kind = 4 /\ isWayB t2.text = true then pure' t2.text r2 else wrong' (t2 :: r2)).val = some s:=hx
    have h2:=HO2.out.text
    split at h1
    ·have:t2.text = s:=Option.some.inj h1
     rw [<- this]; unfold maxLen; omega
    ·cases h1
   have HNx:Hid (Calls Tryz.prog 113 #[Φ (some ⟨b,0,none⟩)] (w1.alloc (Δ #[I J kd,Ψ ⟨#[]⟩,Γ none 0 0,I J (t.pl:Int)] 67)) fun e w'=>e = Ω (Ψ (bs s)) /\ Kp b (w1.alloc (Δ #[I J kd,Ψ ⟨#[]⟩,Γ none 0 0,I J (t.pl:Int)] 67)) w' /\ PAt b ta tn tc T (wayG (t2 :: r2)).rest (flt (wayG (t2 :: r2)).many f) w'):=by
    refine (calls_ok (way_calls _ HI1.out.p) hx).mono ?_
    rintro e w' ⟨v,he,hv,hK,hP⟩
    exact ⟨by rw [he,show v = Ψ (bs s) from hv],hK,hP⟩
   have HQ5:Hid (Eqv Z ((signG [59] (wayG (t2 :: r2)).rest).bind fun _ l2=>pure' (s,(BT.nil:Fo)) l2) f (flt (wayG (t2 :: r2)).many f)):=eqv_some HQ1.out hx
   clear hx HQ1
   generalize (wayG (t2 :: r2)).rest = l5 at *
   generalize flt (wayG (t2 :: r2)).many f = f5 at *
   go_wp2_with fail
   refine HNx.out.mono ?_
   rintro e w5 ⟨rfl,hk5,hp5⟩
   have HI5:Hid (IL b ta tn tc T w w1.heap.size kd [] none 0 0 (t.pl:Int) .nil l5 f5 w5):=HI1.out.go hk5 hp5
   have d2:=HI5.out.cells.2.1
   have df:=fun i=>HI5.out.cells.2.2.2.2 i
   have HI6:Hid (IL b ta tn tc T w w1.heap.size kd s none 0 0 (t.pl:Int) .nil l5 f5 (w5.setCell ⟨w1.heap.size,1,none⟩ (Ψ (bs s)))):=HI5.out.setName s
   clear hk5 hp5 HNx HI1
   cases hx9:(signG [59] l5).val with
   | none=>
     have HNs:Hid (Calls Tryz.prog 111 #[Φ (some ⟨b,0,none⟩),Ψ ⟨#[59]⟩] (w5.setCell ⟨w1.heap.size,1,none⟩ (Ψ (bs s))) fun e w'=>∃ v,e = .panicked [{ v:=.iface 32 v,recovered:=false }] /\ Kp b (w5.setCell ⟨w1.heap.size,1,none⟩ (Ψ (bs s))) w' /\ PAt b ta tn tc T (signG [59] l5).rest (70,plOf (signG [59] l5).rest) w'):=calls_no (signP_calls _ ⟨#[59]⟩ HI6.out.p) hx9
     have HEq:Hid (Z.val = none /\ Z.rest = (signG [59] l5).rest):=eqv_none HQ5.out hx9
     clear hx9 HQ5
     go_wp2_with fail
     refine HNs.out.mono ?_
     rintro e w9 ⟨v,rfl,hk9,hp9⟩
     exact ⟨rfl,HZ.out _ _ _ HEq.out (HI6.out.kp.trans hk9) hp9⟩
   | some u9=>
     have HNs:Hid (Calls Tryz.prog 111 #[Φ (some ⟨b,0,none⟩),Ψ ⟨#[59]⟩] (w5.setCell ⟨w1.heap.size,1,none⟩ (Ψ (bs s))) fun e w'=>e = Ω (.tuple #[]) /\ Kp b (w5.setCell ⟨w1.heap.size,1,none⟩ (Ψ (bs s))) w' /\ PAt b ta tn tc T (signG [59] l5).rest f5 w'):=sign_ok (s:=⟨#[59]⟩) HI6.out.p hx9
     have HY:Hid (Eqv Z (pure' (s,(BT.nil:Fo)) (signG [59] l5).rest) f f5):=by
      have:=eqv_some HQ5.out hx9
      rw [sign_many,flt_nil] at this; exact this
     clear hx9 HQ5
     generalize (signG [59] l5).rest = l9 at *
     go_wp2_with fail
     refine HNs.out.mono ?_
     rintro e w9 ⟨rfl,hk9,hp9⟩
     have HI9:Hid (IL b ta tn tc T w w1.heap.size kd s none 0 0 (t.pl:Int) ((BT.nil:Fo)) l9 f5 w9):=HI6.out.go hk9 hp9
     clear hk9 hp9 HNs
     obtain ⟨c0,c1,c2,c3,cf⟩:=HI9.out.cells
     obtain ⟨z0,z1,z2,z3,zf⟩:=HI9.out.zeros
     have hne:¬ w.heap.size = w1.heap.size:=by have:=HI9.out.n3; omega
     have HD:Hid _:=HI9.out.done HKd.out.1 (hsl) HKd.out.2 rfl
     clear HI9
     go_wp2
     refine bodyPost_ret (v:=.agg #[I J kd,Ψ (bs s),Γ none 0 0,I J (t.pl:Int)]) ?_ rfl ?_
     ·simp only [results,hres]
      go_simp
      try rfl
     ·refine ⟨HD.out.1,.inl ⟨⟨kd,s,(BT.nil:Fo),(t.pl:Int)⟩,_,by rw [HE.out.1,HY.out.1]; rfl,rfl,HD.out.2.2,?_⟩⟩
      rw [HE.out.2.1,HE.out.2.2,HY.out.2.1,HY.out.2.2]
      exact (flt_nil f5).symm ▸ HD.out.2.1
theorem item_let {b:Nat} {ta:Option Addr} {tn tc:Nat} {T:List Tk} {n:Nat} {ex:List Tk -> Rs Ex} {f:Int × Int} (w:World) {t:Tk} {r:List Tk} (h:PAt b ta tn tc T (t :: r) f w) (hl:r.length <= n)
 (HX:∀ l f w,PAt b ta tn tc T l f w -> l.length <= n -> Calls Tryz.prog 112 #[Φ (some ⟨b,0,none⟩)] w (PPost b ta tn tc T f (ex l) (VEx w.heap.size) w)) (hk:t.kind = 4) (hi:itemKindB t.text ≠ 0) (hkd:itemKindB t.text = 1) :
 Calls Tryz.prog 76 #[Φ (some ⟨b,0,none⟩)] w (PPost b ta tn tc T f (itemG ex (t :: r)) (VIt w.heap.size) w):=by
 have hres:Tryz.f76.results = #[.cell 2 67]:=by kernel_rfl
 have HC0:Hid (PAt b ta tn tc T (t :: r) f (w.alloc (Δ zeroI 67))):=h.below ((Below.refl _ _).alloc (Nat.le_refl _) _)
 have HG:Hid (∀ W,PAt b ta tn tc T (t :: r) f W -> Calls Tryz.prog 109 #[Φ (some ⟨b,0,none⟩)] W fun e w'=>e = Ω (.agg #[I J (itemKindB t.text),Ψ ⟨#[]⟩,Γ none 0 0,I J (t.pl:Int)]) /\ Kp b W w' /\ PAt b ta tn tc T r f w'):=fun W hW=>begin_ok W hW hk hi
 have HO:Hid (TkOk t):=pl_le h
 have hnb:=h.lt
 have HE0:=item_eq (ex:=ex) (t:=t) (r:=r) hk hi
 have HR0:=kind_range t.text
 generalize itemG ex (t :: r) = X at *
 clear hk hi h
 generalize itemKindB t.text = kd at *
 obtain ⟨Z,hQ,HE1⟩:∃ Z:Rs (List UInt8 × Fo),Eqv Z (closeG [59] (bodyG ex kd r)) f f /\ X = Z.map fun b=>⟨kd,b.1,b.2,t.pl⟩:=⟨_,eqv_refl _ _,HE0⟩
 have HQ:=hid hQ
 clear hQ
 have HE:Hid (X.val = (Z.val.map fun (q:List UInt8 × Fo)=>(⟨kd,q.1,q.2,(t.pl:Int)⟩:It)) /\ X.rest = Z.rest /\ X.many = Z.many):=by rw [HE1]; exact ⟨rfl,rfl,rfl⟩
 clear HE0 HE1
 have HKd:Hid (InR kd /\ InR (t.pl:Int)):=by
  have:=HO.out.pl
  unfold InR
  exact ⟨by omega,by omega⟩
 have HZ:Hid (∀ v w' l',Z.val = none /\ Z.rest = l' -> Kp b w w' -> PAt b ta tn tc T l' (70,plOf l') w' -> PPost b ta tn tc T f X (VIt w.heap.size) w (.panicked [{ v:=.iface 32 v,recovered:=false }]) w'):=fun v w' l' h1 h3 h4=>⟨h3,.inr ⟨by rw [HE.out.1,h1.1]; rfl,⟨v,rfl⟩,by rw [HE.out.2.1,h1.2]; exact h4⟩⟩
 have q1:(kd == 1) = true:=by rw [hkd]; decide
 have HQ1:Hid (Eqv Z ((nameG r).bind fun s l1=>(signG [61] l1).bind fun _ l2=>(ex l2).bind fun a l3=>(signG [59] l3).bind fun _ l4=>pure' (s,ofL [a]) l4) f f):=by
  have h1:=HQ.out
  rw [bodyG,if_pos hkd,close_bind] at h1
  simp only [close_bind,one_bind,close_pure] at h1
  exact h1
 clear hkd HQ
 go_enter Tryz.func76,Tryz.ntmps76
 go_wp2_with fail
 refine (HG.out _ HC0.out).mono ?_
 rintro e w1 ⟨rfl,hk1,hp1⟩
 have HI1:Hid (IL b ta tn tc T w w1.heap.size kd [] none 0 0 (t.pl:Int) .nil r f (w1.alloc (Δ #[I J kd,Ψ ⟨#[]⟩,Γ none 0 0,I J (t.pl:Int)] 67))):=IL.start hnb hk1 hp1
 clear hk1 hp1 HC0 HG
 have ck:=HI1.out.cells.1
 obtain ⟨t2,r2,rfl⟩:=HI1.out.p.here1
 have HO2:Hid (TkOk t2):=pl_le HI1.out.p
 cases hx:(nameG (t2 :: r2)).val with
 | none=>
   have HNx:Hid (Calls Tryz.prog 110 #[Φ (some ⟨b,0,none⟩)] (w1.alloc (Δ #[I J kd,Ψ ⟨#[]⟩,Γ none 0 0,I J (t.pl:Int)] 67)) fun e w'=>∃ v,e = .panicked [{ v:=.iface 32 v,recovered:=false }] /\ Kp b (w1.alloc (Δ #[I J kd,Ψ ⟨#[]⟩,Γ none 0 0,I J (t.pl:Int)] 67)) w' /\ PAt b ta tn tc T (nameG (t2 :: r2)).rest (70,plOf (nameG (t2 :: r2)).rest) w'):=calls_no (name_calls _ HI1.out.p) hx
   have HEq:Hid (Z.val = none /\ Z.rest = (nameG (t2 :: r2)).rest):=eqv_none HQ1.out hx
   clear hx HQ1
   go_wp2_with fail
   refine HNx.out.mono ?_
   rintro e w9 ⟨v,rfl,hk9,hp9⟩
   exact ⟨rfl,HZ.out _ _ _ HEq.out (HI1.out.kp.trans hk9) hp9⟩
 | some s=>
   have hsl:s.length <= maxLen:=by
    have h1:(if t2.kind = 3 then pure' t2.text r2 else wrong' (t2 :: r2)).val = some s:=hx
    have h2:=HO2.out.text
    split at h1
    ·have:t2.text = s:=Option.some.inj h1
     rw [<- this]; unfold maxLen; omega
    ·cases h1
   have HNx:Hid (Calls Tryz.prog 110 #[Φ (some ⟨b,0,none⟩)] (w1.alloc (Δ #[I J kd,Ψ ⟨#[]⟩,Γ none 0 0,I J (t.pl:Int)] 67)) fun e w'=>e = Ω (Ψ (bs s)) /\ Kp b (w1.alloc (Δ #[I J kd,Ψ ⟨#[]⟩,Γ none 0 0,I J (t.pl:Int)] 67)) w' /\ PAt b ta tn tc T (nameG (t2 :: r2)).rest (flt (nameG (t2 :: r2)).many f) w'):=by
    refine (calls_ok (name_calls _ HI1.out.p) hx).mono ?_
    rintro e w' ⟨v,he,hv,hK,hP⟩
    exact ⟨by rw [he,show v = Ψ (bs s) from hv],hK,hP⟩
   have HQ2:Hid (Eqv Z ((signG [61] (nameG (t2 :: r2)).rest).bind fun _ l2=>(ex l2).bind fun a l3=>(signG [59] l3).bind fun _ l4=>pure' (s,ofL [a]) l4) f (flt (nameG (t2 :: r2)).many f)):=eqv_some HQ1.out hx
   have HL2:Hid ((nameG (t2 :: r2)).rest.length <= n):=by
    have:(nameG (t2 :: r2)).rest <:+ (t2 :: r2):=by
     show (if t2.kind = 3 then pure' t2.text r2 else wrong' (t2 :: r2)).rest <:+ _
     split
     ·exact List.suffix_cons _ _
     ·exact List.suffix_refl _
    exact Nat.le_trans (suf_len this) hl
   clear hx HQ1
   generalize (nameG (t2 :: r2)).rest = l2 at *
   generalize flt (nameG (t2 :: r2)).many f = f2 at *
   go_wp2_with fail
   refine HNx.out.mono ?_
   rintro e w2 ⟨rfl,hk2,hp2⟩
   have HI2:Hid (IL b ta tn tc T w w1.heap.size kd [] none 0 0 (t.pl:Int) .nil l2 f2 w2):=HI1.out.go hk2 hp2
   have d2:=HI2.out.cells.2.1
   have df:=fun i=>HI2.out.cells.2.2.2.2 i
   have HI3:Hid (IL b ta tn tc T w w1.heap.size kd s none 0 0 (t.pl:Int) .nil l2 f2 (w2.setCell ⟨w1.heap.size,1,none⟩ (Ψ (bs s)))):=HI2.out.setName s
   clear hk2 hp2 HNx HI1
   cases hx:(signG [61] l2).val with
   | none=>
     have HNs:Hid (Calls Tryz.prog 111 #[Φ (some ⟨b,0,none⟩),Ψ ⟨#[61]⟩] (w2.setCell ⟨w1.heap.size,1,none⟩ (Ψ (bs s))) fun e w'=>∃ v,e = .panicked [{ v:=.iface 32 v,recovered:=false }] /\ Kp b (w2.setCell ⟨w1.heap.size,1,none⟩ (Ψ (bs s))) w' /\ PAt b ta tn tc T (signG [61] l2).rest (70,plOf (signG [61] l2).rest) w'):=calls_no (signP_calls _ ⟨#[61]⟩ HI3.out.p) hx
     have HEq:Hid (Z.val = none /\ Z.rest = (signG [61] l2).rest):=eqv_none HQ2.out hx
     clear hx HQ2
     go_wp2_with fail
     refine HNs.out.mono ?_
     rintro e w9 ⟨v,rfl,hk9,hp9⟩
     exact ⟨rfl,HZ.out _ _ _ HEq.out (HI3.out.kp.trans hk9) hp9⟩
   | some u=>
     have HNs:Hid (Calls Tryz.prog 111 #[Φ (some ⟨b,0,none⟩),Ψ ⟨#[61]⟩] (w2.setCell ⟨w1.heap.size,1,none⟩ (Ψ (bs s))) fun e w'=>e = Ω (.tuple #[]) /\ Kp b (w2.setCell ⟨w1.heap.size,1,none⟩ (Ψ (bs s))) w' /\ PAt b ta tn tc T (signG [61] l2).rest f2 w'):=sign_ok (s:=⟨#[61]⟩) HI3.out.p hx
     have HQ3:Hid (Eqv Z ((ex (signG [61] l2).rest).bind fun a l3=>(signG [59] l3).bind fun _ l4=>pure' (s,ofL [a]) l4) f f2):=by
      have:=eqv_some HQ2.out hx
      rw [sign_many,flt_nil] at this; exact this
     have hl3:(signG [61] l2).rest.length <= n:=Nat.le_trans (suf_len (sign_suf _ _)) HL2.out
     clear hx HQ2
     generalize (signG [61] l2).rest = l3 at *
     go_wp2_with fail
     refine HNs.out.mono ?_
     rintro e w3 ⟨rfl,hk3,hp3⟩
     have HI4:Hid (IL b ta tn tc T w w1.heap.size kd s none 0 0 (t.pl:Int) .nil l3 f2 w3):=HI3.out.go hk3 hp3
     clear hk3 hp3 HNs HI2 HI3 d2 df
     cases hx:(ex l3).val with
     | none=>
       have HNx:Hid (Calls Tryz.prog 112 #[Φ (some ⟨b,0,none⟩)] w3 fun e w'=>∃ v,e = .panicked [{ v:=.iface 32 v,recovered:=false }] /\ Kp b w3 w' /\ PAt b ta tn tc T (ex l3).rest (70,plOf (ex l3).rest) w'):=calls_no (HX l3 f2 _ HI4.out.p hl3) hx
       have HEq:Hid (Z.val = none /\ Z.rest = (ex l3).rest):=eqv_none HQ3.out hx
       clear hx HQ3 HX
       go_wp2_with fail
       refine HNx.out.mono ?_
       rintro e w9 ⟨v,rfl,hk9,hp9⟩
       exact ⟨rfl,HZ.out _ _ _ HEq.out (HI4.out.kp.trans hk9) hp9⟩
     | some a=>
       have HNx:Hid (Calls Tryz.prog 112 #[Φ (some ⟨b,0,none⟩)] w3 fun e w'=>∃ ka kn kc,e = Ω (.agg #[I J a.1.kind,I J a.1.num,Ψ (bs a.1.text),Γ ka kn kc,I J a.1.pl]) /\ ExAt true (fun g=>(w3).heap.size <= g) w' a ka kn /\ Kp b w3 w' /\ PAt b ta tn tc T (ex l3).rest (flt (ex l3).many f2) w'):=ex_ok (HX l3 f2 _ HI4.out.p hl3) hx
       have HQ5:Hid (Eqv Z ((signG [59] (ex l3).rest).bind fun _ l2=>pure' (s,ofL [a]) l2) f (flt (ex l3).many f2)):=eqv_some HQ3.out hx
       clear hx HQ3 HX
       generalize (ex l3).rest = l5 at *
       generalize flt (ex l3).many f2 = f5 at *
       go_wp2_with fail
       refine HNx.out.mono ?_
       rintro e w5 ⟨ka,kn,kc,rfl,hE5,hk5,hp5⟩
       have HI5:Hid (∀ o,IL b ta tn tc T w w1.heap.size kd s none 0 0 (t.pl:Int) .nil l5 f5 (w5.alloc o)):=fun o=>(HI4.out.go hk5 hp5).alloc o
       have HF5:Hid (FoAt true (fun g=>w.heap.size <= g /\ g ≠ w.heap.size /\ g ≠ w1.heap.size) (w5.alloc (Δ #[I J a.1.kind,I J a.1.num,Ψ (bs a.1.text),Γ ka kn kc,I J a.1.pl] 102)) (ofL [a]) (some ⟨w5.heap.size,0,none⟩) 1):=by
        have h1:=HI4.out.n3
        have h2:=HI4.out.size
        have h3:=hk5.size
        refine one_new (by show w.heap.size <= w5.heap.size /\ w5.heap.size ≠ w.heap.size /\ w5.heap.size ≠ w1.heap.size; omega) (hE5.base fun g _ hg=>?_)
        have h4:(w3).heap.size <= g:=hg
        exact ⟨by omega,by omega,by omega⟩
       have d2:=fun o=>(HI5.out o).cells.2.2.1
       have df:=fun o i=>(HI5.out o).cells.2.2.2.2 i
       have HI6:Hid (IL b ta tn tc T w w1.heap.size kd s (some ⟨w5.heap.size,0,none⟩) 1 1 (t.pl:Int) (ofL [a]) l5 f5 ((w5.alloc (Δ #[I J a.1.kind,I J a.1.num,Ψ (bs a.1.text),Γ ka kn kc,I J a.1.pl] 102)).setCell ⟨w1.heap.size,2,none⟩ (Γ (some ⟨w5.heap.size,0,none⟩) 1 1))):=(HI5.out _).setArgs (by decide) HF5.out
       clear hE5 hk5 hp5 HNx HI4
       cases hx9:(signG [59] l5).val with
       | none=>
         have HNs:Hid (Calls Tryz.prog 111 #[Φ (some ⟨b,0,none⟩),Ψ ⟨#[59]⟩] ((w5.alloc (Δ #[I J a.1.kind,I J a.1.num,Ψ (bs a.1.text),Γ ka kn kc,I J a.1.pl] 102)).setCell ⟨w1.heap.size,2,none⟩ (Γ (some ⟨w5.heap.size,0,none⟩) 1 1)) fun e w'=>∃ v,e = .panicked [{ v:=.iface 32 v,recovered:=false }] /\ Kp b ((w5.alloc (Δ #[I J a.1.kind,I J a.1.num,Ψ (bs a.1.text),Γ ka kn kc,I J a.1.pl] 102)).setCell ⟨w1.heap.size,2,none⟩ (Γ (some ⟨w5.heap.size,0,none⟩) 1 1)) w' /\ PAt b ta tn tc T (signG [59] l5).rest (70,plOf (signG [59] l5).rest) w'):=calls_no (signP_calls _ ⟨#[59]⟩ HI6.out.p) hx9
         have HEq:Hid (Z.val = none /\ Z.rest = (signG [59] l5).rest):=eqv_none HQ5.out hx9
         clear hx9 HQ5
         go_wp2_with fail
         refine HNs.out.mono ?_
         rintro e w9 ⟨v,rfl,hk9,hp9⟩
         exact ⟨rfl,HZ.out _ _ _ HEq.out (HI6.out.kp.trans hk9) hp9⟩
       | some u9=>
         have HNs:Hid (Calls Tryz.prog 111 #[Φ (some ⟨b,0,none⟩),Ψ ⟨#[59]⟩] ((w5.alloc (Δ #[I J a.1.kind,I J a.1.num,Ψ (bs a.1.text),Γ ka kn kc,I J a.1.pl] 102)).setCell ⟨w1.heap.size,2,none⟩ (Γ (some ⟨w5.heap.size,0,none⟩) 1 1)) fun e w'=>e = Ω (.tuple #[]) /\ Kp b ((w5.alloc (Δ #[I J a.1.kind,I J a.1.num,Ψ (bs a.1.text),Γ ka kn kc,I J a.1.pl] 102)).setCell ⟨w1.heap.size,2,none⟩ (Γ (some ⟨w5.heap.size,0,none⟩) 1 1)) w' /\ PAt b ta tn tc T (signG [59] l5).rest f5 w'):=sign_ok (s:=⟨#[59]⟩) HI6.out.p hx9
         have HY:Hid (Eqv Z (pure' (s,ofL [a]) (signG [59] l5).rest) f f5):=by
          have:=eqv_some HQ5.out hx9
          rw [sign_many,flt_nil] at this; exact this
         clear hx9 HQ5
         generalize (signG [59] l5).rest = l9 at *
         go_wp2_with fail
         refine HNs.out.mono ?_
         rintro e w9 ⟨rfl,hk9,hp9⟩
         have HI9:Hid (IL b ta tn tc T w w1.heap.size kd s (some ⟨w5.heap.size,0,none⟩) 1 1 (t.pl:Int) (ofL [a]) l9 f5 w9):=HI6.out.go hk9 hp9
         clear hk9 hp9 HNs
         obtain ⟨c0,c1,c2,c3,cf⟩:=HI9.out.cells
         obtain ⟨z0,z1,z2,z3,zf⟩:=HI9.out.zeros
         have hne:¬ w.heap.size = w1.heap.size:=by have:=HI9.out.n3; omega
         have HD:Hid _:=HI9.out.done HKd.out.1 (hsl) HKd.out.2 rfl
         clear HI9
         go_wp2
         refine bodyPost_ret (v:=.agg #[I J kd,Ψ (bs s),Γ (some ⟨w5.heap.size,0,none⟩) 1 1,I J (t.pl:Int)]) ?_ rfl ?_
         ·simp only [results,hres]
          go_simp
          try rfl
         ·refine ⟨HD.out.1,.inl ⟨⟨kd,s,ofL [a],(t.pl:Int)⟩,_,by rw [HE.out.1,HY.out.1]; rfl,rfl,HD.out.2.2,?_⟩⟩
          rw [HE.out.2.1,HE.out.2.2,HY.out.2.1,HY.out.2.2]
          exact (flt_nil f5).symm ▸ HD.out.2.1
theorem item_calls {b:Nat} {ta:Option Addr} {tn tc:Nat} {T:List Tk} (n:Nat) (ex:List Tk -> Rs Ex) (hsuf:∀ l,(ex l).rest <:+ l)
 (HX:∀ l f w,PAt b ta tn tc T l f w -> l.length <= n -> Calls Tryz.prog 112 #[Φ (some ⟨b,0,none⟩)] w (PPost b ta tn tc T f (ex l) (VEx w.heap.size) w)) (l:List Tk) (f:Int × Int) (w:World) (h:PAt b ta tn tc T l f w) (hl:l.length <= n + 1) :
 Calls Tryz.prog 76 #[Φ (some ⟨b,0,none⟩)] w (PPost b ta tn tc T f (itemG ex l) (VIt w.heap.size) w):=by
 obtain ⟨t,r,rfl⟩:=h.here1
 have hl':r.length <= n:=by simpa using hl
 have HB:=fun s l f w h hl=>both_calls n ex hsuf HX s l f w h hl
 by_cases hc:t.kind = 4 /\ itemKindB t.text ≠ 0
 ·obtain ⟨hk,hi⟩:=hc
  by_cases h1:itemKindB t.text = 1
  ·exact item_let w h hl' HX hk hi h1
  ·by_cases h7:itemKindB t.text = 7
   ·exact item_mode w h hk hi h7
   ·by_cases h8:itemKindB t.text = 8
    ·exact item_band w h hl' HB hk hi h8
    ·by_cases h5:itemKindB t.text = 5
     ·exact item_two5 w h hl' HB hk hi h5
     ·by_cases h6:itemKindB t.text = 6
      ·exact item_two6 w h hl' HB hk hi h6
      ·by_cases h9:itemKindB t.text = 9
       ·exact item_two9 w h hl' HB hk hi h9
       ·exact item_one w h hl' HX hk hi ⟨h1,h7,h8,h5,h6,h9⟩
 ·have HE:Hid (itemG ex (t :: r) = wrong' (t :: r)):=by
   show (if t.kind = 4 /\ itemKindB t.text ≠ 0 then _ else _) = _
   rw [if_neg hc]
  have HG:Hid (∀ W,PAt b ta tn tc T (t :: r) f W -> Calls Tryz.prog 109 #[Φ (some ⟨b,0,none⟩)] W fun e w'=>∃ v,e = .panicked [{ v:=.iface 32 v,recovered:=false }] /\ Kp b W w' /\ PAt b ta tn tc T (t :: r) (70,t.pl) w'):=fun W hW=>begin_no W hW hc
  have HC0:Hid (PAt b ta tn tc T (t :: r) f (w.alloc (Δ zeroI 67))):=h.below ((Below.refl _ _).alloc (Nat.le_refl _) _)
  clear hc h HX HB
  go_enter Tryz.func76,Tryz.ntmps76
  go_wp2_with fail
  refine (HG.out _ HC0.out).mono ?_
  rintro e w1 ⟨v,rfl,hk1,hp1⟩
  refine ⟨rfl,?_⟩
  rw [HE.out]
  exact ⟨((Kp.refl b w).alloc _).trans hk1,.inr ⟨rfl,⟨_,rfl⟩,hp1⟩⟩
end Go.Proofs.YtlaodgdlkkmmeaaGreat
