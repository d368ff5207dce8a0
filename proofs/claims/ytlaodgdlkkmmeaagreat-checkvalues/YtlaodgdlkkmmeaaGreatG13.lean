/-
  Brackets; min and max; what begins no factor. Factors, terms, expressions: for every list of tokens. What items begin with; names, ways; two expressions with a sign between.
-/
import Derived.Test.YtlaodgdlkkmmeaaGreatG12
namespace Go.Proofs.YtlaodgdlkkmmeaaGreat
open Go.RowKit Go.Deep
open Go.Value renaming int->I,pointer->Φ,string->Ψ,slice->Γ
open Go.IntKind renaming i64->J
open Go.Obj renaming cells->Δ
open Go.Ending renaming returned->Ω
set_option maxRecDepth 20000
set_option maxHeartbeats 2000000
theorem comp_paren {b:Nat} {ta:Option Addr} {tn tc:Nat} {T:List Tk} {n:Nat} {f:Int × Int} (w:World) {t:Tk} {r:List Tk} (h:PAt b ta tn tc T (t :: r) f w) (hl:r.length <= n)
 (HE:∀ l f w,PAt b ta tn tc T l f w -> l.length <= n -> Calls Tryz.prog 112 #[Φ (some ⟨b,0,none⟩)] w (PPost b ta tn tc T f (exprG (facN n) l) (VEx w.heap.size) w)) (hm:isT 6 [45] t = false) (hs:isT 6 [40] t = true) :
 Calls Tryz.prog 153 #[Φ (some ⟨b,0,none⟩)] w (PPost b ta tn tc T f (closeG [41] (exprG (facN n) r)) (VEx w.heap.size) w):=by
 have hres:Tryz.f153.results = #[.cell 2 102]:=by kernel_rfl
 have HC0:Hid (CL b ta tn tc T w (t :: r) f (w.alloc (Δ zero5 102))):=CL.start h
 have HPl:Hid (t.pl <= 4000):=(pl_le h).pl
 have hfd:=fld48_3
 have hk1:=isT_kind hs (by decide)
 have HSa:Hid (∀ W,PAt b ta tn tc T (t :: r) f W -> Calls Tryz.prog 138 #[Φ (some ⟨b,0,none⟩),I J 6,Ψ ⟨#[45]⟩] W fun e w'=>e = Ω (.bool false) /\ Below W.heap.size W w'):=fun W h=>by
  have:=sees_calls W h 6 ⟨#[45]⟩
  rw [show (⟨#[45]⟩:ByteArray).data.toList = [45] from rfl,hm] at this; exact this
 have HSb:Hid (∀ W,PAt b ta tn tc T (t :: r) f W -> Calls Tryz.prog 138 #[Φ (some ⟨b,0,none⟩),I J 6,Ψ ⟨#[40]⟩] W fun e w'=>e = Ω (.bool true) /\ Below W.heap.size W w'):=fun W h=>by
  have:=sees_calls W h 6 ⟨#[40]⟩
  rw [show (⟨#[40]⟩:ByteArray).data.toList = [40] from rfl,hs] at this; exact this
 have HN:Hid (∀ w,PAt b ta tn tc T (t :: r) f w -> Calls Tryz.prog 137 #[Φ (some ⟨b,0,none⟩)] w fun e w'=>e = Ω (.agg #[I J t.kind,I J t.num,Ψ (bs t.text),I J (t.pl:Int)]) /\ Kp b w w' /\ PAt b ta tn tc T r f w'):=fun w h=>nextP_calls w h hk1
 have HQ:Hid (Eqv (closeG [41] (exprG (facN n) r)) ((exprG (facN n) r).bind fun a l=>(signG [41] l).bind fun _ l2=>pure' a l2) f f):=eqv_refl _ _
 generalize closeG [41] (exprG (facN n) r) = X at *
 have HZ:Hid (∀ v w',Kp b w w' -> PAt b ta tn tc T X.rest (70,plOf X.rest) w' -> X.val = none -> PPost b ta tn tc T f X (VEx w.heap.size) w (.panicked [{ v:=.iface 32 v,recovered:=false }]) w'):=fun v w' h1 h2 h3=>⟨h1,.inr ⟨h3,⟨v,rfl⟩,h2⟩⟩
 cases hx:(exprG (facN n) r).val with
 | none=>
   have HFa:Hid (∀ W,PAt b ta tn tc T r f W -> Calls Tryz.prog 112 #[Φ (some ⟨b,0,none⟩)] W fun e w'=>∃ v,e = .panicked [{ v:=.iface 32 v,recovered:=false }] /\ Kp b W w' /\ PAt b ta tn tc T (exprG (facN n) r).rest (70,plOf (exprG (facN n) r).rest) w'):=fun W hW=>calls_no (HE r f W hW hl) hx
   have HEq:Hid (X.val = none /\ X.rest = (exprG (facN n) r).rest):=eqv_none HQ.out hx
   clear hx HQ HE h hs hm hk1
   generalize exprG (facN n) r = y at *
   go_enter Tryz.func153,Tryz.ntmps153
   go_wp2_with fail
   refine (HSa.out _ HC0.out.p).mono ?_
   rintro e w1 ⟨rfl,hb1⟩
   have HC1:Hid (CL b ta tn tc T w (t :: r) f w1):=HC0.out.next hb1
   clear hb1 HSa HC0
   go_wp2_with fail
   refine (HSb.out _ HC1.out.p).mono ?_
   rintro e w2 ⟨rfl,hb2⟩
   have HC2:Hid (CL b ta tn tc T w (t :: r) f w2):=HC1.out.next hb2
   clear hb2 HSb HC1
   go_wp2_with fail
   refine (HN.out _ HC2.out.p).mono ?_
   rintro e w3 ⟨rfl,hk3,hp3⟩
   have HC3:Hid (CL b ta tn tc T w r f w3):=HC2.out.go hk3 hp3
   clear hk3 hp3 HN HC2
   go_wp2_with fail
   refine (HFa.out _ HC3.out.p).mono ?_
   rintro e w4 ⟨v,rfl,hk4,hp4⟩
   exact ⟨rfl,HZ.out _ _ (HC3.out.kp.trans hk4) (by rw [HEq.out.2]; exact hp4) HEq.out.1⟩
 | some a=>
   have HFa:Hid (∀ W,PAt b ta tn tc T r f W -> Calls Tryz.prog 112 #[Φ (some ⟨b,0,none⟩)] W fun e w'=>∃ ka kn kc,e = Ω (.agg #[I J a.1.kind,I J a.1.num,Ψ (bs a.1.text),Γ ka kn kc,I J a.1.pl]) /\ ExAt true (fun g=>W.heap.size <= g) w' a ka kn /\ Kp b W w' /\ PAt b ta tn tc T (exprG (facN n) r).rest (flt (exprG (facN n) r).many f) w'):=fun W hW=>ex_ok (HE r f W hW hl) hx
   have HQ1:Hid (Eqv X ((signG [41] (exprG (facN n) r).rest).bind fun _ l2=>pure' a l2) f (flt (exprG (facN n) r).many f)):=eqv_some HQ.out hx
   clear hx HQ HE h hs hm hk1
   generalize (exprG (facN n) r).rest = l1 at *
   generalize flt (exprG (facN n) r).many f = f1 at *
   go_enter Tryz.func153,Tryz.ntmps153
   go_wp2_with fail
   refine (HSa.out _ HC0.out.p).mono ?_
   rintro e w1 ⟨rfl,hb1⟩
   have HC1:Hid (CL b ta tn tc T w (t :: r) f w1):=HC0.out.next hb1
   clear hb1 HSa HC0
   go_wp2_with fail
   refine (HSb.out _ HC1.out.p).mono ?_
   rintro e w2 ⟨rfl,hb2⟩
   have HC2:Hid (CL b ta tn tc T w (t :: r) f w2):=HC1.out.next hb2
   clear hb2 HSb HC1
   go_wp2_with fail
   refine (HN.out _ HC2.out.p).mono ?_
   rintro e w3 ⟨rfl,hk3,hp3⟩
   have HC3:Hid (CL b ta tn tc T w r f w3):=HC2.out.go hk3 hp3
   clear hk3 hp3 HN HC2
   go_wp2_with fail
   refine (HFa.out _ HC3.out.p).mono ?_
   rintro e w4 ⟨ka,kn,kc,rfl,hE4,hk4,hp4⟩
   have HT:Hid (TL b ta tn tc T w w.heap.size w4.heap.size l1 f1 a ka kn kc (w4.alloc (Δ (exArr a.1 ka kn kc) 102))):=by
    have h1:=HC3.out.go hk4 hp4
    have h2:=HC3.out.size
    have hs4:=h1.size
    have hbel:Below w4.heap.size w4 (w4.alloc (Δ (exArr a.1 ka kn kc) 102)):=(Below.refl _ _).alloc (Nat.le_refl _) _
    refine ⟨h1.p.below hbel,h1.kp.then_below hbel,Nat.le_refl _,by omega,by omega,h1.nb,heap_old h1.res,heap_alloc_new w4 _,(hE4.base fun g h5 h6=>?_).below hbel⟩
    have h7:w3.heap.size <= g:=h6
    exact ⟨by omega,by omega,by omega⟩
   clear hE4 hk4 hp4 HFa HC3
   cases hx:(signG [41] l1).val with
   | none=>
     have HNs:Hid (Calls Tryz.prog 111 #[Φ (some ⟨b,0,none⟩),Ψ ⟨#[41]⟩] (w4.alloc (Δ (exArr a.1 ka kn kc) 102)) fun e w'=>∃ v,e = .panicked [{ v:=.iface 32 v,recovered:=false }] /\ Kp b (w4.alloc (Δ (exArr a.1 ka kn kc) 102)) w' /\ PAt b ta tn tc T (signG [41] l1).rest (70,plOf (signG [41] l1).rest) w'):=calls_no (signP_calls _ ⟨#[41]⟩ HT.out.p) hx
     have HEq:Hid (X.val = none /\ X.rest = (signG [41] l1).rest):=eqv_none HQ1.out hx
     clear hx HQ1
     go_wp2_with fail
     refine HNs.out.mono ?_
     rintro e w5 ⟨v,rfl,hk5,hp5⟩
     exact ⟨rfl,HZ.out _ _ (HT.out.kp.trans hk5) (by rw [HEq.out.2]; exact hp5) HEq.out.1⟩
   | some u=>
     have HNs:Hid (Calls Tryz.prog 111 #[Φ (some ⟨b,0,none⟩),Ψ ⟨#[41]⟩] (w4.alloc (Δ (exArr a.1 ka kn kc) 102)) fun e w'=>e = Ω (.tuple #[]) /\ Kp b (w4.alloc (Δ (exArr a.1 ka kn kc) 102)) w' /\ PAt b ta tn tc T (signG [41] l1).rest f1 w'):=sign_ok (s:=⟨#[41]⟩) HT.out.p hx
     have HY:Hid (Eqv X (pure' a (signG [41] l1).rest) f f1):=by
      have:=eqv_some HQ1.out hx
      rw [sign_many,flt_nil] at this; exact this
     clear hx HQ1
     go_wp2_with fail
     refine HNs.out.mono ?_
     rintro e w5 ⟨rfl,hk5,hp5⟩
     have HT5:Hid (TL b ta tn tc T w w.heap.size w4.heap.size (signG [41] l1).rest f1 a ka kn kc w5):=HT.out.go hk5 hp5
     clear hk5 hp5 HNs HT
     obtain ⟨c0,c1,c2,c3,c4⟩:=HT5.out.cells
     obtain ⟨z0,z1,z2,z3,z4,zf⟩:=HT5.out.zeros
     have hne:¬ w.heap.size = w4.heap.size:=HT5.out.ne
     have HD:Hid _:=HT5.out.done (I J a.1.kind) (I J a.1.num) (Ψ (bs a.1.text)) (Γ ka kn kc) (I J a.1.pl) rfl
     clear HT5
     go_wp2
     refine bodyPost_ret (v:=.agg #[I J a.1.kind,I J a.1.num,Ψ (bs a.1.text),Γ ka kn kc,I J a.1.pl]) ?_ rfl ?_
     ·simp only [results,hres]
      go_simp
     ·refine ⟨HD.out.1,.inl ⟨a,_,HY.out.1,rfl,⟨ka,kn,kc,rfl,HD.out.2.2⟩,?_⟩⟩
      rw [HY.out.2.1,HY.out.2.2]
      exact (flt_nil f1).symm ▸ HD.out.2.1
theorem comp_min {b:Nat} {ta:Option Addr} {tn tc:Nat} {T:List Tk} {n:Nat} {f:Int × Int} (w:World) {t:Tk} {r:List Tk} (h:PAt b ta tn tc T (t :: r) f w) (hl:r.length <= n)
 (HK:∀ l f w,PAt b ta tn tc T l f w -> l.length <= n -> Calls Tryz.prog 157 #[Φ (some ⟨b,0,none⟩)] w (PPost b ta tn tc T f (kidsG (exprG (facN n)) l) (fun ks=>VFo w.heap.size (ofL ks)) w)) (ha:isT 6 [45] t = false) (hb:isT 6 [40] t = false) (hs:isT 4 [109,105,110] t = true) :
 Calls Tryz.prog 153 #[Φ (some ⟨b,0,none⟩)] w (PPost b ta tn tc T f ((kidsG (exprG (facN n)) r).map fun ks=>(hdB 8 t,ofL ks)) (VEx w.heap.size) w):=by
 have hres:Tryz.f153.results = #[.cell 2 102]:=by kernel_rfl
 have HC0:Hid (CL b ta tn tc T w (t :: r) f (w.alloc (Δ zero5 102))):=CL.start h
 have HPl:Hid (t.pl <= 4000):=(pl_le h).pl
 have hfd:=fld48_3
 have hk1:=isT_kind hs (by decide)
 have HSa:Hid (∀ W,PAt b ta tn tc T (t :: r) f W -> Calls Tryz.prog 138 #[Φ (some ⟨b,0,none⟩),I J 6,Ψ ⟨#[45]⟩] W fun e w'=>e = Ω (.bool false) /\ Below W.heap.size W w'):=fun W h=>by
  have:=sees_calls W h 6 ⟨#[45]⟩
  rw [show (⟨#[45]⟩:ByteArray).data.toList = [45] from rfl,ha] at this; exact this
 have HSb:Hid (∀ W,PAt b ta tn tc T (t :: r) f W -> Calls Tryz.prog 138 #[Φ (some ⟨b,0,none⟩),I J 6,Ψ ⟨#[40]⟩] W fun e w'=>e = Ω (.bool false) /\ Below W.heap.size W w'):=fun W h=>by
  have:=sees_calls W h 6 ⟨#[40]⟩
  rw [show (⟨#[40]⟩:ByteArray).data.toList = [40] from rfl,hb] at this; exact this
 have HSs:Hid (∀ W,PAt b ta tn tc T (t :: r) f W -> Calls Tryz.prog 138 #[Φ (some ⟨b,0,none⟩),I J 4,Ψ ⟨#[109,105,110]⟩] W fun e w'=>e = Ω (.bool true) /\ Below W.heap.size W w'):=fun W h=>by
  have:=sees_calls W h 4 ⟨#[109,105,110]⟩
  rw [show (⟨#[109,105,110]⟩:ByteArray).data.toList = [109,105,110] from rfl,hs] at this; exact this
 have HN:Hid (∀ w,PAt b ta tn tc T (t :: r) f w -> Calls Tryz.prog 137 #[Φ (some ⟨b,0,none⟩)] w fun e w'=>e = Ω (.agg #[I J t.kind,I J t.num,Ψ (bs t.text),I J (t.pl:Int)]) /\ Kp b w w' /\ PAt b ta tn tc T r f w'):=fun w h=>nextP_calls w h hk1
 generalize hX:(kidsG (exprG (facN n)) r).map (fun ks=>(hdB 8 t,ofL ks)) = X at *
 have HZ:Hid (∀ v w',Kp b w w' -> PAt b ta tn tc T X.rest (70,plOf X.rest) w' -> X.val = none -> PPost b ta tn tc T f X (VEx w.heap.size) w (.panicked [{ v:=.iface 32 v,recovered:=false }]) w'):=fun v w' h1 h2 h3=>⟨h1,.inr ⟨h3,⟨v,rfl⟩,h2⟩⟩
 cases hx:(kidsG (exprG (facN n)) r).val with
 | none=>
   have HFa:Hid (∀ W,PAt b ta tn tc T r f W -> Calls Tryz.prog 157 #[Φ (some ⟨b,0,none⟩)] W fun e w'=>∃ v,e = .panicked [{ v:=.iface 32 v,recovered:=false }] /\ Kp b W w' /\ PAt b ta tn tc T (kidsG (exprG (facN n)) r).rest (70,plOf (kidsG (exprG (facN n)) r).rest) w'):=fun W hW=>calls_no (HK r f W hW hl) hx
   have HE:Hid (X.val = none /\ X.rest = (kidsG (exprG (facN n)) r).rest):=by rw [<- hX]; exact ⟨by show (kidsG (exprG (facN n)) r).val.map _ = none; rw [hx]; rfl,rfl⟩
   clear hx hX HK h hs hk1
   generalize kidsG (exprG (facN n)) r = y at *
   go_enter Tryz.func153,Tryz.ntmps153
   go_wp2_with fail
   refine (HSa.out _ HC0.out.p).mono ?_
   rintro e w1 ⟨rfl,hb1⟩
   have HC1:Hid (CL b ta tn tc T w (t :: r) f w1):=HC0.out.next hb1
   clear hb1 HSa HC0
   go_wp2_with fail
   refine (HSb.out _ HC1.out.p).mono ?_
   rintro e w2 ⟨rfl,hb2⟩
   have HC2:Hid (CL b ta tn tc T w (t :: r) f w2):=HC1.out.next hb2
   clear hb2 HSb HC1
   go_wp2_with fail
   refine (HSs.out _ HC2.out.p).mono ?_
   rintro e w3 ⟨rfl,hb3⟩
   have HC3:Hid (CL b ta tn tc T w (t :: r) f w3):=HC2.out.next hb3
   clear hb3 HSs HC2
   go_wp2_with fail
   refine (HN.out _ HC3.out.p).mono ?_
   rintro e w4 ⟨rfl,hk4,hp4⟩
   have HC4:Hid (CL b ta tn tc T w r f w4):=HC3.out.go hk4 hp4
   clear hk4 hp4 HN HC3
   go_wp2_with fail
   refine (HFa.out _ HC4.out.p).mono ?_
   rintro e wx ⟨v,rfl,hkx,hpx⟩
   exact ⟨rfl,HZ.out _ _ (HC4.out.kp.trans hkx) (by rw [HE.out.2]; exact hpx) HE.out.1⟩
 | some a=>
   have HFa:Hid (∀ W,PAt b ta tn tc T r f W -> Calls Tryz.prog 157 #[Φ (some ⟨b,0,none⟩)] W fun e w'=>∃ ka kn kc,e = Ω (Γ ka kn kc) /\ (kn <= maxLen /\ FoAt true (fun g=>W.heap.size <= g) w' (ofL a) ka kn) /\ Kp b W w' /\ PAt b ta tn tc T (kidsG (exprG (facN n)) r).rest (flt (kidsG (exprG (facN n)) r).many f) w'):=fun W hW=>fo_ok (HK r f W hW hl) hx
   have HE:Hid (X.val = some (hdB 8 t,ofL a) /\ X.rest = (kidsG (exprG (facN n)) r).rest /\ X.many = (kidsG (exprG (facN n)) r).many):=by rw [<- hX]; exact ⟨by show (kidsG (exprG (facN n)) r).val.map _ = some _; rw [hx]; rfl,rfl,rfl⟩
   clear hx hX HK h hs hk1
   generalize kidsG (exprG (facN n)) r = y at *
   go_enter Tryz.func153,Tryz.ntmps153
   go_wp2_with fail
   refine (HSa.out _ HC0.out.p).mono ?_
   rintro e w1 ⟨rfl,hb1⟩
   have HC1:Hid (CL b ta tn tc T w (t :: r) f w1):=HC0.out.next hb1
   clear hb1 HSa HC0
   go_wp2_with fail
   refine (HSb.out _ HC1.out.p).mono ?_
   rintro e w2 ⟨rfl,hb2⟩
   have HC2:Hid (CL b ta tn tc T w (t :: r) f w2):=HC1.out.next hb2
   clear hb2 HSb HC1
   go_wp2_with fail
   refine (HSs.out _ HC2.out.p).mono ?_
   rintro e w3 ⟨rfl,hb3⟩
   have HC3:Hid (CL b ta tn tc T w (t :: r) f w3):=HC2.out.next hb3
   clear hb3 HSs HC2
   go_wp2_with fail
   refine (HN.out _ HC3.out.p).mono ?_
   rintro e w4 ⟨rfl,hk4,hp4⟩
   have HC4:Hid (CL b ta tn tc T w r f w4):=HC3.out.go hk4 hp4
   clear hk4 hp4 HN HC3
   go_wp2_with fail
   refine (HFa.out _ HC4.out.p).mono ?_
   rintro e wx ⟨ka,kn,kc,rfl,⟨hEn,hE3⟩,hk3,hp3⟩
   have HCx:Hid (CL b ta tn tc T w y.rest (flt y.many f) wx):=HC4.out.go hk3 hp3
   have HF3:Hid (ExAt true (fun g=>w.heap.size < g) wx (hdB 8 t,ofL a) ka kn):=by
    have h2:=HC4.out.size
    exact ⟨small_ok (by omega) HPl.out,hEn,hE3.base fun g _ hg=>by
     have h4:w4.heap.size <= g:=hg
     show w.heap.size < g
     omega⟩
   obtain ⟨z0,z1,z2,z3,z4,zf⟩:=HCx.out.zeros
   have HD:Hid _:=HCx.out.done (kc:=kc) HF3.out
   clear hEn hE3 hk3 hp3 HFa HC4 HF3 HCx
   go_wp2
   refine bodyPost_ret (v:=.agg #[I J 8,I J 0,Ψ ⟨#[]⟩,Γ ka kn kc,I J (t.pl:Int)]) ?_ rfl ?_
   ·simp only [results,hres]
    go_simp
   ·refine ⟨HD.out.1,.inl ⟨_,_,HE.out.1,rfl,HD.out.2.2,?_⟩⟩
    rw [HE.out.2.1,HE.out.2.2]
    exact HD.out.2.1
theorem comp_max {b:Nat} {ta:Option Addr} {tn tc:Nat} {T:List Tk} {n:Nat} {f:Int × Int} (w:World) {t:Tk} {r:List Tk} (h:PAt b ta tn tc T (t :: r) f w) (hl:r.length <= n)
 (HK:∀ l f w,PAt b ta tn tc T l f w -> l.length <= n -> Calls Tryz.prog 157 #[Φ (some ⟨b,0,none⟩)] w (PPost b ta tn tc T f (kidsG (exprG (facN n)) l) (fun ks=>VFo w.heap.size (ofL ks)) w)) (ha:isT 6 [45] t = false) (hb:isT 6 [40] t = false) (hc:isT 4 [109,105,110] t = false) (hs:isT 4 [109,97,120] t = true) :
 Calls Tryz.prog 153 #[Φ (some ⟨b,0,none⟩)] w (PPost b ta tn tc T f ((kidsG (exprG (facN n)) r).map fun ks=>(hdB 9 t,ofL ks)) (VEx w.heap.size) w):=by
 have hres:Tryz.f153.results = #[.cell 2 102]:=by kernel_rfl
 have HC0:Hid (CL b ta tn tc T w (t :: r) f (w.alloc (Δ zero5 102))):=CL.start h
 have HPl:Hid (t.pl <= 4000):=(pl_le h).pl
 have hfd:=fld48_3
 have hk1:=isT_kind hs (by decide)
 have HSa:Hid (∀ W,PAt b ta tn tc T (t :: r) f W -> Calls Tryz.prog 138 #[Φ (some ⟨b,0,none⟩),I J 6,Ψ ⟨#[45]⟩] W fun e w'=>e = Ω (.bool false) /\ Below W.heap.size W w'):=fun W h=>by
  have:=sees_calls W h 6 ⟨#[45]⟩
  rw [show (⟨#[45]⟩:ByteArray).data.toList = [45] from rfl,ha] at this; exact this
 have HSb:Hid (∀ W,PAt b ta tn tc T (t :: r) f W -> Calls Tryz.prog 138 #[Φ (some ⟨b,0,none⟩),I J 6,Ψ ⟨#[40]⟩] W fun e w'=>e = Ω (.bool false) /\ Below W.heap.size W w'):=fun W h=>by
  have:=sees_calls W h 6 ⟨#[40]⟩
  rw [show (⟨#[40]⟩:ByteArray).data.toList = [40] from rfl,hb] at this; exact this
 have HSc:Hid (∀ W,PAt b ta tn tc T (t :: r) f W -> Calls Tryz.prog 138 #[Φ (some ⟨b,0,none⟩),I J 4,Ψ ⟨#[109,105,110]⟩] W fun e w'=>e = Ω (.bool false) /\ Below W.heap.size W w'):=fun W h=>by
  have:=sees_calls W h 4 ⟨#[109,105,110]⟩
  rw [show (⟨#[109,105,110]⟩:ByteArray).data.toList = [109,105,110] from rfl,hc] at this; exact this
 have HSs:Hid (∀ W,PAt b ta tn tc T (t :: r) f W -> Calls Tryz.prog 138 #[Φ (some ⟨b,0,none⟩),I J 4,Ψ ⟨#[109,97,120]⟩] W fun e w'=>e = Ω (.bool true) /\ Below W.heap.size W w'):=fun W h=>by
  have:=sees_calls W h 4 ⟨#[109,97,120]⟩
  rw [show (⟨#[109,97,120]⟩:ByteArray).data.toList = [109,97,120] from rfl,hs] at this; exact this
 have HN:Hid (∀ w,PAt b ta tn tc T (t :: r) f w -> Calls Tryz.prog 137 #[Φ (some ⟨b,0,none⟩)] w fun e w'=>e = Ω (.agg #[I J t.kind,I J t.num,Ψ (bs t.text),I J (t.pl:Int)]) /\ Kp b w w' /\ PAt b ta tn tc T r f w'):=fun w h=>nextP_calls w h hk1
 generalize hX:(kidsG (exprG (facN n)) r).map (fun ks=>(hdB 9 t,ofL ks)) = X at *
 have HZ:Hid (∀ v w',Kp b w w' -> PAt b ta tn tc T X.rest (70,plOf X.rest) w' -> X.val = none -> PPost b ta tn tc T f X (VEx w.heap.size) w (.panicked [{ v:=.iface 32 v,recovered:=false }]) w'):=fun v w' h1 h2 h3=>⟨h1,.inr ⟨h3,⟨v,rfl⟩,h2⟩⟩
 cases hx:(kidsG (exprG (facN n)) r).val with
 | none=>
   have HFa:Hid (∀ W,PAt b ta tn tc T r f W -> Calls Tryz.prog 157 #[Φ (some ⟨b,0,none⟩)] W fun e w'=>∃ v,e = .panicked [{ v:=.iface 32 v,recovered:=false }] /\ Kp b W w' /\ PAt b ta tn tc T (kidsG (exprG (facN n)) r).rest (70,plOf (kidsG (exprG (facN n)) r).rest) w'):=fun W hW=>calls_no (HK r f W hW hl) hx
   have HE:Hid (X.val = none /\ X.rest = (kidsG (exprG (facN n)) r).rest):=by rw [<- hX]; exact ⟨by show (kidsG (exprG (facN n)) r).val.map _ = none; rw [hx]; rfl,rfl⟩
   clear hx hX HK h hs hk1
   generalize kidsG (exprG (facN n)) r = y at *
   go_enter Tryz.func153,Tryz.ntmps153
   go_wp2_with fail
   refine (HSa.out _ HC0.out.p).mono ?_
   rintro e w1 ⟨rfl,hb1⟩
   have HC1:Hid (CL b ta tn tc T w (t :: r) f w1):=HC0.out.next hb1
   clear hb1 HSa HC0
   go_wp2_with fail
   refine (HSb.out _ HC1.out.p).mono ?_
   rintro e w2 ⟨rfl,hb2⟩
   have HC2:Hid (CL b ta tn tc T w (t :: r) f w2):=HC1.out.next hb2
   clear hb2 HSb HC1
   go_wp2_with fail
   refine (HSc.out _ HC2.out.p).mono ?_
   rintro e w3 ⟨rfl,hb3⟩
   have HC3:Hid (CL b ta tn tc T w (t :: r) f w3):=HC2.out.next hb3
   clear hb3 HSc HC2
   go_wp2_with fail
   refine (HSs.out _ HC3.out.p).mono ?_
   rintro e w4 ⟨rfl,hb4⟩
   have HC4:Hid (CL b ta tn tc T w (t :: r) f w4):=HC3.out.next hb4
   clear hb4 HSs HC3
   go_wp2_with fail
   refine (HN.out _ HC4.out.p).mono ?_
   rintro e w5 ⟨rfl,hk5,hp5⟩
   have HC5:Hid (CL b ta tn tc T w r f w5):=HC4.out.go hk5 hp5
   clear hk5 hp5 HN HC4
   go_wp2_with fail
   refine (HFa.out _ HC5.out.p).mono ?_
   rintro e wx ⟨v,rfl,hkx,hpx⟩
   exact ⟨rfl,HZ.out _ _ (HC5.out.kp.trans hkx) (by rw [HE.out.2]; exact hpx) HE.out.1⟩
 | some a=>
   have HFa:Hid (∀ W,PAt b ta tn tc T r f W -> Calls Tryz.prog 157 #[Φ (some ⟨b,0,none⟩)] W fun e w'=>∃ ka kn kc,e = Ω (Γ ka kn kc) /\ (kn <= maxLen /\ FoAt true (fun g=>W.heap.size <= g) w' (ofL a) ka kn) /\ Kp b W w' /\ PAt b ta tn tc T (kidsG (exprG (facN n)) r).rest (flt (kidsG (exprG (facN n)) r).many f) w'):=fun W hW=>fo_ok (HK r f W hW hl) hx
   have HE:Hid (X.val = some (hdB 9 t,ofL a) /\ X.rest = (kidsG (exprG (facN n)) r).rest /\ X.many = (kidsG (exprG (facN n)) r).many):=by rw [<- hX]; exact ⟨by show (kidsG (exprG (facN n)) r).val.map _ = some _; rw [hx]; rfl,rfl,rfl⟩
   clear hx hX HK h hs hk1
   generalize kidsG (exprG (facN n)) r = y at *
   go_enter Tryz.func153,Tryz.ntmps153
   go_wp2_with fail
   refine (HSa.out _ HC0.out.p).mono ?_
   rintro e w1 ⟨rfl,hb1⟩
   have HC1:Hid (CL b ta tn tc T w (t :: r) f w1):=HC0.out.next hb1
   clear hb1 HSa HC0
   go_wp2_with fail
   refine (HSb.out _ HC1.out.p).mono ?_
   rintro e w2 ⟨rfl,hb2⟩
   have HC2:Hid (CL b ta tn tc T w (t :: r) f w2):=HC1.out.next hb2
   clear hb2 HSb HC1
   go_wp2_with fail
   refine (HSc.out _ HC2.out.p).mono ?_
   rintro e w3 ⟨rfl,hb3⟩
   have HC3:Hid (CL b ta tn tc T w (t :: r) f w3):=HC2.out.next hb3
   clear hb3 HSc HC2
   go_wp2_with fail
   refine (HSs.out _ HC3.out.p).mono ?_
   rintro e w4 ⟨rfl,hb4⟩
   have HC4:Hid (CL b ta tn tc T w (t :: r) f w4):=HC3.out.next hb4
   clear hb4 HSs HC3
   go_wp2_with fail
   refine (HN.out _ HC4.out.p).mono ?_
   rintro e w5 ⟨rfl,hk5,hp5⟩
   have HC5:Hid (CL b ta tn tc T w r f w5):=HC4.out.go hk5 hp5
   clear hk5 hp5 HN HC4
   go_wp2_with fail
   refine (HFa.out _ HC5.out.p).mono ?_
   rintro e wx ⟨ka,kn,kc,rfl,⟨hEn,hE3⟩,hk3,hp3⟩
   have HCx:Hid (CL b ta tn tc T w y.rest (flt y.many f) wx):=HC5.out.go hk3 hp3
   have HF3:Hid (ExAt true (fun g=>w.heap.size < g) wx (hdB 9 t,ofL a) ka kn):=by
    have h2:=HC5.out.size
    exact ⟨small_ok (by omega) HPl.out,hEn,hE3.base fun g _ hg=>by
     have h4:w5.heap.size <= g:=hg
     show w.heap.size < g
     omega⟩
   obtain ⟨z0,z1,z2,z3,z4,zf⟩:=HCx.out.zeros
   have HD:Hid _:=HCx.out.done (kc:=kc) HF3.out
   clear hEn hE3 hk3 hp3 HFa HC5 HF3 HCx
   go_wp2
   refine bodyPost_ret (v:=.agg #[I J 9,I J 0,Ψ ⟨#[]⟩,Γ ka kn kc,I J (t.pl:Int)]) ?_ rfl ?_
   ·simp only [results,hres]
    go_simp
   ·refine ⟨HD.out.1,.inl ⟨_,_,HE.out.1,rfl,HD.out.2.2,?_⟩⟩
    rw [HE.out.2.1,HE.out.2.2]
    exact HD.out.2.1
theorem comp_wrong {b:Nat} {ta:Option Addr} {tn tc:Nat} {T:List Tk} {f:Int × Int} (w:World) {t:Tk} {r:List Tk} (h:PAt b ta tn tc T (t :: r) f w)
 (ha:isT 6 [45] t = false) (hb:isT 6 [40] t = false) (hc:isT 4 [109,105,110] t = false) (hd:isT 4 [109,97,120] t = false) :
 Calls Tryz.prog 153 #[Φ (some ⟨b,0,none⟩)] w (PPost b ta tn tc T f (wrong' (t :: r)) (VEx w.heap.size) w):=by
 have HC0:Hid (CL b ta tn tc T w (t :: r) f (w.alloc (Δ zero5 102))):=CL.start h
 have HSa:Hid (∀ W,PAt b ta tn tc T (t :: r) f W -> Calls Tryz.prog 138 #[Φ (some ⟨b,0,none⟩),I J 6,Ψ ⟨#[45]⟩] W fun e w'=>e = Ω (.bool false) /\ Below W.heap.size W w'):=fun W h=>by
  have:=sees_calls W h 6 ⟨#[45]⟩
  rw [show (⟨#[45]⟩:ByteArray).data.toList = [45] from rfl,ha] at this; exact this
 have HSb:Hid (∀ W,PAt b ta tn tc T (t :: r) f W -> Calls Tryz.prog 138 #[Φ (some ⟨b,0,none⟩),I J 6,Ψ ⟨#[40]⟩] W fun e w'=>e = Ω (.bool false) /\ Below W.heap.size W w'):=fun W h=>by
  have:=sees_calls W h 6 ⟨#[40]⟩
  rw [show (⟨#[40]⟩:ByteArray).data.toList = [40] from rfl,hb] at this; exact this
 have HSc:Hid (∀ W,PAt b ta tn tc T (t :: r) f W -> Calls Tryz.prog 138 #[Φ (some ⟨b,0,none⟩),I J 4,Ψ ⟨#[109,105,110]⟩] W fun e w'=>e = Ω (.bool false) /\ Below W.heap.size W w'):=fun W h=>by
  have:=sees_calls W h 4 ⟨#[109,105,110]⟩
  rw [show (⟨#[109,105,110]⟩:ByteArray).data.toList = [109,105,110] from rfl,hc] at this; exact this
 have HSd:Hid (∀ W,PAt b ta tn tc T (t :: r) f W -> Calls Tryz.prog 138 #[Φ (some ⟨b,0,none⟩),I J 4,Ψ ⟨#[109,97,120]⟩] W fun e w'=>e = Ω (.bool false) /\ Below W.heap.size W w'):=fun W h=>by
  have:=sees_calls W h 4 ⟨#[109,97,120]⟩
  rw [show (⟨#[109,97,120]⟩:ByteArray).data.toList = [109,97,120] from rfl,hd] at this; exact this
 have HN:Hid (∀ w,PAt b ta tn tc T (t :: r) f w -> Calls Tryz.prog 136 #[Φ (some ⟨b,0,none⟩)] w fun e w'=>e = Ω (.agg #[I J 70,I J (t.pl:Int)]) /\ Kp b w w' /\ PAt b ta tn tc T (t :: r) (70,t.pl) w'):=fun w h=>wrong_calls w h
 clear h
 go_enter Tryz.func153,Tryz.ntmps153
 go_wp2_with fail
 refine (HSa.out _ HC0.out.p).mono ?_
 rintro e w1 ⟨rfl,hb1⟩
 have HC1:Hid (CL b ta tn tc T w (t :: r) f w1):=HC0.out.next hb1
 clear hb1 HSa HC0
 go_wp2_with fail
 refine (HSb.out _ HC1.out.p).mono ?_
 rintro e w2 ⟨rfl,hb2⟩
 have HC2:Hid (CL b ta tn tc T w (t :: r) f w2):=HC1.out.next hb2
 clear hb2 HSb HC1
 go_wp2_with fail
 refine (HSc.out _ HC2.out.p).mono ?_
 rintro e w3 ⟨rfl,hb3⟩
 have HC3:Hid (CL b ta tn tc T w (t :: r) f w3):=HC2.out.next hb3
 clear hb3 HSc HC2
 go_wp2_with fail
 refine (HSd.out _ HC3.out.p).mono ?_
 rintro e w4 ⟨rfl,hb4⟩
 have HC4:Hid (CL b ta tn tc T w (t :: r) f w4):=HC3.out.next hb4
 clear hb4 HSd HC3
 go_wp2_with fail
 refine (HN.out _ HC4.out.p).mono ?_
 rintro e wx ⟨rfl,hkx,hpx⟩
 have HR:Hid (Kp b w wx /\ PAt b ta tn tc T (t :: r) (70,t.pl) wx):=⟨HC4.out.kp.trans hkx,hpx⟩
 clear hkx hpx HC4 HN
 go_wp2
 exact ⟨rfl,HR.out.1,.inr ⟨rfl,⟨_,rfl⟩,HR.out.2⟩⟩
set_option maxRecDepth 20000
set_option maxHeartbeats 2000000
theorem comp_calls {b:Nat} {ta:Option Addr} {tn tc:Nat} {T:List Tk} {n:Nat} {f:Int × Int} (w:World) {t:Tk} {r:List Tk} (h:PAt b ta tn tc T (t :: r) f w) (hl:r.length <= n)
 (HF:∀ l f w,PAt b ta tn tc T l f w -> l.length <= n -> Calls Tryz.prog 148 #[Φ (some ⟨b,0,none⟩)] w (PPost b ta tn tc T f (facN n l) (VEx w.heap.size) w))
 (h2:t.kind ≠ 2) (h3:t.kind ≠ 3) (h5:t.kind ≠ 5):Calls Tryz.prog 153 #[Φ (some ⟨b,0,none⟩)] w (PPost b ta tn tc T f (facN (n + 1) (t :: r)) (VEx w.heap.size) w):=by
 have HE:=expr_calls n (term_calls n HF)
 have HK:=kids_calls n (exprG (facN n)) (expr_suf (fac_suf n)) HE
 rw [facN,if_neg h2,if_neg h3,if_neg h5]
 cases ha:isT 6 [45] t with
 | true=>rw [if_pos rfl]; exact comp_neg w h hl HF ha
 | false=>
   rw [if_neg (by decide)]
   cases hb:isT 6 [40] t with
   | true=>rw [if_pos rfl]; exact comp_paren w h hl HE ha hb
   | false=>
     rw [if_neg (by decide)]
     unfold wMin wMax
     cases hc:isT 4 [109,105,110] t with
     | true=>rw [if_pos rfl]; exact comp_min w h hl HK ha hb hc
     | false=>
       rw [if_neg (by decide)]
       cases hd:isT 4 [109,97,120] t with
       | true=>rw [if_pos rfl]; exact comp_max w h hl HK ha hb hc hd
       | false=>rw [if_neg (by decide)]; exact comp_wrong w h ha hb hc hd
theorem tk_hd {t:Tk} (h:TkOk t) {k:Int} (hk:0 <= k /\ k <= 100) {z:Int} {s:List UInt8} (hz:z = t.num \/ z = 0) (hs:s = t.text \/ s = []):HdOk ⟨k,z,s,t.pl⟩:=by
 have h1:=h.num
 have h2:=h.text
 have h3:=h.pl
 refine ⟨?_,?_,?_,?_⟩
 ·show InR k; unfold InR; omega
 ·show InR z; unfold InR; omega
 ·show s.length <= maxLen
  unfold maxLen
  rcases hs with rfl | rfl
  ·omega
  ·simp
 ·show InR (t.pl:Int); unfold InR; omega
theorem fac_lit2 {b:Nat} {ta:Option Addr} {tn tc:Nat} {T:List Tk} {f:Int × Int} (w:World) {t:Tk} {r:List Tk} (h:PAt b ta tn tc T (t :: r) f w) (hk:t.kind = 2) :
 Calls Tryz.prog 148 #[Φ (some ⟨b,0,none⟩)] w (PPost b ta tn tc T f (pure' ((⟨1,t.num,[],t.pl⟩:Hd),(BT.nil:Fo)) r) (VEx w.heap.size) w):=by
 have hres:Tryz.f148.results = #[.cell 2 102]:=by kernel_rfl
 have HC0:Hid (CL b ta tn tc T w (t :: r) f (w.alloc (Δ zero5 102))):=CL.start h
 have HOk:Hid (TkOk t):=pl_le h
 have hfd:=fld48_0
 have HH:Hid (∀ w,PAt b ta tn tc T (t :: r) f w -> Calls Tryz.prog 74 #[Φ (some ⟨b,0,none⟩)] w fun e w'=>e = Ω (.agg #[I J t.kind,I J t.num,Ψ (bs t.text),I J (t.pl:Int)]) /\ Below w.heap.size w w'):=fun w h=>here_calls w h
 have HN:Hid (∀ w,PAt b ta tn tc T (t :: r) f w -> Calls Tryz.prog 137 #[Φ (some ⟨b,0,none⟩)] w fun e w'=>e = Ω (.agg #[I J t.kind,I J t.num,Ψ (bs t.text),I J (t.pl:Int)]) /\ Kp b w w' /\ PAt b ta tn tc T r f w'):=fun w h=>nextP_calls w h (by rw [hk]; decide)
 have q2:(t.kind == 2) = true:=by rw [hk]; decide
 clear hk h
 go_enter Tryz.func148,Tryz.ntmps148
 go_wp2_with fail
 refine (HH.out _ HC0.out.p).mono ?_
 rintro e w1 ⟨rfl,hb1⟩
 have HC1:Hid (CL b ta tn tc T w (t :: r) f w1):=HC0.out.next hb1
 clear hb1 HH HC0
 go_wp2_with fail
 refine (HN.out _ HC1.out.p).mono ?_
 rintro e w2 ⟨rfl,hk2,hp2⟩
 have HC2:Hid (∀ o,CL b ta tn tc T w r f (w2.alloc o)):=fun o=>(HC1.out.go hk2 hp2).next ((Below.refl _ _).alloc (Nat.le_refl _) o)
 have HF3:Hid (∀ o,ExAt true (fun g=>w.heap.size < g) (w2.alloc o) (⟨1,t.num,[],t.pl⟩,(BT.nil:Fo)) none 0):=fun o=>⟨tk_hd HOk.out (by omega) (.inl rfl) (.inr rfl),Nat.zero_le _,rfl⟩
 have z0:=fun o=>(HC2.out o).zeros.1
 have z1:=fun o=>(HC2.out o).zeros.2.1
 have z2:=fun o=>(HC2.out o).zeros.2.2.1
 have z3:=fun o=>(HC2.out o).zeros.2.2.2.1
 have z4:=fun o=>(HC2.out o).zeros.2.2.2.2.1
 have zf:=fun o i=>(HC2.out o).zeros.2.2.2.2.2 i
 have hne:¬ w.heap.size = w2.heap.size:=by have:=HC1.out.size; have:=hk2.size; omega
 have HD:Hid (∀ o,_):=fun o=>(HC2.out o).done (kc:=0) (HF3.out o)
 clear hk2 hp2 HN HC1
 go_wp2
 refine bodyPost_ret (v:=.agg #[I J 1,I J t.num,Ψ ⟨#[]⟩,Γ none 0 0,I J (t.pl:Int)]) ?_ rfl ?_
 ·simp only [results,hres]
  go_simp
 ·refine ⟨(HD.out _).1,.inl ⟨_,_,rfl,rfl,(HD.out _).2.2,?_⟩⟩
  exact (flt_nil f).symm ▸ (HD.out _).2.1
theorem fac_lit3 {b:Nat} {ta:Option Addr} {tn tc:Nat} {T:List Tk} {f:Int × Int} (w:World) {t:Tk} {r:List Tk} (h:PAt b ta tn tc T (t :: r) f w) (hk:t.kind = 3) :
 Calls Tryz.prog 148 #[Φ (some ⟨b,0,none⟩)] w (PPost b ta tn tc T f (pure' ((⟨2,0,t.text,t.pl⟩:Hd),(BT.nil:Fo)) r) (VEx w.heap.size) w):=by
 have hres:Tryz.f148.results = #[.cell 2 102]:=by kernel_rfl
 have HC0:Hid (CL b ta tn tc T w (t :: r) f (w.alloc (Δ zero5 102))):=CL.start h
 have HOk:Hid (TkOk t):=pl_le h
 have hfd:=fld48_0
 have HH:Hid (∀ w,PAt b ta tn tc T (t :: r) f w -> Calls Tryz.prog 74 #[Φ (some ⟨b,0,none⟩)] w fun e w'=>e = Ω (.agg #[I J t.kind,I J t.num,Ψ (bs t.text),I J (t.pl:Int)]) /\ Below w.heap.size w w'):=fun w h=>here_calls w h
 have HN:Hid (∀ w,PAt b ta tn tc T (t :: r) f w -> Calls Tryz.prog 137 #[Φ (some ⟨b,0,none⟩)] w fun e w'=>e = Ω (.agg #[I J t.kind,I J t.num,Ψ (bs t.text),I J (t.pl:Int)]) /\ Kp b w w' /\ PAt b ta tn tc T r f w'):=fun w h=>nextP_calls w h (by rw [hk]; decide)
 have q2:(t.kind == 2) = false:=by rw [hk]; decide
 have q3:(t.kind == 3) = true:=by rw [hk]; decide
 clear hk h
 go_enter Tryz.func148,Tryz.ntmps148
 go_wp2_with fail
 refine (HH.out _ HC0.out.p).mono ?_
 rintro e w1 ⟨rfl,hb1⟩
 have HC1:Hid (CL b ta tn tc T w (t :: r) f w1):=HC0.out.next hb1
 clear hb1 HH HC0
 go_wp2_with fail
 refine (HN.out _ HC1.out.p).mono ?_
 rintro e w2 ⟨rfl,hk2,hp2⟩
 have HC2:Hid (∀ o,CL b ta tn tc T w r f (w2.alloc o)):=fun o=>(HC1.out.go hk2 hp2).next ((Below.refl _ _).alloc (Nat.le_refl _) o)
 have HF3:Hid (∀ o,ExAt true (fun g=>w.heap.size < g) (w2.alloc o) (⟨2,0,t.text,t.pl⟩,(BT.nil:Fo)) none 0):=fun o=>⟨tk_hd HOk.out (by omega) (.inr rfl) (.inl rfl),Nat.zero_le _,rfl⟩
 have z0:=fun o=>(HC2.out o).zeros.1
 have z1:=fun o=>(HC2.out o).zeros.2.1
 have z2:=fun o=>(HC2.out o).zeros.2.2.1
 have z3:=fun o=>(HC2.out o).zeros.2.2.2.1
 have z4:=fun o=>(HC2.out o).zeros.2.2.2.2.1
 have zf:=fun o i=>(HC2.out o).zeros.2.2.2.2.2 i
 have hne:¬ w.heap.size = w2.heap.size:=by have:=HC1.out.size; have:=hk2.size; omega
 have HD:Hid (∀ o,_):=fun o=>(HC2.out o).done (kc:=0) (HF3.out o)
 clear hk2 hp2 HN HC1
 go_wp2
 refine bodyPost_ret (v:=.agg #[I J 2,I J 0,Ψ (bs t.text),Γ none 0 0,I J (t.pl:Int)]) ?_ rfl ?_
 ·simp only [results,hres]
  go_simp
 ·refine ⟨(HD.out _).1,.inl ⟨_,_,rfl,rfl,(HD.out _).2.2,?_⟩⟩
  exact (flt_nil f).symm ▸ (HD.out _).2.1
theorem fac_lit5 {b:Nat} {ta:Option Addr} {tn tc:Nat} {T:List Tk} {f:Int × Int} (w:World) {t:Tk} {r:List Tk} (h:PAt b ta tn tc T (t :: r) f w) (hk:t.kind = 5) :
 Calls Tryz.prog 148 #[Φ (some ⟨b,0,none⟩)] w (PPost b ta tn tc T f (pure' ((⟨3,0,t.text,t.pl⟩:Hd),(BT.nil:Fo)) r) (VEx w.heap.size) w):=by
 have hres:Tryz.f148.results = #[.cell 2 102]:=by kernel_rfl
 have HC0:Hid (CL b ta tn tc T w (t :: r) f (w.alloc (Δ zero5 102))):=CL.start h
 have HOk:Hid (TkOk t):=pl_le h
 have hfd:=fld48_0
 have HH:Hid (∀ w,PAt b ta tn tc T (t :: r) f w -> Calls Tryz.prog 74 #[Φ (some ⟨b,0,none⟩)] w fun e w'=>e = Ω (.agg #[I J t.kind,I J t.num,Ψ (bs t.text),I J (t.pl:Int)]) /\ Below w.heap.size w w'):=fun w h=>here_calls w h
 have HN:Hid (∀ w,PAt b ta tn tc T (t :: r) f w -> Calls Tryz.prog 137 #[Φ (some ⟨b,0,none⟩)] w fun e w'=>e = Ω (.agg #[I J t.kind,I J t.num,Ψ (bs t.text),I J (t.pl:Int)]) /\ Kp b w w' /\ PAt b ta tn tc T r f w'):=fun w h=>nextP_calls w h (by rw [hk]; decide)
 have q2:(t.kind == 2) = false:=by rw [hk]; decide
 have q3:(t.kind == 3) = false:=by rw [hk]; decide
 have q5:(t.kind == 5) = true:=by rw [hk]; decide
 clear hk h
 go_enter Tryz.func148,Tryz.ntmps148
 go_wp2_with fail
 refine (HH.out _ HC0.out.p).mono ?_
 rintro e w1 ⟨rfl,hb1⟩
 have HC1:Hid (CL b ta tn tc T w (t :: r) f w1):=HC0.out.next hb1
 clear hb1 HH HC0
 go_wp2_with fail
 refine (HN.out _ HC1.out.p).mono ?_
 rintro e w2 ⟨rfl,hk2,hp2⟩
 have HC2:Hid (∀ o,CL b ta tn tc T w r f (w2.alloc o)):=fun o=>(HC1.out.go hk2 hp2).next ((Below.refl _ _).alloc (Nat.le_refl _) o)
 have HF3:Hid (∀ o,ExAt true (fun g=>w.heap.size < g) (w2.alloc o) (⟨3,0,t.text,t.pl⟩,(BT.nil:Fo)) none 0):=fun o=>⟨tk_hd HOk.out (by omega) (.inr rfl) (.inl rfl),Nat.zero_le _,rfl⟩
 have z0:=fun o=>(HC2.out o).zeros.1
 have z1:=fun o=>(HC2.out o).zeros.2.1
 have z2:=fun o=>(HC2.out o).zeros.2.2.1
 have z3:=fun o=>(HC2.out o).zeros.2.2.2.1
 have z4:=fun o=>(HC2.out o).zeros.2.2.2.2.1
 have zf:=fun o i=>(HC2.out o).zeros.2.2.2.2.2 i
 have hne:¬ w.heap.size = w2.heap.size:=by have:=HC1.out.size; have:=hk2.size; omega
 have HD:Hid (∀ o,_):=fun o=>(HC2.out o).done (kc:=0) (HF3.out o)
 clear hk2 hp2 HN HC1
 go_wp2
 refine bodyPost_ret (v:=.agg #[I J 3,I J 0,Ψ (bs t.text),Γ none 0 0,I J (t.pl:Int)]) ?_ rfl ?_
 ·simp only [results,hres]
  go_simp
 ·refine ⟨(HD.out _).1,.inl ⟨_,_,rfl,rfl,(HD.out _).2.2,?_⟩⟩
  exact (flt_nil f).symm ▸ (HD.out _).2.1
theorem fac_comp {b:Nat} {ta:Option Addr} {tn tc:Nat} {T:List Tk} {n:Nat} {f:Int × Int} (w:World) {t:Tk} {r:List Tk} (h:PAt b ta tn tc T (t :: r) f w) (hl:r.length <= n)
 (HF:∀ l f w,PAt b ta tn tc T l f w -> l.length <= n -> Calls Tryz.prog 148 #[Φ (some ⟨b,0,none⟩)] w (PPost b ta tn tc T f (facN n l) (VEx w.heap.size) w))
 (h2:t.kind ≠ 2) (h3:t.kind ≠ 3) (h5:t.kind ≠ 5):Calls Tryz.prog 148 #[Φ (some ⟨b,0,none⟩)] w (PPost b ta tn tc T f (facN (n + 1) (t :: r)) (VEx w.heap.size) w):=by
 have hres:Tryz.f148.results = #[.cell 2 102]:=by kernel_rfl
 have HC0:Hid (CL b ta tn tc T w (t :: r) f (w.alloc (Δ zero5 102))):=CL.start h
 have HOk:Hid (TkOk t):=pl_le h
 have hfd:=fld48_0
 have HH:Hid (∀ w,PAt b ta tn tc T (t :: r) f w -> Calls Tryz.prog 74 #[Φ (some ⟨b,0,none⟩)] w fun e w'=>e = Ω (.agg #[I J t.kind,I J t.num,Ψ (bs t.text),I J (t.pl:Int)]) /\ Below w.heap.size w w'):=fun w h=>here_calls w h
 have q2:(t.kind == 2) = false:=by rw [beq_eq_false_iff_ne]; exact h2
 have q3:(t.kind == 3) = false:=by rw [beq_eq_false_iff_ne]; exact h3
 have q5:(t.kind == 5) = false:=by rw [beq_eq_false_iff_ne]; exact h5
 have HM:Hid (∀ W,PAt b ta tn tc T (t :: r) f W -> Calls Tryz.prog 153 #[Φ (some ⟨b,0,none⟩)] W (PPost b ta tn tc T f (facN (n + 1) (t :: r)) (VEx W.heap.size) W)):=fun W hW=>comp_calls W hW hl HF h2 h3 h5
 generalize facN (n + 1) (t :: r) = X at *
 clear h2 h3 h5 HF h
 cases hx:X.val with
 | none=>
   have HN:Hid (∀ W,PAt b ta tn tc T (t :: r) f W -> Calls Tryz.prog 153 #[Φ (some ⟨b,0,none⟩)] W fun e w'=>∃ v,e = .panicked [{ v:=.iface 32 v,recovered:=false }] /\ Kp b W w' /\ PAt b ta tn tc T X.rest (70,plOf X.rest) w'):=fun W hW=>calls_no (HM.out W hW) hx
   have HXn:Hid (X.val = none):=hx
   clear HM hx
   go_enter Tryz.func148,Tryz.ntmps148
   go_wp2_with fail
   refine (HH.out _ HC0.out.p).mono ?_
   rintro e w1 ⟨rfl,hb1⟩
   have HC1:Hid (CL b ta tn tc T w (t :: r) f w1):=HC0.out.next hb1
   clear hb1 HH HC0
   go_wp2_with fail
   refine (HN.out _ HC1.out.p).mono ?_
   rintro e w2 ⟨v,rfl,hk2,hp2⟩
   exact ⟨rfl,HC1.out.kp.trans hk2,.inr ⟨HXn.out,⟨v,rfl⟩,hp2⟩⟩
 | some a=>
   have HN:Hid (∀ W,PAt b ta tn tc T (t :: r) f W -> Calls Tryz.prog 153 #[Φ (some ⟨b,0,none⟩)] W fun e w'=>∃ ka kn kc,e = Ω (.agg #[I J a.1.kind,I J a.1.num,Ψ (bs a.1.text),Γ ka kn kc,I J a.1.pl]) /\ ExAt true (fun g=>W.heap.size <= g) w' a ka kn /\ Kp b W w' /\ PAt b ta tn tc T X.rest (flt X.many f) w'):=fun W hW=>ex_ok (HM.out W hW) hx
   have HXn:Hid (X.val = some a):=hx
   clear HM hx
   go_enter Tryz.func148,Tryz.ntmps148
   go_wp2_with fail
   refine (HH.out _ HC0.out.p).mono ?_
   rintro e w1 ⟨rfl,hb1⟩
   have HC1:Hid (CL b ta tn tc T w (t :: r) f w1):=HC0.out.next hb1
   clear hb1 HH HC0
   go_wp2_with fail
   refine (HN.out _ HC1.out.p).mono ?_
   rintro e w2 ⟨ka,kn,kc,rfl,hE2,hk2,hp2⟩
   have HC2:Hid (CL b ta tn tc T w X.rest (flt X.many f) w2):=HC1.out.go hk2 hp2
   have HF3:Hid (ExAt true (fun g=>w.heap.size < g) w2 a ka kn):=hE2.base fun g _ hg=>by
    have h4:w1.heap.size <= g:=hg
    have h5:=HC1.out.size
    show w.heap.size < g
    omega
   obtain ⟨z0,z1,z2,z3,z4,zf⟩:=HC2.out.zeros
   have HD:Hid _:=HC2.out.done (kc:=kc) HF3.out
   clear hE2 hk2 hp2 HN HC1 HC2 HF3
   go_wp2
   refine bodyPost_ret (v:=.agg #[I J a.1.kind,I J a.1.num,Ψ (bs a.1.text),Γ ka kn kc,I J a.1.pl]) ?_ rfl ?_
   ·simp only [results,hres]
    go_simp
   ·exact ⟨HD.out.1,.inl ⟨_,_,HXn.out,rfl,HD.out.2.2,HD.out.2.1⟩⟩
theorem fac_calls {b:Nat} {ta:Option Addr} {tn tc:Nat} {T:List Tk}:∀ (n:Nat) (l:List Tk) (f:Int × Int) (w:World),PAt b ta tn tc T l f w -> l.length <= n -> Calls Tryz.prog 148 #[Φ (some ⟨b,0,none⟩)] w (PPost b ta tn tc T f (facN n l) (VEx w.heap.size) w)
 | 0,l,f,w,h,hl=>by
   obtain ⟨t,r,rfl⟩:=h.here1
   simp at hl
 | n + 1,l,f,w,h,hl=>by
   obtain ⟨t,r,rfl⟩:=h.here1
   have hl':r.length <= n:=by simpa using hl
   by_cases h2:t.kind = 2
   ·rw [facN,if_pos h2]; exact fac_lit2 w h h2
   ·by_cases h3:t.kind = 3
    ·rw [facN,if_neg h2,if_pos h3]; exact fac_lit3 w h h3
    ·by_cases h5:t.kind = 5
     ·rw [facN,if_neg h2,if_neg h3,if_pos h5]; exact fac_lit5 w h h5
     ·exact fac_comp w h hl' (fac_calls n) h2 h3 h5
theorem exprN_calls {b:Nat} {ta:Option Addr} {tn tc:Nat} {T:List Tk} (n:Nat) (l:List Tk) (f:Int × Int) (w:World) (h:PAt b ta tn tc T l f w) (hl:l.length <= n):Calls Tryz.prog 112 #[Φ (some ⟨b,0,none⟩)] w (PPost b ta tn tc T f (exprN n l) (VEx w.heap.size) w):=
 expr_calls n (term_calls n (fac_calls n)) l f w h hl
open Go.Value renaming int->I,pointer->Φ,string->Ψ
set_option maxRecDepth 20000
set_option maxHeartbeats 2000000
theorem eqL {s:ByteArray} {l:List UInt8}:(s.toList == l) = true ↔ s.data.toList = l:=by rw [ByteArray.toList_eq,beq_iff_eq]
theorem neL {s:ByteArray} {l:List UInt8}:(s.toList == l) = false ↔ s.data.toList ≠ l:=by rw [ByteArray.toList_eq,beq_eq_false_iff_ne]
theorem itemKind_calls (s:ByteArray) (w:World) :
 Calls Tryz.prog 135 #[Ψ s] w fun e w'=>e = Ω (I J (itemKindB s.data.toList)) /\ w' = w:=by
 unfold itemKindB
 cases h0:(s.toList == [108,101,116]) with
 | true=>
   have HE:Hid (s.data.toList = [108,101,116]):=eqL.1 h0
   rw [show s.data.toList = [108,101,116] from HE.out]
   go_enter Tryz.func135,Tryz.ntmps135
   go_wp2
   go_ret
   exact ⟨rfl,rfl⟩
 | false=>
   rw [if_neg (neL.1 h0)]
   cases h1:(s.toList == [97,108,112,104,97,98,101,116]) with
   | true=>
     have HE:Hid (s.data.toList = [97,108,112,104,97,98,101,116]):=eqL.1 h1
     rw [show s.data.toList = [97,108,112,104,97,98,101,116] from HE.out]
     go_enter Tryz.func135,Tryz.ntmps135
     go_wp2
     go_ret
     exact ⟨rfl,rfl⟩
   | false=>
     rw [if_neg (neL.1 h1)]
     cases h2:(s.toList == [109,97,116,99,104]) with
     | true=>
       have HE:Hid (s.data.toList = [109,97,116,99,104]):=eqL.1 h2
       rw [show s.data.toList = [109,97,116,99,104] from HE.out]
       go_enter Tryz.func135,Tryz.ntmps135
       go_wp2
       go_ret
       exact ⟨rfl,rfl⟩
     | false=>
       rw [if_neg (neL.1 h2)]
       cases h3:(s.toList == [109,105,115,109,97,116,99,104]) with
       | true=>
         have HE:Hid (s.data.toList = [109,105,115,109,97,116,99,104]):=eqL.1 h3
         rw [show s.data.toList = [109,105,115,109,97,116,99,104] from HE.out]
         go_enter Tryz.func135,Tryz.ntmps135
         go_wp2
         go_ret
         exact ⟨rfl,rfl⟩
       | false=>
         rw [if_neg (neL.1 h3)]
         cases h4:(s.toList == [112,97,105,114]) with
         | true=>
           have HE:Hid (s.data.toList = [112,97,105,114]):=eqL.1 h4
           rw [show s.data.toList = [112,97,105,114] from HE.out]
           go_enter Tryz.func135,Tryz.ntmps135
           go_wp2
           go_ret
           exact ⟨rfl,rfl⟩
         | false=>
           rw [if_neg (neL.1 h4)]
           cases h5:(s.toList == [103,97,112]) with
           | true=>
             have HE:Hid (s.data.toList = [103,97,112]):=eqL.1 h5
             rw [show s.data.toList = [103,97,112] from HE.out]
             go_enter Tryz.func135,Tryz.ntmps135
             go_wp2
             go_ret
             exact ⟨rfl,rfl⟩
           | false=>
             rw [if_neg (neL.1 h5)]
             cases h6:(s.toList == [109,111,100,101]) with
             | true=>
               have HE:Hid (s.data.toList = [109,111,100,101]):=eqL.1 h6
               rw [show s.data.toList = [109,111,100,101] from HE.out]
               go_enter Tryz.func135,Tryz.ntmps135
               go_wp2
               go_ret
               exact ⟨rfl,rfl⟩
             | false=>
               rw [if_neg (neL.1 h6)]
               cases h7:(s.toList == [98,97,110,100]) with
               | true=>
                 have HE:Hid (s.data.toList = [98,97,110,100]):=eqL.1 h7
                 rw [show s.data.toList = [98,97,110,100] from HE.out]
                 go_enter Tryz.func135,Tryz.ntmps135
                 go_wp2
                 go_ret
                 exact ⟨rfl,rfl⟩
               | false=>
                 rw [if_neg (neL.1 h7)]
                 cases h8:(s.toList == [99,108,105,112]) with
                 | true=>
                   have HE:Hid (s.data.toList = [99,108,105,112]):=eqL.1 h8
                   rw [show s.data.toList = [99,108,105,112] from HE.out]
                   go_enter Tryz.func135,Tryz.ntmps135
                   go_wp2
                   go_ret
                   exact ⟨rfl,rfl⟩
                 | false=>
                   rw [if_neg (neL.1 h8)]
                   cases h9:(s.toList == [108,101,97,115,116]) with
                   | true=>
                     have HE:Hid (s.data.toList = [108,101,97,115,116]):=eqL.1 h9
                     rw [show s.data.toList = [108,101,97,115,116] from HE.out]
                     go_enter Tryz.func135,Tryz.ntmps135
                     go_wp2
                     go_ret
                     exact ⟨rfl,rfl⟩
                   | false=>
                     rw [if_neg (neL.1 h9)]
                     go_enter Tryz.func135,Tryz.ntmps135
                     go_wp2
                     go_ret
                     exact ⟨rfl,rfl⟩
theorem isWay_calls (s:ByteArray) (w:World) :
 Calls Tryz.prog 87 #[Ψ s] w fun e w'=>e = Ω (.bool (isWayB s.data.toList)) /\ w' = w:=by
 cases h0:(s.toList == [103,108,111,98,97,108]) with
 | true=>
   have HE:Hid (isWayB s.data.toList = true):=by show isWayB s.data.toList = true; rw [eqL.1 h0]; decide
   go_enter Tryz.func87,Tryz.ntmps87
   go_wp2
   go_ret
   exact ⟨ret_bool HE.out.symm,rfl⟩
 | false=>
   cases h1:(s.toList == [102,105,116]) with
   | true=>
     have HE:Hid (isWayB s.data.toList = true):=by show isWayB s.data.toList = true; rw [eqL.1 h1]; decide
     go_enter Tryz.func87,Tryz.ntmps87
     go_wp2
     go_ret
     exact ⟨ret_bool HE.out.symm,rfl⟩
   | false=>
     cases h2:(s.toList == [108,111,99,97,108]) with
     | true=>
       have HE:Hid (isWayB s.data.toList = true):=by show isWayB s.data.toList = true; rw [eqL.1 h2]; decide
       go_enter Tryz.func87,Tryz.ntmps87
       go_wp2
       go_ret
       exact ⟨ret_bool HE.out.symm,rfl⟩
     | false=>
       cases h3:(s.toList == [101,120,116,101,110,100]) with
       | true=>
         have HE:Hid (isWayB s.data.toList = true):=by show isWayB s.data.toList = true; rw [eqL.1 h3]; decide
         go_enter Tryz.func87,Tryz.ntmps87
         go_wp2
         go_ret
         exact ⟨ret_bool HE.out.symm,rfl⟩
       | false=>
         have HE:Hid (isWayB s.data.toList = false):=by
          show isWayB s.data.toList = false
          unfold isWayB
          simp only [Bool.or_eq_false_iff,decide_eq_false_iff_not]
          exact ⟨⟨⟨neL.1 h0,neL.1 h1⟩,neL.1 h2⟩,neL.1 h3⟩
         go_enter Tryz.func87,Tryz.ntmps87
         go_wp2
         go_ret
         exact ⟨ret_bool HE.out.symm,rfl⟩
theorem name_calls {b:Nat} {ta:Option Addr} {tn tc:Nat} {T:List Tk} {f:Int × Int} (w:World) {t:Tk} {r:List Tk} (h:PAt b ta tn tc T (t :: r) f w) :
 Calls Tryz.prog 110 #[Φ (some ⟨b,0,none⟩)] w (PPost b ta tn tc T f (nameG (t :: r)) VS w):=by
 have HP:Hid (PAt b ta tn tc T (t :: r) f w):=h
 have hfd:=fld48_0
 have hfd2:=fld48_2
 have HH:Hid (∀ w,PAt b ta tn tc T (t :: r) f w -> Calls Tryz.prog 74 #[Φ (some ⟨b,0,none⟩)] w fun e w'=>e = Ω (.agg #[I J t.kind,I J t.num,Ψ (bs t.text),I J (t.pl:Int)]) /\ Below w.heap.size w w'):=fun w h=>here_calls w h
 by_cases hk:t.kind = 3
 ·have q:(t.kind != 3) = false:=by rw [hk]; rfl
  have HN:Hid (∀ w,PAt b ta tn tc T (t :: r) f w -> Calls Tryz.prog 137 #[Φ (some ⟨b,0,none⟩)] w fun e w'=>e = Ω (.agg #[I J t.kind,I J t.num,Ψ (bs t.text),I J (t.pl:Int)]) /\ Kp b w w' /\ PAt b ta tn tc T r f w'):=fun w h=>nextP_calls w h (by rw [hk]; decide)
  have HE:Hid (nameG (t :: r) = pure' t.text r):=by show (if t.kind = 3 then pure' t.text r else wrong' (t :: r)) = _; rw [if_pos hk]
  clear hk h
  go_enter Tryz.func110,Tryz.ntmps110
  go_wp2_with fail
  refine (HH.out _ HP.out).mono ?_
  rintro e w1 ⟨rfl,hb1⟩
  have H1:Hid (Below w.heap.size w w1 /\ PAt b ta tn tc T (t :: r) f w1):=⟨hb1,HP.out.below hb1⟩
  clear hb1
  go_wp2_with fail
  refine (HN.out _ H1.out.2).mono ?_
  rintro e w2 ⟨rfl,hk2,hp2⟩
  have H2:Hid (Kp b w w2 /\ PAt b ta tn tc T r f w2):=⟨(Kp.of_below H1.out.1).trans hk2,hp2⟩
  clear hk2 hp2 H1 HN HH
  go_wp2
  go_ret
  rw [HE.out]
  exact ⟨H2.out.1,.inl ⟨_,_,rfl,rfl,rfl,by show PAt b ta tn tc T r (flt [] f) _; rw [flt_nil]; exact H2.out.2⟩⟩
 ·have q:(t.kind != 3) = true:=by simpa using hk
  have HW:Hid (∀ w,PAt b ta tn tc T (t :: r) f w -> Calls Tryz.prog 136 #[Φ (some ⟨b,0,none⟩)] w fun e w'=>e = Ω (.agg #[I J 70,I J (t.pl:Int)]) /\ Kp b w w' /\ PAt b ta tn tc T (t :: r) (70,t.pl) w'):=fun w h=>wrong_calls w h
  have HE:Hid (nameG (t :: r) = wrong' (t :: r)):=by show (if t.kind = 3 then pure' t.text r else wrong' (t :: r)) = _; rw [if_neg hk]
  clear hk h
  go_enter Tryz.func110,Tryz.ntmps110
  go_wp2_with fail
  refine (HH.out _ HP.out).mono ?_
  rintro e w1 ⟨rfl,hb1⟩
  have H1:Hid (Below w.heap.size w w1 /\ PAt b ta tn tc T (t :: r) f w1):=⟨hb1,HP.out.below hb1⟩
  clear hb1
  go_wp2_with fail
  refine (HW.out _ H1.out.2).mono ?_
  rintro e w2 ⟨rfl,hk2,hp2⟩
  have H2:Hid (Kp b w w2 /\ PAt b ta tn tc T (t :: r) (70,t.pl) w2):=⟨(Kp.of_below H1.out.1).trans hk2,hp2⟩
  clear hk2 hp2 H1 HW HH
  go_wp2
  refine ⟨rfl,?_⟩
  rw [HE.out]
  exact ⟨H2.out.1,.inr ⟨rfl,⟨_,rfl⟩,H2.out.2⟩⟩
theorem way_calls {b:Nat} {ta:Option Addr} {tn tc:Nat} {T:List Tk} {f:Int × Int} (w:World) {t:Tk} {r:List Tk} (h:PAt b ta tn tc T (t :: r) f w) :
 Calls Tryz.prog 113 #[Φ (some ⟨b,0,none⟩)] w (PPost b ta tn tc T f (wayG (t :: r)) VS w):=by
 have HP:Hid (PAt b ta tn tc T (t :: r) f w):=h
 have hfd2:=fld48_2
 have HI:Hid (∀ w,Calls Tryz.prog 87 #[Ψ (bs t.text)] w fun e w'=>e = Ω (.bool (isWayB t.text)) /\ w' = w):=fun w=>by
  have:=isWay_calls (bs t.text) w
  rw [bs_list] at this; exact this
 have HH:Hid (∀ w,PAt b ta tn tc T (t :: r) f w -> Calls Tryz.prog 74 #[Φ (some ⟨b,0,none⟩)] w fun e w'=>e = Ω (.agg #[I J t.kind,I J t.num,Ψ (bs t.text),I J (t.pl:Int)]) /\ Below w.heap.size w w'):=fun w h=>here_calls w h
 by_cases hc:t.kind = 4 /\ isWayB t.text = true
 ·have q:(t.kind != 4) = false:=by rw [hc.1]; rfl
  rw [hc.2] at HI
  have HN:Hid (∀ w,PAt b ta tn tc T (t :: r) f w -> Calls Tryz.prog 137 #[Φ (some ⟨b,0,none⟩)] w fun e w'=>e = Ω (.agg #[I J t.kind,I J t.num,Ψ (bs t.text),I J (t.pl:Int)]) /\ Kp b w w' /\ PAt b ta tn tc T r f w'):=fun w h=>nextP_calls w h (by rw [hc.1]; decide)
  have HE:Hid (wayG (t :: r) = pure' t.text r):=by show (if t.kind = 4 /\ isWayB t.text = true then pure' t.text r else wrong' (t :: r)) = _; rw [if_pos hc]
  clear hc h
  go_enter Tryz.func113,Tryz.ntmps113
  go_wp2_with fail
  refine (HH.out _ HP.out).mono ?_
  rintro e w1 ⟨rfl,hb1⟩
  have H1:Hid (∀ o,Kp b w (w1.alloc o) /\ PAt b ta tn tc T (t :: r) f (w1.alloc o)):=fun o=>⟨(Kp.of_below hb1).alloc o,(HP.out.below hb1).below ((Below.refl _ _).alloc (Nat.le_refl _) o)⟩
  clear hb1
  go_wp2_with (go_at_call 87; refine (HI.out _).mono ?_; rintro e w2 ⟨rfl,rfl⟩)
  refine (HN.out _ (H1.out _).2).mono ?_
  rintro e w2 ⟨rfl,hk2,hp2⟩
  have H2:Hid (Kp b w w2 /\ PAt b ta tn tc T r f w2):=⟨(H1.out _).1.trans hk2,hp2⟩
  clear hk2 hp2 H1 HN HH
  go_wp2
  go_ret
  rw [HE.out]
  exact ⟨H2.out.1,.inl ⟨_,_,rfl,rfl,rfl,by show PAt b ta tn tc T r (flt [] f) _; rw [flt_nil]; exact H2.out.2⟩⟩
 ·have HE:Hid (wayG (t :: r) = wrong' (t :: r)):=by show (if t.kind = 4 /\ isWayB t.text = true then pure' t.text r else wrong' (t :: r)) = _; rw [if_neg hc]
  have HW:Hid (∀ w,PAt b ta tn tc T (t :: r) f w -> Calls Tryz.prog 136 #[Φ (some ⟨b,0,none⟩)] w fun e w'=>e = Ω (.agg #[I J 70,I J (t.pl:Int)]) /\ Kp b w w' /\ PAt b ta tn tc T (t :: r) (70,t.pl) w'):=fun w h=>wrong_calls w h
  by_cases hk:t.kind = 4
  ·have q:(t.kind != 4) = false:=by rw [hk]; rfl
   have hf:isWayB t.text = false:=by
    cases hx:isWayB t.text with
    | false=>rfl
    | true=>exact absurd ⟨hk,hx⟩ hc
   rw [hf] at HI
   clear hk hf
   clear hc h
   go_enter Tryz.func113,Tryz.ntmps113
   go_wp2_with fail
   refine (HH.out _ HP.out).mono ?_
   rintro e w1 ⟨rfl,hb1⟩
   have H1:Hid (∀ o,Kp b w (w1.alloc o) /\ PAt b ta tn tc T (t :: r) f (w1.alloc o)):=fun o=>⟨(Kp.of_below hb1).alloc o,(HP.out.below hb1).below ((Below.refl _ _).alloc (Nat.le_refl _) o)⟩
   clear hb1
   go_wp2_with (go_at_call 87; refine (HI.out _).mono ?_; rintro e w2 ⟨rfl,rfl⟩)
   refine (HW.out _ (H1.out _).2).mono ?_
   rintro e w2 ⟨rfl,hk2,hp2⟩
   have H2:Hid (Kp b w w2 /\ PAt b ta tn tc T (t :: r) (70,t.pl) w2):=⟨(H1.out _).1.trans hk2,hp2⟩
   clear hk2 hp2 H1 HW HH
   go_wp2
   refine ⟨rfl,?_⟩
   rw [HE.out]
   exact ⟨H2.out.1,.inr ⟨rfl,⟨_,rfl⟩,H2.out.2⟩⟩
  ·have q:(t.kind != 4) = true:=by simpa using hk
   clear hk
   clear hc h
   go_enter Tryz.func113,Tryz.ntmps113
   go_wp2_with fail
   refine (HH.out _ HP.out).mono ?_
   rintro e w1 ⟨rfl,hb1⟩
   have H1:Hid (∀ o,Kp b w (w1.alloc o) /\ PAt b ta tn tc T (t :: r) f (w1.alloc o)):=fun o=>⟨(Kp.of_below hb1).alloc o,(HP.out.below hb1).below ((Below.refl _ _).alloc (Nat.le_refl _) o)⟩
   clear hb1
   go_wp2_with fail
   refine (HW.out _ (H1.out _).2).mono ?_
   rintro e w2 ⟨rfl,hk2,hp2⟩
   have H2:Hid (Kp b w w2 /\ PAt b ta tn tc T (t :: r) (70,t.pl) w2):=⟨(H1.out _).1.trans hk2,hp2⟩
   clear hk2 hp2 H1 HW HH
   go_wp2
   refine ⟨rfl,?_⟩
   rw [HE.out]
   exact ⟨H2.out.1,.inr ⟨rfl,⟨_,rfl⟩,H2.out.2⟩⟩
end Go.Proofs.YtlaodgdlkkmmeaaGreat
