/-
  Terms. Expressions.
-/
import Derived.Deep.LoopGhost
import Derived.Test.YtlaodgdlkkmmeaaGreatG05
import Derived.Test.YtlaodgdlkkmmeaaGreatG02
import Derived.Test.YtlaodgdlkkmmeaaGreatG00
namespace Go.Proofs.YtlaodgdlkkmmeaaGreat
open Go.RowKit Go.Deep
open Go.Value renaming int->I,pointer->Φ,string->Ψ,slice->Γ
open Go.IntKind renaming i64->J
open Go.Obj renaming cells->Δ
open Go.Ending renaming returned->Ω
set_option maxRecDepth 20000
set_option maxHeartbeats 2000000
/-- A contract as the walk wants it: an expression was read. -/
theorem ex_ok {b:Nat} {ta:Option Addr} {tn tc:Nat} {T:List Tk} {f:Int × Int} {x:Rs Ex} {W:World} {N:Nat} {args:Array Value} {a:Ex}
 (h:Calls Tryz.prog N args W (PPost b ta tn tc T f x (VEx W.heap.size) W)) (hx:x.val = some a) :
 Calls Tryz.prog N args W fun e w'=>∃ ka kn kc,e = Ω (.agg #[I J a.1.kind,I J a.1.num,Ψ (bs a.1.text),Γ ka kn kc,I J a.1.pl]) /\ ExAt true (fun g=>W.heap.size <= g) w' a ka kn /\ Kp b W w' /\ PAt b ta tn tc T x.rest (flt x.many f) w':=by
 refine (calls_ok h hx).mono ?_
 rintro e w' ⟨v,he,⟨ka,kn,kc,hv,hE⟩,hK,hP⟩
 exact ⟨ka,kn,kc,by rw [he,hv]; rfl,hE,hK,hP⟩
/-- The beginning of a loop: the first expression lies in its variable. -/
theorem TL.start {b:Nat} {ta:Option Addr} {tn tc:Nat} {T:List Tk} {w w1:World} {l:List Tk} {f:Int × Int} {e:Ex} {ka:Option Addr} {kn kc:Nat}
 (hb:b < w.heap.size) (hE:ExAt true (fun g=>(w.alloc (Δ zero5 102)).heap.size <= g) w1 e ka kn) (hK:Kp b (w.alloc (Δ zero5 102)) w1) (hP:PAt b ta tn tc T l f w1) :
 TL b ta tn tc T w w.heap.size w1.heap.size l f e ka kn kc (w1.alloc (Δ (exArr e.1 ka kn kc) 102)):=by
 have hs:w.heap.size + 1 <= w1.heap.size:=by have:=hK.size; simp at this; omega
 have hbel:Below w1.heap.size w1 (w1.alloc (Δ (exArr e.1 ka kn kc) 102)):=(Below.refl _ _).alloc (Nat.le_refl _) _
 have h0:w1.heap[w.heap.size]? = some (Δ zero5 102 (0,0)):=by
  rw [hK.block w.heap.size (by simp) (by omega)]; exact heap_alloc_new w _
 refine ⟨hP.below hbel,((Kp.refl b w).alloc _).trans (hK.then_below hbel),Nat.le_refl _,by omega,by omega,hb,heap_old h0,heap_alloc_new w1 _,?_⟩
 refine (hE.base fun g h1 h2=>?_).below hbel
 have h3:(w.alloc (Δ zero5 102)).heap.size <= g:=h2
 simp at h3
 exact ⟨by omega,by omega,by omega⟩
/-- What is still to come says what all says. -/
def Eqv {α:Type} (X Y:Rs α) (f f':Int × Int):Prop:=X.val = Y.val /\ X.rest = Y.rest /\ flt X.many f = flt Y.many f'
theorem term_calls {b:Nat} {ta:Option Addr} {tn tc:Nat} {T:List Tk} (n:Nat)
 (HF:∀ l f w,PAt b ta tn tc T l f w -> l.length <= n -> Calls Tryz.prog 148 #[Φ (some ⟨b,0,none⟩)] w (PPost b ta tn tc T f (facN n l) (VEx w.heap.size) w)) (l:List Tk) (f:Int × Int) (w:World) (h:PAt b ta tn tc T l f w) (hl:l.length <= n) :
 Calls Tryz.prog 139 #[Φ (some ⟨b,0,none⟩)] w (PPost b ta tn tc T f (termG (facN n) l) (VEx w.heap.size) w):=by
 have hres:Tryz.f139.results = #[.cell 2 102]:=by kernel_rfl
 have HP:Hid (PAt b ta tn tc T l f w):=h
 have HA:Hid (PAt b ta tn tc T l f (w.alloc (Δ zero5 102))):=HP.out.below ((Below.refl _ _).alloc (Nat.le_refl _) _)
 have hlt:=h.lt
 cases hx:(facN n l).val with
 | none=>
   have HN:Hid (Calls Tryz.prog 148 #[Φ (some ⟨b,0,none⟩)] (w.alloc (Δ zero5 102)) fun e w'=>∃ v,e = .panicked [{ v:=.iface 32 v,recovered:=false }] /\ Kp b (w.alloc (Δ zero5 102)) w' /\ PAt b ta tn tc T (facN n l).rest (70,plOf (facN n l).rest) w'):=calls_no (HF l f _ HA.out hl) hx
   have HE:Hid (termG (facN n) l = ⟨none,(facN n l).rest,(facN n l).many⟩):=bind_none _ hx
   clear hx h HF HA
   generalize facN n l = x at *
   go_enter Tryz.func139,Tryz.ntmps139
   go_wp2_with fail
   refine HN.out.mono ?_
   rintro e w1 ⟨v,rfl,hk1,hp1⟩
   have HR:Hid (Kp b w w1 /\ PAt b ta tn tc T x.rest (70,plOf x.rest) w1):=⟨((Kp.refl b w).alloc _).trans hk1,hp1⟩
   clear hk1 hp1 HN
   refine ⟨rfl,?_⟩
   rw [HE.out]
   exact ⟨HR.out.1,.inr ⟨rfl,⟨_,rfl⟩,HR.out.2⟩⟩
 | some a=>
   have HN:Hid (Calls Tryz.prog 148 #[Φ (some ⟨b,0,none⟩)] (w.alloc (Δ zero5 102)) fun e w'=>∃ ka kn kc,e = Ω (.agg #[I J a.1.kind,I J a.1.num,Ψ (bs a.1.text),Γ ka kn kc,I J a.1.pl]) /\ ExAt true (fun g=>(w.alloc (Δ zero5 102)).heap.size <= g) w' a ka kn /\ Kp b (w.alloc (Δ zero5 102)) w' /\ PAt b ta tn tc T (facN n l).rest (flt (facN n l).many f) w'):=ex_ok (HF l f _ HA.out hl) hx
   have HE:Hid (termG (facN n) l = ⟨(termGo (facN n) mx a (facN n l).rest).val,(termGo (facN n) mx a (facN n l).rest).rest,(facN n l).many ++ (termGo (facN n) mx a (facN n l).rest).many⟩):=bind_some _ hx
   have HLn:Hid ((facN n l).rest.length <= n):=Nat.le_trans (suf_len (fac_suf n l)) hl
   generalize facN n l = x at *
   generalize termG (facN n) l = X at *
   clear hx h HA
   go_enter Tryz.func139,Tryz.ntmps139
   go_wp2_with fail
   refine HN.out.mono ?_
   rintro e w1 ⟨ka,kn,kc,rfl,hE1,hk1,hp1⟩
   have HR:Hid (TL b ta tn tc T w w.heap.size w1.heap.size x.rest (flt x.many f) a ka kn kc (w1.alloc (Δ (exArr a.1 ka kn kc) 102))):=TL.start hlt hE1 hk1 hp1
   clear hE1 hk1 hp1 HN
   have HQ:Hid (Eqv X (termGo (facN n) mx a x.rest) f (flt x.many f)):=by
    show _ /\ _ /\ _
    rw [HE.out]
    exact ⟨rfl,rfl,flt_append _ _ _⟩
   have HM:Hid (x.rest.length <= mx):=HR.out.p.len
   clear HE
   go_wp2_with fail
   generalize flt x.many f = f1 at *
   generalize x.rest = l1 at *
   clear x
   go_loopg [] l1.length (fun k wr=>∃ l' f' e ka kn kc m,l'.length = k /\ Hid (TL b ta tn tc T w w.heap.size w1.heap.size l' f' e ka kn kc wr) /\ Hid (l'.length <= n /\ l'.length <= m /\ Eqv X (termGo (facN n) m e l') f f'))
   case atStart=>exact ⟨l1,f1,a,ka,kn,kc,mx,rfl,HR.out,HLn.out,HM.out,HQ.out⟩
   case round=>
    clear HR HQ HLn HM
    obtain ⟨l',f',q,kb,km,kd,m,rfl,HT,HL⟩:=hrel
    obtain ⟨t,r,rfl⟩:=HT.out.p.here1
    cases hs:isT 6 [42] t with
    | false=>
      have HS:Hid (Calls Tryz.prog 138 #[Φ (some ⟨b,0,none⟩),I J 6,Ψ ⟨#[42]⟩] wr fun e w'=>e = Ω (.bool false) /\ Below wr.heap.size wr w'):=by
       have:=sees_calls wr HT.out.p 6 ⟨#[42]⟩
       rw [show (⟨#[42]⟩:ByteArray).data.toList = [42] from rfl,hs] at this; exact this
      have HX:Hid (Eqv X (pure' q (t :: r)) f f'):=by
       obtain ⟨_,h2,h3⟩:=HL.out
       cases m with
       | zero=>simp at h2
       | succ m=>rw [termGo,if_neg (by rw [hs]; decide)] at h3; exact h3
      clear hs HL
      go_wp2_with fail
      refine HS.out.mono ?_
      rintro e w2 ⟨rfl,hb2⟩
      have HT2:Hid (TL b ta tn tc T w w.heap.size w1.heap.size (t :: r) f' q kb km kd w2):=HT.out.next hb2
      clear hb2 HS HT
      obtain ⟨c0,c1,c2,c3,c4⟩:=HT2.out.cells
      obtain ⟨z0,z1,z2,z3,z4,zf⟩:=HT2.out.zeros
      have hne:¬ w.heap.size = w1.heap.size:=HT2.out.ne
      have HV:Hid (VEx w.heap.size q (.agg #[I J q.1.kind,I J q.1.num,Ψ (bs q.1.text),Γ kb km kd,I J q.1.pl]) (((((w2.setCell ⟨w.heap.size,0,none⟩ (I J q.1.kind)).setCell ⟨w.heap.size,1,none⟩ (I J q.1.num)).setCell ⟨w.heap.size,2,none⟩ (Ψ (bs q.1.text))).setCell ⟨w.heap.size,3,none⟩ (Γ kb km kd)).setCell ⟨w.heap.size,4,none⟩ (I J q.1.pl))):=⟨kb,km,kd,rfl,(HT2.out.done _ _ _ _ _ rfl).2.2⟩
      have HD:Hid (Kp b w (((((w2.setCell ⟨w.heap.size,0,none⟩ (I J q.1.kind)).setCell ⟨w.heap.size,1,none⟩ (I J q.1.num)).setCell ⟨w.heap.size,2,none⟩ (Ψ (bs q.1.text))).setCell ⟨w.heap.size,3,none⟩ (Γ kb km kd)).setCell ⟨w.heap.size,4,none⟩ (I J q.1.pl)) /\ PAt b ta tn tc T (t :: r) f' (((((w2.setCell ⟨w.heap.size,0,none⟩ (I J q.1.kind)).setCell ⟨w.heap.size,1,none⟩ (I J q.1.num)).setCell ⟨w.heap.size,2,none⟩ (Ψ (bs q.1.text))).setCell ⟨w.heap.size,3,none⟩ (Γ kb km kd)).setCell ⟨w.heap.size,4,none⟩ (I J q.1.pl))):=⟨(HT2.out.done _ _ _ _ _ rfl).1,(HT2.out.done _ _ _ _ _ rfl).2.1⟩
      clear HT2
      go_wp2
      refine bodyPost_ret (v:=.agg #[I J q.1.kind,I J q.1.num,Ψ (bs q.1.text),Γ kb km kd,I J q.1.pl]) ?_ rfl ?_
      ·simp only [results,hres]
       go_simp
      ·refine ⟨HD.out.1,.inl ⟨q,_,HX.out.1,rfl,HV.out,?_⟩⟩
       rw [HX.out.2.1,HX.out.2.2]
       exact (flt_nil f').symm ▸ HD.out.2
    | true=>
      have HS:Hid (Calls Tryz.prog 138 #[Φ (some ⟨b,0,none⟩),I J 6,Ψ ⟨#[42]⟩] wr fun e w'=>e = Ω (.bool true) /\ Below wr.heap.size wr w'):=by
       have:=sees_calls wr HT.out.p 6 ⟨#[42]⟩
       rw [show (⟨#[42]⟩:ByteArray).data.toList = [42] from rfl,hs] at this; exact this
      have hk:t.kind ≠ 1:=by
       intro e; unfold isT at hs; rw [e] at hs; simp at hs
      have HN:Hid (∀ w,PAt b ta tn tc T (t :: r) f' w -> Calls Tryz.prog 137 #[Φ (some ⟨b,0,none⟩)] w fun e w'=>e = Ω (.agg #[I J t.kind,I J t.num,Ψ (bs t.text),I J (t.pl:Int)]) /\ Kp b w w' /\ PAt b ta tn tc T r f' w'):=fun w h=>nextP_calls w h hk
      obtain ⟨m',HX⟩:∃ m',Hid (r.length <= m' /\ r.length <= n /\ Eqv X ((facN n r).bind fun e2 l2=>termGo (facN n) m' (hdB 7 t,ofL [q,e2]) l2) f f'):=by
       obtain ⟨h1,h2,h3⟩:=HL.out
       cases m with
       | zero=>simp at h2
       | succ m=>rw [termGo,if_pos hs] at h3; exact ⟨m,by simp at h2; exact h2,by simp at h1; omega,h3⟩
      have hfd:=fld48_3
      have HPl:Hid (t.pl <= 4000):=by
       obtain ⟨k,hk1,_,_⟩:=HT.out.p.block
       have hmem:t ∈ T:=by
        have:t ∈ T.drop k:=by rw [hk1]; simp
        exact List.mem_of_mem_drop this
       exact (HT.out.p.toks.fits t hmem).pl
      clear hs HL hk
      go_wp2_with fail
      refine HS.out.mono ?_
      rintro e w2 ⟨rfl,hb2⟩
      have HT2:Hid (TL b ta tn tc T w w.heap.size w1.heap.size (t :: r) f' q kb km kd w2):=HT.out.next hb2
      clear hb2 HS HT
      go_wp2_with fail
      refine (HN.out _ HT2.out.p).mono ?_
      rintro e w3 ⟨rfl,hk3,hp3⟩
      have HT3:Hid (TL b ta tn tc T w w.heap.size w1.heap.size r f' q kb km kd w3.drew):=(HT2.out.go hk3 hp3).next (Below.refl _ _).drew
      clear hk3 hp3 HN HT2
      go_wp2_with fail
      have HS0:Hid (SC w1.heap.size q.1 kb km kd w3.drew):=HT3.out.sc
      cases hx:(facN n r).val with
      | none=>
        have HFa:Hid (Calls Tryz.prog 148 #[Φ (some ⟨b,0,none⟩)] w3.drew fun e w'=>∃ v,e = .panicked [{ v:=.iface 32 v,recovered:=false }] /\ Hid (Kp b w3.drew w' /\ PAt b ta tn tc T (facN n r).rest (70,plOf (facN n r).rest) w')):=calls_no (HF r f' _ HT3.out.p HX.out.2.1) hx
        have HY:Hid (X.val = none /\ X.rest = (facN n r).rest):=by
         obtain ⟨_,_,h1,h2,_⟩:=HX.out
         rw [bind_none _ hx] at h1 h2
         exact ⟨h1,h2⟩
        clear hx HX HF
        have HZ:Hid (∀ v w',Hid (Kp b w3.drew w' /\ PAt b ta tn tc T (facN n r).rest (70,plOf (facN n r).rest) w') -> PPost b ta tn tc T f X (VEx w.heap.size) w (.panicked [{ v:=.iface 32 v,recovered:=false }]) w'):=fun v w' hh=>
         ⟨HT3.out.kp.trans hh.out.1,.inr ⟨HY.out.1,⟨v,rfl⟩,by rw [HY.out.2]; exact hh.out.2⟩⟩
        refine wp_region_X 6 (SC w1.heap.size q.1 kb km kd) (by kernel_rfl) ?_
        refine tkX (i:=0) (v:=.agg #[I J q.1.kind,I J q.1.num,Ψ (bs q.1.text),Γ kb km kd,I J q.1.pl]) rfl HS0.out (fun W hW=>by obtain ⟨_,_,_,_,_⟩:=hW; go_simp) ?_
        simp only [Act.put]
        refine tkX (i:=1) (v:=Φ (some ⟨b,0,none⟩)) rfl HS0.out (fun W hW=>by obtain ⟨_,_,_,_,_⟩:=hW; go_simp) ?_
        simp only [Act.put]
        refine tkX (i:=4) (v:=I J (t.pl:Int)) rfl HS0.out (fun W hW=>by obtain ⟨_,_,_,_,_⟩:=hW; go_simp) ?_
        simp only [Act.put]
        refine wpAnyX_one (i:=2) rfl (by kernel_rfl) (fun K hK=>?_)
        go_simp
        refine HFa.out.mono ?_
        rintro e w4 ⟨v,rfl,HK4⟩
        exact ⟨rfl,HZ.out _ _ HK4⟩
      | some e2=>
        have HFa:Hid (Calls Tryz.prog 148 #[Φ (some ⟨b,0,none⟩)] w3.drew fun e w'=>∃ k2 n2 c2,e = Ω (.agg #[I J e2.1.kind,I J e2.1.num,Ψ (bs e2.1.text),Γ k2 n2 c2,I J e2.1.pl]) /\
         Hid (TL b ta tn tc T w w.heap.size w1.heap.size (facN n r).rest (flt (facN n r).many f') q kb km kd w' /\ ExAt true (fun g=>w.heap.size <= g /\ g ≠ w.heap.size /\ g ≠ w1.heap.size) w' e2 k2 n2)):=by
         refine (ex_ok (HF r f' w3.drew HT3.out.p HX.out.2.1) hx).mono ?_
         rintro e w' ⟨k2,n2,c2,rfl,hE,hK,hP⟩
         have hT:=HT3.out.go hK hP
         refine ⟨k2,n2,c2,rfl,hT,hE.base fun g _ hg=>?_⟩
         have h1:=lt_block HT3.out.res
         have h2:=lt_block HT3.out.val
         have h3:w3.drew.heap.size <= g:=hg
         exact ⟨by omega,by omega,by omega⟩
        have HY:Hid ((facN n r).rest.length <= m' /\ (facN n r).rest.length <= n /\ (facN n r).rest.length < r.length + 1 /\ Eqv X (termGo (facN n) m' (hdB 7 t,ofL [q,e2]) (facN n r).rest) f (flt (facN n r).many f')):=by
         obtain ⟨h0,h0',h1,h2,h3⟩:=HX.out
         rw [bind_some _ hx] at h1 h2 h3
         have:=suf_len (fac_suf n r)
         refine ⟨by omega,by omega,by omega,h1,h2,?_⟩
         rw [h3]; exact flt_append _ _ _
        clear hx HX HF
        generalize facN n r = y at *
        refine wp_region_X 6 (SC w1.heap.size q.1 kb km kd) (by kernel_rfl) ?_
        refine tkX (i:=0) (v:=.agg #[I J q.1.kind,I J q.1.num,Ψ (bs q.1.text),Γ kb km kd,I J q.1.pl]) rfl HS0.out (fun W hW=>by obtain ⟨_,_,_,_,_⟩:=hW; go_simp) ?_
        simp only [Act.put]
        refine tkX (i:=1) (v:=Φ (some ⟨b,0,none⟩)) rfl HS0.out (fun W hW=>by obtain ⟨_,_,_,_,_⟩:=hW; go_simp) ?_
        simp only [Act.put]
        refine tkX (i:=4) (v:=I J (t.pl:Int)) rfl HS0.out (fun W hW=>by obtain ⟨_,_,_,_,_⟩:=hW; go_simp) ?_
        simp only [Act.put]
        refine wpAnyX_one (i:=2) rfl (by kernel_rfl) (fun K hK=>?_)
        go_simp
        refine HFa.out.mono ?_
        rintro e w4 ⟨k2,n2,c2,rfl,HT4⟩
        refine hK.out _ _ (fun _=>HT4.out.1.sc) ?_
        clear hK K HT3 HS0 HFa
        refine wpAnyX_one (i:=3) rfl (by kernel_rfl) (fun K hK=>?_)
        go_simp
        refine hK.out _ _ (fun _=>(HT4.out.1.next ((Below.refl _ _).alloc (Nat.le_refl _) _)).sc) ?_
        clear hK K
        have HT5:Hid (∀ o,TL b ta tn tc T w w.heap.size w1.heap.size y.rest (flt y.many f') q kb km kd (w4.alloc o)):=fun o=>HT4.out.1.next ((Below.refl _ _).alloc (Nat.le_refl _) _)
        have e0:=fun o=>(HT5.out o).sc.1
        have e1:=fun o=>(HT5.out o).sc.2.1
        have e3:=fun o=>(HT5.out o).sc.2.2.1
        have e4:=fun o=>(HT5.out o).sc.2.2.2.1
        have e5:=fun o=>(HT5.out o).sc.2.2.2.2
        have ef:=fun o i=>(HT5.out o).frz i
        refine wpAnyX_one (i:=5) rfl (by kernel_rfl) (fun K hK=>?_)
        go_simp
        refine hK.out _ _ (fun _=>(HT5.out _).sc) ?_
        clear hK K
        refine wpAnyX_one (i:=6) rfl (by kernel_rfl) (fun K hK=>?_)
        go_simp
        refine hK.out _ _ (fun h=>absurd rfl h) ?_
        clear hK K
        refine wpAnyX_done (by kernel_rfl) ?_ _
        have HT6:=HT4.out.1.put (c2:=c2) (k:=7) (t:=t) HT4.out.2 (by omega) HPl.out
        have HH6:=hid HT6
        clear HT6
        go_wp2_with fail
        go_roundg y.rest.length
        case measure=>exact HY.out.2.2.1
        case rel=>exact ⟨y.rest,flt y.many f',(hdB 7 t,ofL [q,e2]),some ⟨w4.heap.size,0,none⟩,2,2,m',rfl,HH6,HY.out.2.1,HY.out.1,HY.out.2.2.2⟩
set_option maxRecDepth 20000
set_option maxHeartbeats 2000000
theorem expr_calls {b:Nat} {ta:Option Addr} {tn tc:Nat} {T:List Tk} (n:Nat)
 (HF:∀ l f w,PAt b ta tn tc T l f w -> l.length <= n -> Calls Tryz.prog 139 #[Φ (some ⟨b,0,none⟩)] w (PPost b ta tn tc T f (termG (facN n) l) (VEx w.heap.size) w)) (l:List Tk) (f:Int × Int) (w:World) (h:PAt b ta tn tc T l f w) (hl:l.length <= n) :
 Calls Tryz.prog 112 #[Φ (some ⟨b,0,none⟩)] w (PPost b ta tn tc T f (exprG (facN n) l) (VEx w.heap.size) w):=by
 have hres:Tryz.f112.results = #[.cell 2 102]:=by kernel_rfl
 have HP:Hid (PAt b ta tn tc T l f w):=h
 have HA:Hid (PAt b ta tn tc T l f (w.alloc (Δ zero5 102))):=HP.out.below ((Below.refl _ _).alloc (Nat.le_refl _) _)
 have hlt:=h.lt
 cases hx:(termG (facN n) l).val with
 | none=>
   have HN:Hid (Calls Tryz.prog 139 #[Φ (some ⟨b,0,none⟩)] (w.alloc (Δ zero5 102)) fun e w'=>∃ v,e = .panicked [{ v:=.iface 32 v,recovered:=false }] /\ Kp b (w.alloc (Δ zero5 102)) w' /\ PAt b ta tn tc T (termG (facN n) l).rest (70,plOf (termG (facN n) l).rest) w'):=calls_no (HF l f _ HA.out hl) hx
   have HE:Hid (exprG (facN n) l = ⟨none,(termG (facN n) l).rest,(termG (facN n) l).many⟩):=bind_none _ hx
   clear hx h HF HA
   generalize termG (facN n) l = x at *
   go_enter Tryz.func112,Tryz.ntmps112
   go_wp2_with fail
   refine HN.out.mono ?_
   rintro e w1 ⟨v,rfl,hk1,hp1⟩
   have HR:Hid (Kp b w w1 /\ PAt b ta tn tc T x.rest (70,plOf x.rest) w1):=⟨((Kp.refl b w).alloc _).trans hk1,hp1⟩
   clear hk1 hp1 HN
   refine ⟨rfl,?_⟩
   rw [HE.out]
   exact ⟨HR.out.1,.inr ⟨rfl,⟨_,rfl⟩,HR.out.2⟩⟩
 | some a=>
   have HN:Hid (Calls Tryz.prog 139 #[Φ (some ⟨b,0,none⟩)] (w.alloc (Δ zero5 102)) fun e w'=>∃ ka kn kc,e = Ω (.agg #[I J a.1.kind,I J a.1.num,Ψ (bs a.1.text),Γ ka kn kc,I J a.1.pl]) /\ ExAt true (fun g=>(w.alloc (Δ zero5 102)).heap.size <= g) w' a ka kn /\ Kp b (w.alloc (Δ zero5 102)) w' /\ PAt b ta tn tc T (termG (facN n) l).rest (flt (termG (facN n) l).many f) w'):=ex_ok (HF l f _ HA.out hl) hx
   have HE:Hid (exprG (facN n) l = ⟨(exprGo (termG (facN n)) mx a (termG (facN n) l).rest).val,(exprGo (termG (facN n)) mx a (termG (facN n) l).rest).rest,(termG (facN n) l).many ++ (exprGo (termG (facN n)) mx a (termG (facN n) l).rest).many⟩):=bind_some _ hx
   have HLn:Hid ((termG (facN n) l).rest.length <= n):=Nat.le_trans (suf_len (term_suf (fac_suf n) l)) hl
   generalize termG (facN n) l = x at *
   generalize exprG (facN n) l = X at *
   clear hx h HA
   go_enter Tryz.func112,Tryz.ntmps112
   go_wp2_with fail
   refine HN.out.mono ?_
   rintro e w1 ⟨ka,kn,kc,rfl,hE1,hk1,hp1⟩
   have HR:Hid (TL b ta tn tc T w w.heap.size w1.heap.size x.rest (flt x.many f) a ka kn kc (w1.alloc (Δ (exArr a.1 ka kn kc) 102))):=TL.start hlt hE1 hk1 hp1
   clear hE1 hk1 hp1 HN
   have HQ:Hid (Eqv X (exprGo (termG (facN n)) mx a x.rest) f (flt x.many f)):=by
    show _ /\ _ /\ _
    rw [HE.out]
    exact ⟨rfl,rfl,flt_append _ _ _⟩
   have HM:Hid (x.rest.length <= mx):=HR.out.p.len
   clear HE
   go_wp2_with fail
   generalize flt x.many f = f1 at *
   generalize x.rest = l1 at *
   clear x
   go_loopg [] l1.length (fun k wr=>∃ l' f' e ka kn kc m,l'.length = k /\ Hid (TL b ta tn tc T w w.heap.size w1.heap.size l' f' e ka kn kc wr) /\ Hid (l'.length <= n /\ l'.length <= m /\ Eqv X (exprGo (termG (facN n)) m e l') f f'))
   case atStart=>exact ⟨l1,f1,a,ka,kn,kc,mx,rfl,HR.out,HLn.out,HM.out,HQ.out⟩
   case round=>
    clear HR HQ HLn HM
    obtain ⟨l',f',q,kb,km,kd,m,rfl,HT,HL⟩:=hrel
    obtain ⟨t,r,rfl⟩:=HT.out.p.here1
    cases hp:isT 6 [43] t with
    | false=>
      cases hm:isT 6 [45] t with
      | false=>
        have HSp:Hid (∀ W,PAt b ta tn tc T (t :: r) f' W -> Calls Tryz.prog 138 #[Φ (some ⟨b,0,none⟩),I J 6,Ψ ⟨#[43]⟩] W fun e w'=>e = Ω (.bool false) /\ Below W.heap.size W w'):=fun W h=>by
         have:=sees_calls W h 6 ⟨#[43]⟩
         rw [show (⟨#[43]⟩:ByteArray).data.toList = [43] from rfl,hp] at this; exact this
        have HSm:Hid (∀ W,PAt b ta tn tc T (t :: r) f' W -> Calls Tryz.prog 138 #[Φ (some ⟨b,0,none⟩),I J 6,Ψ ⟨#[45]⟩] W fun e w'=>e = Ω (.bool false) /\ Below W.heap.size W w'):=fun W h=>by
         have:=sees_calls W h 6 ⟨#[45]⟩
         rw [show (⟨#[45]⟩:ByteArray).data.toList = [45] from rfl,hm] at this; exact this
        have HX:Hid (Eqv X (pure' q (t :: r)) f f'):=by
         obtain ⟨_,h2,h3⟩:=HL.out
         cases m with
         | zero=>simp at h2
         | succ m=>rw [exprGo,if_neg (by rw [hp,hm]; decide)] at h3; exact h3
        clear hp hm HL
        go_wp2_with fail
        refine (HSp.out _ HT.out.p).mono ?_
        rintro e w2' ⟨rfl,hb2⟩
        have HT1:Hid (TL b ta tn tc T w w.heap.size w1.heap.size (t :: r) f' q kb km kd w2'):=HT.out.next hb2
        clear hb2 HSp HT
        go_wp2_with fail
        refine (HSm.out _ HT1.out.p).mono ?_
        rintro e w2 ⟨rfl,hb2⟩
        have HT2:Hid (TL b ta tn tc T w w.heap.size w1.heap.size (t :: r) f' q kb km kd w2):=HT1.out.next hb2
        clear hb2 HSm HT1
        obtain ⟨c0,c1,c2,c3,c4⟩:=HT2.out.cells
        obtain ⟨z0,z1,z2,z3,z4,zf⟩:=HT2.out.zeros
        have hne:¬ w.heap.size = w1.heap.size:=HT2.out.ne
        have HV:Hid (VEx w.heap.size q (.agg #[I J q.1.kind,I J q.1.num,Ψ (bs q.1.text),Γ kb km kd,I J q.1.pl]) (((((w2.setCell ⟨w.heap.size,0,none⟩ (I J q.1.kind)).setCell ⟨w.heap.size,1,none⟩ (I J q.1.num)).setCell ⟨w.heap.size,2,none⟩ (Ψ (bs q.1.text))).setCell ⟨w.heap.size,3,none⟩ (Γ kb km kd)).setCell ⟨w.heap.size,4,none⟩ (I J q.1.pl))):=⟨kb,km,kd,rfl,(HT2.out.done _ _ _ _ _ rfl).2.2⟩
        have HD:Hid (Kp b w (((((w2.setCell ⟨w.heap.size,0,none⟩ (I J q.1.kind)).setCell ⟨w.heap.size,1,none⟩ (I J q.1.num)).setCell ⟨w.heap.size,2,none⟩ (Ψ (bs q.1.text))).setCell ⟨w.heap.size,3,none⟩ (Γ kb km kd)).setCell ⟨w.heap.size,4,none⟩ (I J q.1.pl)) /\ PAt b ta tn tc T (t :: r) f' (((((w2.setCell ⟨w.heap.size,0,none⟩ (I J q.1.kind)).setCell ⟨w.heap.size,1,none⟩ (I J q.1.num)).setCell ⟨w.heap.size,2,none⟩ (Ψ (bs q.1.text))).setCell ⟨w.heap.size,3,none⟩ (Γ kb km kd)).setCell ⟨w.heap.size,4,none⟩ (I J q.1.pl))):=⟨(HT2.out.done _ _ _ _ _ rfl).1,(HT2.out.done _ _ _ _ _ rfl).2.1⟩
        clear HT2
        go_wp2
        refine bodyPost_ret (v:=.agg #[I J q.1.kind,I J q.1.num,Ψ (bs q.1.text),Γ kb km kd,I J q.1.pl]) ?_ rfl ?_
        ·simp only [results,hres]
         go_simp
        ·refine ⟨HD.out.1,.inl ⟨q,_,HX.out.1,rfl,HV.out,?_⟩⟩
         rw [HX.out.2.1,HX.out.2.2]
         exact (flt_nil f').symm ▸ HD.out.2
      | true=>
        have HSp:Hid (∀ W,PAt b ta tn tc T (t :: r) f' W -> Calls Tryz.prog 138 #[Φ (some ⟨b,0,none⟩),I J 6,Ψ ⟨#[43]⟩] W fun e w'=>e = Ω (.bool false) /\ Below W.heap.size W w'):=fun W h=>by
         have:=sees_calls W h 6 ⟨#[43]⟩
         rw [show (⟨#[43]⟩:ByteArray).data.toList = [43] from rfl,hp] at this; exact this
        have HSm:Hid (∀ W,PAt b ta tn tc T (t :: r) f' W -> Calls Tryz.prog 138 #[Φ (some ⟨b,0,none⟩),I J 6,Ψ ⟨#[45]⟩] W fun e w'=>e = Ω (.bool true) /\ Below W.heap.size W w'):=fun W h=>by
         have:=sees_calls W h 6 ⟨#[45]⟩
         rw [show (⟨#[45]⟩:ByteArray).data.toList = [45] from rfl,hm] at this; exact this
        have hk:t.kind ≠ 1:=by
         intro e; unfold isT at hm; rw [e] at hm; simp at hm
        have HN:Hid (∀ w,PAt b ta tn tc T (t :: r) f' w -> Calls Tryz.prog 137 #[Φ (some ⟨b,0,none⟩)] w fun e w'=>e = Ω (.agg #[I J t.kind,I J t.num,Ψ (bs t.text),I J (t.pl:Int)]) /\ Kp b w w' /\ PAt b ta tn tc T r f' w'):=fun w h=>nextP_calls w h hk
        obtain ⟨m',HX⟩:∃ m',Hid (r.length <= m' /\ r.length <= n /\ Eqv X ((termG (facN n) r).bind fun e2 l2=>exprGo (termG (facN n)) m' (hdB 6 t,ofL [q,e2]) l2) f f'):=by
         obtain ⟨h1,h2,h3⟩:=HL.out
         cases m with
         | zero=>simp at h2
         | succ m=>rw [exprGo,if_pos (by rw [hp,hm]; decide)] at h3; simp only [hm] at h3; exact ⟨m,by simp at h2; exact h2,by simp at h1; omega,h3⟩
        have hfd:=fld48_3
        have HPl:Hid (t.pl <= 4000):=by
         obtain ⟨k,hk1,_,_⟩:=HT.out.p.block
         have hmem:t ∈ T:=by
          have:t ∈ T.drop k:=by rw [hk1]; simp
          exact List.mem_of_mem_drop this
         exact (HT.out.p.toks.fits t hmem).pl
        clear hp hm HL hk
        go_wp2_with fail
        refine (HSp.out _ HT.out.p).mono ?_
        rintro e w2a ⟨rfl,hb2⟩
        have HT1a:Hid (TL b ta tn tc T w w.heap.size w1.heap.size (t :: r) f' q kb km kd w2a):=HT.out.next hb2
        clear hb2 HT
        go_wp2_with fail
        refine (HSm.out _ HT1a.out.p).mono ?_
        rintro e w2b ⟨rfl,hb2⟩
        have HT1b:Hid (TL b ta tn tc T w w.heap.size w1.heap.size (t :: r) f' q kb km kd w2b):=HT1a.out.next hb2
        clear hb2 HT1a
        go_wp2_with fail
        refine (HSm.out _ HT1b.out.p).mono ?_
        rintro e w2 ⟨rfl,hb2⟩
        have HT2:Hid (TL b ta tn tc T w w.heap.size w1.heap.size (t :: r) f' q kb km kd w2):=HT1b.out.next hb2
        clear hb2 HT1b
        clear HSp HSm
        go_wp2_with fail
        refine (HN.out _ HT2.out.p).mono ?_
        rintro e w3 ⟨rfl,hk3,hp3⟩
        have HT3:Hid (TL b ta tn tc T w w.heap.size w1.heap.size r f' q kb km kd w3.drew):=(HT2.out.go hk3 hp3).next (Below.refl _ _).drew
        clear hk3 hp3 HN HT2
        go_wp2_with fail
        have HS0:Hid (SC w1.heap.size q.1 kb km kd w3.drew):=HT3.out.sc
        cases hx:(termG (facN n) r).val with
        | none=>
          have HFa:Hid (Calls Tryz.prog 139 #[Φ (some ⟨b,0,none⟩)] w3.drew fun e w'=>∃ v,e = .panicked [{ v:=.iface 32 v,recovered:=false }] /\ Hid (Kp b w3.drew w' /\ PAt b ta tn tc T (termG (facN n) r).rest (70,plOf (termG (facN n) r).rest) w')):=calls_no (HF r f' _ HT3.out.p HX.out.2.1) hx
          have HY:Hid (X.val = none /\ X.rest = (termG (facN n) r).rest):=by
           obtain ⟨_,_,h1,h2,_⟩:=HX.out
           rw [bind_none _ hx] at h1 h2
           exact ⟨h1,h2⟩
          clear hx HX HF
          have HZ:Hid (∀ v w',Hid (Kp b w3.drew w' /\ PAt b ta tn tc T (termG (facN n) r).rest (70,plOf (termG (facN n) r).rest) w') -> PPost b ta tn tc T f X (VEx w.heap.size) w (.panicked [{ v:=.iface 32 v,recovered:=false }]) w'):=fun v w' hh=>
           ⟨HT3.out.kp.trans hh.out.1,.inr ⟨HY.out.1,⟨v,rfl⟩,by rw [HY.out.2]; exact hh.out.2⟩⟩
          refine wp_region_X 7 (SC w1.heap.size q.1 kb km kd) (by kernel_rfl) ?_
          refine tkX (i:=0) (v:=I J 6) rfl HS0.out (fun W hW=>by obtain ⟨_,_,_,_,_⟩:=hW; go_simp) ?_
          simp only [Act.put]
          refine tkX (i:=1) (v:=.agg #[I J q.1.kind,I J q.1.num,Ψ (bs q.1.text),Γ kb km kd,I J q.1.pl]) rfl HS0.out (fun W hW=>by obtain ⟨_,_,_,_,_⟩:=hW; go_simp) ?_
          simp only [Act.put]
          refine tkX (i:=2) (v:=Φ (some ⟨b,0,none⟩)) rfl HS0.out (fun W hW=>by obtain ⟨_,_,_,_,_⟩:=hW; go_simp) ?_
          simp only [Act.put]
          refine tkX (i:=5) (v:=I J (t.pl:Int)) rfl HS0.out (fun W hW=>by obtain ⟨_,_,_,_,_⟩:=hW; go_simp) ?_
          simp only [Act.put]
          refine wpAnyX_one (i:=3) rfl (by kernel_rfl) (fun K hK=>?_)
          go_simp
          refine HFa.out.mono ?_
          rintro e w4 ⟨v,rfl,HK4⟩
          exact ⟨rfl,HZ.out _ _ HK4⟩
        | some e2=>
          have HFa:Hid (Calls Tryz.prog 139 #[Φ (some ⟨b,0,none⟩)] w3.drew fun e w'=>∃ k2 n2 c2,e = Ω (.agg #[I J e2.1.kind,I J e2.1.num,Ψ (bs e2.1.text),Γ k2 n2 c2,I J e2.1.pl]) /\
           Hid (TL b ta tn tc T w w.heap.size w1.heap.size (termG (facN n) r).rest (flt (termG (facN n) r).many f') q kb km kd w' /\ ExAt true (fun g=>w.heap.size <= g /\ g ≠ w.heap.size /\ g ≠ w1.heap.size) w' e2 k2 n2)):=by
           refine (ex_ok (HF r f' w3.drew HT3.out.p HX.out.2.1) hx).mono ?_
           rintro e w' ⟨k2,n2,c2,rfl,hE,hK,hP⟩
           have hT:=HT3.out.go hK hP
           refine ⟨k2,n2,c2,rfl,hT,hE.base fun g _ hg=>?_⟩
           have h1:=lt_block HT3.out.res
           have h2:=lt_block HT3.out.val
           have h3:w3.drew.heap.size <= g:=hg
           exact ⟨by omega,by omega,by omega⟩
          have HY:Hid ((termG (facN n) r).rest.length <= m' /\ (termG (facN n) r).rest.length <= n /\ (termG (facN n) r).rest.length < r.length + 1 /\ Eqv X (exprGo (termG (facN n)) m' (hdB 6 t,ofL [q,e2]) (termG (facN n) r).rest) f (flt (termG (facN n) r).many f')):=by
           obtain ⟨h0,h0',h1,h2,h3⟩:=HX.out
           rw [bind_some _ hx] at h1 h2 h3
           have:=suf_len (term_suf (fac_suf n) r)
           refine ⟨by omega,by omega,by omega,h1,h2,?_⟩
           rw [h3]; exact flt_append _ _ _
          clear hx HX HF
          generalize termG (facN n) r = y at *
          refine wp_region_X 7 (SC w1.heap.size q.1 kb km kd) (by kernel_rfl) ?_
          refine tkX (i:=0) (v:=I J 6) rfl HS0.out (fun W hW=>by obtain ⟨_,_,_,_,_⟩:=hW; go_simp) ?_
          simp only [Act.put]
          refine tkX (i:=1) (v:=.agg #[I J q.1.kind,I J q.1.num,Ψ (bs q.1.text),Γ kb km kd,I J q.1.pl]) rfl HS0.out (fun W hW=>by obtain ⟨_,_,_,_,_⟩:=hW; go_simp) ?_
          simp only [Act.put]
          refine tkX (i:=2) (v:=Φ (some ⟨b,0,none⟩)) rfl HS0.out (fun W hW=>by obtain ⟨_,_,_,_,_⟩:=hW; go_simp) ?_
          simp only [Act.put]
          refine tkX (i:=5) (v:=I J (t.pl:Int)) rfl HS0.out (fun W hW=>by obtain ⟨_,_,_,_,_⟩:=hW; go_simp) ?_
          simp only [Act.put]
          refine wpAnyX_one (i:=3) rfl (by kernel_rfl) (fun K hK=>?_)
          go_simp
          refine HFa.out.mono ?_
          rintro e w4 ⟨k2,n2,c2,rfl,HT4⟩
          refine hK.out _ _ (fun _=>HT4.out.1.sc) ?_
          clear hK K HT3 HS0 HFa
          refine wpAnyX_one (i:=4) rfl (by kernel_rfl) (fun K hK=>?_)
          go_simp
          refine hK.out _ _ (fun _=>(HT4.out.1.next ((Below.refl _ _).alloc (Nat.le_refl _) _)).sc) ?_
          clear hK K
          have HT5:Hid (∀ o,TL b ta tn tc T w w.heap.size w1.heap.size y.rest (flt y.many f') q kb km kd (w4.alloc o)):=fun o=>HT4.out.1.next ((Below.refl _ _).alloc (Nat.le_refl _) _)
          have e0:=fun o=>(HT5.out o).sc.1
          have e1:=fun o=>(HT5.out o).sc.2.1
          have e3:=fun o=>(HT5.out o).sc.2.2.1
          have e4:=fun o=>(HT5.out o).sc.2.2.2.1
          have e5:=fun o=>(HT5.out o).sc.2.2.2.2
          have ef:=fun o i=>(HT5.out o).frz i
          refine wpAnyX_one (i:=6) rfl (by kernel_rfl) (fun K hK=>?_)
          go_simp
          refine hK.out _ _ (fun _=>(HT5.out _).sc) ?_
          clear hK K
          refine wpAnyX_one (i:=7) rfl (by kernel_rfl) (fun K hK=>?_)
          go_simp
          refine hK.out _ _ (fun h=>absurd rfl h) ?_
          clear hK K
          refine wpAnyX_done (by kernel_rfl) ?_ _
          have HT6:=HT4.out.1.put (c2:=c2) (k:=6) (t:=t) HT4.out.2 (by omega) HPl.out
          have HH6:=hid HT6
          clear HT6
          go_wp2_with fail
          go_roundg y.rest.length
          case measure=>exact HY.out.2.2.1
          case rel=>exact ⟨y.rest,flt y.many f',(hdB 6 t,ofL [q,e2]),some ⟨w4.heap.size,0,none⟩,2,2,m',rfl,HH6,HY.out.2.1,HY.out.1,HY.out.2.2.2⟩
    | true=>
      have hm:isT 6 [45] t = false:=by
       unfold isT at hp ⊢
       simp at hp
       rw [hp.2]; simp
      have HSp:Hid (∀ W,PAt b ta tn tc T (t :: r) f' W -> Calls Tryz.prog 138 #[Φ (some ⟨b,0,none⟩),I J 6,Ψ ⟨#[43]⟩] W fun e w'=>e = Ω (.bool true) /\ Below W.heap.size W w'):=fun W h=>by
       have:=sees_calls W h 6 ⟨#[43]⟩
       rw [show (⟨#[43]⟩:ByteArray).data.toList = [43] from rfl,hp] at this; exact this
      have HSm:Hid (∀ W,PAt b ta tn tc T (t :: r) f' W -> Calls Tryz.prog 138 #[Φ (some ⟨b,0,none⟩),I J 6,Ψ ⟨#[45]⟩] W fun e w'=>e = Ω (.bool false) /\ Below W.heap.size W w'):=fun W h=>by
       have:=sees_calls W h 6 ⟨#[45]⟩
       rw [show (⟨#[45]⟩:ByteArray).data.toList = [45] from rfl,hm] at this; exact this
      have hk:t.kind ≠ 1:=by
       intro e; unfold isT at hp; rw [e] at hp; simp at hp
      have HN:Hid (∀ w,PAt b ta tn tc T (t :: r) f' w -> Calls Tryz.prog 137 #[Φ (some ⟨b,0,none⟩)] w fun e w'=>e = Ω (.agg #[I J t.kind,I J t.num,Ψ (bs t.text),I J (t.pl:Int)]) /\ Kp b w w' /\ PAt b ta tn tc T r f' w'):=fun w h=>nextP_calls w h hk
      obtain ⟨m',HX⟩:∃ m',Hid (r.length <= m' /\ r.length <= n /\ Eqv X ((termG (facN n) r).bind fun e2 l2=>exprGo (termG (facN n)) m' (hdB 5 t,ofL [q,e2]) l2) f f'):=by
       obtain ⟨h1,h2,h3⟩:=HL.out
       cases m with
       | zero=>simp at h2
       | succ m=>rw [exprGo,if_pos (by rw [hp,hm]; decide)] at h3; simp only [hm] at h3; exact ⟨m,by simp at h2; exact h2,by simp at h1; omega,h3⟩
      have hfd:=fld48_3
      have HPl:Hid (t.pl <= 4000):=by
       obtain ⟨k,hk1,_,_⟩:=HT.out.p.block
       have hmem:t ∈ T:=by
        have:t ∈ T.drop k:=by rw [hk1]; simp
        exact List.mem_of_mem_drop this
       exact (HT.out.p.toks.fits t hmem).pl
      clear hp hm HL hk
      go_wp2_with fail
      refine (HSp.out _ HT.out.p).mono ?_
      rintro e w2a ⟨rfl,hb2⟩
      have HT1a:Hid (TL b ta tn tc T w w.heap.size w1.heap.size (t :: r) f' q kb km kd w2a):=HT.out.next hb2
      clear hb2 HT
      go_wp2_with fail
      refine (HSm.out _ HT1a.out.p).mono ?_
      rintro e w2 ⟨rfl,hb2⟩
      have HT2:Hid (TL b ta tn tc T w w.heap.size w1.heap.size (t :: r) f' q kb km kd w2):=HT1a.out.next hb2
      clear hb2 HT1a
      clear HSp HSm
      go_wp2_with fail
      refine (HN.out _ HT2.out.p).mono ?_
      rintro e w3 ⟨rfl,hk3,hp3⟩
      have HT3:Hid (TL b ta tn tc T w w.heap.size w1.heap.size r f' q kb km kd w3.drew):=(HT2.out.go hk3 hp3).next (Below.refl _ _).drew
      clear hk3 hp3 HN HT2
      go_wp2_with fail
      have HS0:Hid (SC w1.heap.size q.1 kb km kd w3.drew):=HT3.out.sc
      cases hx:(termG (facN n) r).val with
      | none=>
        have HFa:Hid (Calls Tryz.prog 139 #[Φ (some ⟨b,0,none⟩)] w3.drew fun e w'=>∃ v,e = .panicked [{ v:=.iface 32 v,recovered:=false }] /\ Hid (Kp b w3.drew w' /\ PAt b ta tn tc T (termG (facN n) r).rest (70,plOf (termG (facN n) r).rest) w')):=calls_no (HF r f' _ HT3.out.p HX.out.2.1) hx
        have HY:Hid (X.val = none /\ X.rest = (termG (facN n) r).rest):=by
         obtain ⟨_,_,h1,h2,_⟩:=HX.out
         rw [bind_none _ hx] at h1 h2
         exact ⟨h1,h2⟩
        clear hx HX HF
        have HZ:Hid (∀ v w',Hid (Kp b w3.drew w' /\ PAt b ta tn tc T (termG (facN n) r).rest (70,plOf (termG (facN n) r).rest) w') -> PPost b ta tn tc T f X (VEx w.heap.size) w (.panicked [{ v:=.iface 32 v,recovered:=false }]) w'):=fun v w' hh=>
         ⟨HT3.out.kp.trans hh.out.1,.inr ⟨HY.out.1,⟨v,rfl⟩,by rw [HY.out.2]; exact hh.out.2⟩⟩
        refine wp_region_X 7 (SC w1.heap.size q.1 kb km kd) (by kernel_rfl) ?_
        refine tkX (i:=0) (v:=I J 5) rfl HS0.out (fun W hW=>by obtain ⟨_,_,_,_,_⟩:=hW; go_simp) ?_
        simp only [Act.put]
        refine tkX (i:=1) (v:=.agg #[I J q.1.kind,I J q.1.num,Ψ (bs q.1.text),Γ kb km kd,I J q.1.pl]) rfl HS0.out (fun W hW=>by obtain ⟨_,_,_,_,_⟩:=hW; go_simp) ?_
        simp only [Act.put]
        refine tkX (i:=2) (v:=Φ (some ⟨b,0,none⟩)) rfl HS0.out (fun W hW=>by obtain ⟨_,_,_,_,_⟩:=hW; go_simp) ?_
        simp only [Act.put]
        refine tkX (i:=5) (v:=I J (t.pl:Int)) rfl HS0.out (fun W hW=>by obtain ⟨_,_,_,_,_⟩:=hW; go_simp) ?_
        simp only [Act.put]
        refine wpAnyX_one (i:=3) rfl (by kernel_rfl) (fun K hK=>?_)
        go_simp
        refine HFa.out.mono ?_
        rintro e w4 ⟨v,rfl,HK4⟩
        exact ⟨rfl,HZ.out _ _ HK4⟩
      | some e2=>
        have HFa:Hid (Calls Tryz.prog 139 #[Φ (some ⟨b,0,none⟩)] w3.drew fun e w'=>∃ k2 n2 c2,e = Ω (.agg #[I J e2.1.kind,I J e2.1.num,Ψ (bs e2.1.text),Γ k2 n2 c2,I J e2.1.pl]) /\
         Hid (TL b ta tn tc T w w.heap.size w1.heap.size (termG (facN n) r).rest (flt (termG (facN n) r).many f') q kb km kd w' /\ ExAt true (fun g=>w.heap.size <= g /\ g ≠ w.heap.size /\ g ≠ w1.heap.size) w' e2 k2 n2)):=by
         refine (ex_ok (HF r f' w3.drew HT3.out.p HX.out.2.1) hx).mono ?_
         rintro e w' ⟨k2,n2,c2,rfl,hE,hK,hP⟩
         have hT:=HT3.out.go hK hP
         refine ⟨k2,n2,c2,rfl,hT,hE.base fun g _ hg=>?_⟩
         have h1:=lt_block HT3.out.res
         have h2:=lt_block HT3.out.val
         have h3:w3.drew.heap.size <= g:=hg
         exact ⟨by omega,by omega,by omega⟩
        have HY:Hid ((termG (facN n) r).rest.length <= m' /\ (termG (facN n) r).rest.length <= n /\ (termG (facN n) r).rest.length < r.length + 1 /\ Eqv X (exprGo (termG (facN n)) m' (hdB 5 t,ofL [q,e2]) (termG (facN n) r).rest) f (flt (termG (facN n) r).many f')):=by
         obtain ⟨h0,h0',h1,h2,h3⟩:=HX.out
         rw [bind_some _ hx] at h1 h2 h3
         have:=suf_len (term_suf (fac_suf n) r)
         refine ⟨by omega,by omega,by omega,h1,h2,?_⟩
         rw [h3]; exact flt_append _ _ _
        clear hx HX HF
        generalize termG (facN n) r = y at *
        refine wp_region_X 7 (SC w1.heap.size q.1 kb km kd) (by kernel_rfl) ?_
        refine tkX (i:=0) (v:=I J 5) rfl HS0.out (fun W hW=>by obtain ⟨_,_,_,_,_⟩:=hW; go_simp) ?_
        simp only [Act.put]
        refine tkX (i:=1) (v:=.agg #[I J q.1.kind,I J q.1.num,Ψ (bs q.1.text),Γ kb km kd,I J q.1.pl]) rfl HS0.out (fun W hW=>by obtain ⟨_,_,_,_,_⟩:=hW; go_simp) ?_
        simp only [Act.put]
        refine tkX (i:=2) (v:=Φ (some ⟨b,0,none⟩)) rfl HS0.out (fun W hW=>by obtain ⟨_,_,_,_,_⟩:=hW; go_simp) ?_
        simp only [Act.put]
        refine tkX (i:=5) (v:=I J (t.pl:Int)) rfl HS0.out (fun W hW=>by obtain ⟨_,_,_,_,_⟩:=hW; go_simp) ?_
        simp only [Act.put]
        refine wpAnyX_one (i:=3) rfl (by kernel_rfl) (fun K hK=>?_)
        go_simp
        refine HFa.out.mono ?_
        rintro e w4 ⟨k2,n2,c2,rfl,HT4⟩
        refine hK.out _ _ (fun _=>HT4.out.1.sc) ?_
        clear hK K HT3 HS0 HFa
        refine wpAnyX_one (i:=4) rfl (by kernel_rfl) (fun K hK=>?_)
        go_simp
        refine hK.out _ _ (fun _=>(HT4.out.1.next ((Below.refl _ _).alloc (Nat.le_refl _) _)).sc) ?_
        clear hK K
        have HT5:Hid (∀ o,TL b ta tn tc T w w.heap.size w1.heap.size y.rest (flt y.many f') q kb km kd (w4.alloc o)):=fun o=>HT4.out.1.next ((Below.refl _ _).alloc (Nat.le_refl _) _)
        have e0:=fun o=>(HT5.out o).sc.1
        have e1:=fun o=>(HT5.out o).sc.2.1
        have e3:=fun o=>(HT5.out o).sc.2.2.1
        have e4:=fun o=>(HT5.out o).sc.2.2.2.1
        have e5:=fun o=>(HT5.out o).sc.2.2.2.2
        have ef:=fun o i=>(HT5.out o).frz i
        refine wpAnyX_one (i:=6) rfl (by kernel_rfl) (fun K hK=>?_)
        go_simp
        refine hK.out _ _ (fun _=>(HT5.out _).sc) ?_
        clear hK K
        refine wpAnyX_one (i:=7) rfl (by kernel_rfl) (fun K hK=>?_)
        go_simp
        refine hK.out _ _ (fun h=>absurd rfl h) ?_
        clear hK K
        refine wpAnyX_done (by kernel_rfl) ?_ _
        have HT6:=HT4.out.1.put (c2:=c2) (k:=5) (t:=t) HT4.out.2 (by omega) HPl.out
        have HH6:=hid HT6
        clear HT6
        go_wp2_with fail
        go_roundg y.rest.length
        case measure=>exact HY.out.2.2.1
        case rel=>exact ⟨y.rest,flt y.many f',(hdB 5 t,ofL [q,e2]),some ⟨w4.heap.size,0,none⟩,2,2,m',rfl,HH6,HY.out.2.1,HY.out.1,HY.out.2.2.2⟩
end Go.Proofs.YtlaodgdlkkmmeaaGreat
