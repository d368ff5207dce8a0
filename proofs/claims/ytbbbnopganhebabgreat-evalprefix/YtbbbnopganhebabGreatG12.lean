/-
  What stands in memory while the Kids of min and max are read; how the rest of a rule says what the whole says. And what follows.
-/
import Derived.Test.YtbbbnopganhebabGreatG06
import Derived.Test.YtbbbnopganhebabGreatApp
namespace Go.Proofs.YtbbbnopganhebabGreat
open Go.RowKit Go.Deep
def pre {α:Type} (m:List Int) (x:Rs α):Rs α:=⟨x.val,x.rest,m ++ x.many⟩
theorem bind_pre {α β:Type} {x:Rs α} (f:α -> List Tk -> Rs β) {a:α} (h:x.val = some a):x.bind f = pre x.many (f a x.rest):=bind_some f h
theorem pre_bind {α β:Type} (m:List Int) (x:Rs α) (f:α -> List Tk -> Rs β):(pre m x).bind f = pre m (x.bind f):=by
 cases hx:x.val with
 | none=>rw [bind_none _ hx,bind_none (x:=pre m x) _ hx]; rfl
 | some a=>rw [bind_pre _ hx,bind_pre (x:=pre m x) _ hx]; simp [pre]
theorem note_pre {α:Type} (c:Bool) (l:List Tk) (x:Rs α):note c l x = pre (if c then [plOf l] else []) x:=by
 cases c <;> rfl
theorem eqv_refl {α:Type} (X:Rs α) (f:Int × Int):Eqv X X f f:=⟨rfl,rfl,rfl⟩
theorem eqv_pre {α:Type} {X Y:Rs α} {f f':Int × Int} {m:List Int} (h:Eqv X (pre m Y) f f'):Eqv X Y f (flt m f'):=
 ⟨h.1,h.2.1,h.2.2.trans (flt_append _ _ _)⟩
theorem eqv_none {α β:Type} {X:Rs β} {x:Rs α} {F:α -> List Tk -> Rs β} {f f':Int × Int} (h:Eqv X (x.bind F) f f') (hx:x.val = none):X.val = none /\ X.rest = x.rest:=by
 rw [bind_none _ hx] at h
 exact ⟨h.1,h.2.1⟩
theorem eqv_some {α β:Type} {X:Rs β} {x:Rs α} {F:α -> List Tk -> Rs β} {f f':Int × Int} (h:Eqv X (x.bind F) f f') {a:α} (hx:x.val = some a):Eqv X (F a x.rest) f (flt x.many f'):=by
 rw [bind_pre _ hx] at h
 exact eqv_pre h
theorem sign_many (s:List UInt8) (l:List Tk):(signG s l).many = []:=by
 cases l with
 | nil=>rfl
 | cons t r=>show (if isT 6 s t = true then pure' () r else wrong' (t :: r)).many = []; split <;> rfl
section
variable {b:Nat} {ta:Option Addr} {tn tc:Nat} {T:List Tk} {w:World} {l:List Tk} {f:Int × Int} {xs:List Xs} {v:Value} {n:Nat} {W W':World}
end
theorem sign_ok {b:Nat} {ta:Option Addr} {tn tc:Nat} {T:List Tk} {f:Int × Int} {l:List Tk} {s:ByteArray} {W:World} (h:PAt b ta tn tc T l f W) {u:Unit} (hx:(signG s.data.toList l).val = some u) :
 Calls Tryz.prog 123 #[.pointer (some ⟨b,0,none⟩),.string s] W fun e w'=>e = .returned (.tuple #[]) /\ Kp b W w' /\ PAt b ta tn tc T (signG s.data.toList l).rest f w':=by
 refine (calls_ok (signP_calls W s h) hx).mono ?_
 rintro e w' ⟨v,he,hv,hk,hp⟩
 rw [sign_many,flt_nil] at hp
 exact ⟨by rw [he,show v = .tuple #[] from hv],hk,hp⟩
open Go.Value renaming int->I
open Go.IntKind renaming i64->J
set_option maxRecDepth 20000
set_option maxHeartbeats 2000000
/-- The parser, and the result's variable. -/
structure CL (b:Nat) (ta:Option Addr) (tn tc:Nat) (T:List Tk) (w:World) (l:List Tk) (f:Int × Int) (W:World):Prop where
 p:PAt b ta tn tc T l f W
 kp:Kp b w W
 nb:b < w.heap.size
 res:W.heap[w.heap.size]? = some (.cells zero5 173 (0,0))
section
variable {b:Nat} {ta:Option Addr} {tn tc:Nat} {T:List Tk} {w:World} {l:List Tk} {f:Int × Int} {W W':World}
theorem CL.start (h:PAt b ta tn tc T l f w):CL b ta tn tc T w l f (w.alloc (.cells zero5 173)):=
 ⟨h.below ((Below.refl _ _).alloc (Nat.le_refl _) _),(Kp.refl b w).alloc _,h.lt,heap_alloc_new w _⟩
theorem CL.go (h:CL b ta tn tc T w l f W) (hk:Kp b W W') {l':List Tk} {f':Int × Int} (hp:PAt b ta tn tc T l' f' W'):CL b ta tn tc T w l' f' W':=
 ⟨hp,h.kp.trans hk,h.nb,by rw [hk.block _ (lt_block h.res) (by have:=h.nb; omega)]; exact h.res⟩
theorem CL.next (h:CL b ta tn tc T w l f W) (hk:Below W.heap.size W W'):CL b ta tn tc T w l f W':=h.go (Kp.of_below hk) (h.p.below hk)
theorem CL.zeros (h:CL b ta tn tc T w l f W):W.cell? ⟨w.heap.size,0,none⟩ = some (I J 0) /\ W.cell? ⟨w.heap.size,1,none⟩ = some (I J 0) /\ W.cell? ⟨w.heap.size,2,none⟩ = some (.string ⟨#[]⟩) /\ W.cell? ⟨w.heap.size,3,none⟩ = some (.slice none 0 0) /\ W.cell? ⟨w.heap.size,4,none⟩ = some (I J 0) /\ ∀ i,W.frozen? ⟨w.heap.size,i,none⟩ = false:=
 ⟨blk h.res rfl,blk h.res rfl,blk h.res rfl,blk h.res rfl,blk h.res rfl,fun i=>blkf i h.res⟩
theorem CL.size (h:CL b ta tn tc T w l f W):w.heap.size < W.heap.size:=lt_block h.res
/-- The result's variable takes an expression. -/
theorem CL.done (h:CL b ta tn tc T w l f W) {e:Ex} {ka:Option Addr} {kn kc:Nat} (hx:ExAt true (fun g=>w.heap.size < g) W e ka kn) :
 Kp b w (((((W.setCell ⟨w.heap.size,0,none⟩ (I J e.1.kind)).setCell ⟨w.heap.size,1,none⟩ (I J e.1.num)).setCell ⟨w.heap.size,2,none⟩ (.string (bs e.1.text))).setCell ⟨w.heap.size,3,none⟩ (.slice ka kn kc)).setCell ⟨w.heap.size,4,none⟩ (I J e.1.pl)) /\
 PAt b ta tn tc T l f (((((W.setCell ⟨w.heap.size,0,none⟩ (I J e.1.kind)).setCell ⟨w.heap.size,1,none⟩ (I J e.1.num)).setCell ⟨w.heap.size,2,none⟩ (.string (bs e.1.text))).setCell ⟨w.heap.size,3,none⟩ (.slice ka kn kc)).setCell ⟨w.heap.size,4,none⟩ (I J e.1.pl)) /\
 VEx w.heap.size e (.agg #[I J e.1.kind,I J e.1.num,.string (bs e.1.text),.slice ka kn kc,I J e.1.pl]) (((((W.setCell ⟨w.heap.size,0,none⟩ (I J e.1.kind)).setCell ⟨w.heap.size,1,none⟩ (I J e.1.num)).setCell ⟨w.heap.size,2,none⟩ (.string (bs e.1.text))).setCell ⟨w.heap.size,3,none⟩ (.slice ka kn kc)).setCell ⟨w.heap.size,4,none⟩ (I J e.1.pl)):=by
 generalize hW:((((W.setCell ⟨w.heap.size,0,none⟩ (I J e.1.kind)).setCell ⟨w.heap.size,1,none⟩ (I J e.1.num)).setCell ⟨w.heap.size,2,none⟩ (.string (bs e.1.text))).setCell ⟨w.heap.size,3,none⟩ (.slice ka kn kc)).setCell ⟨w.heap.size,4,none⟩ (I J e.1.pl) = W'
 have hnb:=h.nb
 have hn2:w.heap.size <= w.heap.size:=Nat.le_refl _
 have hoth:∀ g,g ≠ w.heap.size -> W'.heap[g]? = W.heap[g]?:=fun g hg=>by
  rw [<- hW]; exact heap_other (heap_other (heap_other (heap_other (heap_other rfl hg) hg) hg) hg) hg
 have hkp:=((((h.kp.setNew hn2 0 (I J e.1.kind)).setNew hn2 1 (I J e.1.num)).setNew hn2 2 (.string (bs e.1.text))).setNew hn2 3 (.slice ka kn kc)).setNew hn2 4 (I J e.1.pl)
 rw [hW] at hkp
 obtain ⟨kk,q1,q2,q3⟩:=h.p.block
 refine ⟨hkp,⟨⟨kk,q1,q2,by rw [hoth b (by omega)]; exact q3⟩,?_,h.p.low,h.p.last,h.p.few⟩,ka,kn,kc,rfl,?_⟩
 ·refine h.p.toks.keep fun x hx=>hoth x.block ?_
  have:=h.p.low x hx
  omega
 ·refine ExAt.base (hx.keep fun g _ hg=>hoth g (by omega)) fun g _ hg=>?_
  have h3:w.heap.size < g:=hg
  show w.heap.size <= g
  omega
end
theorem pl_le {b:Nat} {ta:Option Addr} {tn tc:Nat} {T:List Tk} {t:Tk} {r:List Tk} {f:Int × Int} {w:World} (h:PAt b ta tn tc T (t :: r) f w):TkOk t:=by
 obtain ⟨k,hk1,_,_⟩:=h.block
 have hmem:t ∈ T:=by
  have:t ∈ T.drop k:=by rw [hk1]; simp
  exact List.mem_of_mem_drop this
 exact h.toks.fits t hmem
theorem isT_kind {k:Int} {s:List UInt8} {t:Tk} (h:isT k s t = true) (hk:k ≠ 1):t.kind ≠ 1:=by
 unfold isT at h; simp at h
 rw [h.1]; exact hk
theorem comp_neg {b:Nat} {ta:Option Addr} {tn tc:Nat} {T:List Tk} {n:Nat} {f:Int × Int} (w:World) {t:Tk} {r:List Tk} (h:PAt b ta tn tc T (t :: r) f w) (hl:r.length <= n)
 (HF:∀ l f w,PAt b ta tn tc T l f w -> l.length <= n -> Calls Tryz.prog 163 #[.pointer (some ⟨b,0,none⟩)] w (PPost b ta tn tc T f (facN n l) (VEx w.heap.size) w)) (hs:isT 6 [45] t = true) :
 Calls Tryz.prog 172 #[.pointer (some ⟨b,0,none⟩)] w (PPost b ta tn tc T f ((facN n r).map fun e=>(hdB 4 t,ofL [e])) (VEx w.heap.size) w):=by
 have hres:Tryz.f172.results = #[.cell 2 173]:=by kernel_rfl
 have HC0:Hid (CL b ta tn tc T w (t :: r) f (w.alloc (.cells zero5 173))):=CL.start h
 have HPl:Hid (t.pl <= 4000):=(pl_le h).pl
 have hfd:=fld48_3
 have hk1:=isT_kind hs (by decide)
 have HSa:Hid (∀ W,PAt b ta tn tc T (t :: r) f W -> Calls Tryz.prog 151 #[.pointer (some ⟨b,0,none⟩),I J 6,.string ⟨#[45]⟩] W fun e w'=>e = .returned (.bool true) /\ Below W.heap.size W w'):=fun W h=>by
  have:=sees_calls W h 6 ⟨#[45]⟩
  rw [show (⟨#[45]⟩:ByteArray).data.toList = [45] from rfl,hs] at this; exact this
 have HN:Hid (∀ w,PAt b ta tn tc T (t :: r) f w -> Calls Tryz.prog 150 #[.pointer (some ⟨b,0,none⟩)] w fun e w'=>e = .returned (.agg #[I J t.kind,I J t.num,.string (bs t.text),I J (t.pl:Int)]) /\ Kp b w w' /\ PAt b ta tn tc T r f w'):=fun w h=>nextP_calls w h hk1
 generalize hX:(facN n r).map (fun e=>(hdB 4 t,ofL [e])) = X at *
 have HZ:Hid (∀ v w',Kp b w w' -> PAt b ta tn tc T X.rest (70,plOf X.rest) w' -> X.val = none -> PPost b ta tn tc T f X (VEx w.heap.size) w (.panicked [{ v:=.iface 87 v,recovered:=false }]) w'):=fun v w' h1 h2 h3=>⟨h1,.inr ⟨h3,⟨v,rfl⟩,h2⟩⟩
 cases hx:(facN n r).val with
 | none=>
   have HFa:Hid (∀ W,PAt b ta tn tc T r f W -> Calls Tryz.prog 163 #[.pointer (some ⟨b,0,none⟩)] W fun e w'=>∃ v,e = .panicked [{ v:=.iface 87 v,recovered:=false }] /\ Kp b W w' /\ PAt b ta tn tc T (facN n r).rest (70,plOf (facN n r).rest) w'):=fun W hW=>calls_no (HF r f W hW hl) hx
   have HE:Hid (X.val = none /\ X.rest = (facN n r).rest):=by rw [<- hX]; exact ⟨by show (facN n r).val.map _ = none; rw [hx]; rfl,rfl⟩
   clear hx hX HF h hs hk1
   generalize facN n r = y at *
   go_enter Tryz.func172,Tryz.ntmps172
   go_wp2_with fail
   refine (HSa.out _ HC0.out.p).mono ?_
   rintro e w1 ⟨rfl,hb1⟩
   have HC1:Hid (CL b ta tn tc T w (t :: r) f w1):=HC0.out.next hb1
   clear hb1 HSa HC0
   go_wp2_with fail
   refine (HN.out _ HC1.out.p).mono ?_
   rintro e w2 ⟨rfl,hk2,hp2⟩
   have HC2:Hid (CL b ta tn tc T w r f w2):=HC1.out.go hk2 hp2
   clear hk2 hp2 HN HC1
   go_wp2_with fail
   refine (HFa.out _ HC2.out.p).mono ?_
   rintro e w3 ⟨v,rfl,hk3,hp3⟩
   exact ⟨rfl,HZ.out _ _ (HC2.out.kp.trans hk3) (by rw [HE.out.2]; exact hp3) HE.out.1⟩
 | some a=>
   have HFa:Hid (∀ W,PAt b ta tn tc T r f W -> Calls Tryz.prog 163 #[.pointer (some ⟨b,0,none⟩)] W fun e w'=>∃ ka kn kc,e = .returned (.agg #[I J a.1.kind,I J a.1.num,.string (bs a.1.text),.slice ka kn kc,I J a.1.pl]) /\ ExAt true (fun g=>W.heap.size <= g) w' a ka kn /\ Kp b W w' /\ PAt b ta tn tc T (facN n r).rest (flt (facN n r).many f) w'):=fun W hW=>ex_ok (HF r f W hW hl) hx
   have HE:Hid (X.val = some (hdB 4 t,ofL [a]) /\ X.rest = (facN n r).rest /\ X.many = (facN n r).many):=by rw [<- hX]; exact ⟨by show (facN n r).val.map _ = some _; rw [hx]; rfl,rfl,rfl⟩
   clear hx hX HF h hs hk1
   generalize facN n r = y at *
   go_enter Tryz.func172,Tryz.ntmps172
   go_wp2_with fail
   refine (HSa.out _ HC0.out.p).mono ?_
   rintro e w1 ⟨rfl,hb1⟩
   have HC1:Hid (CL b ta tn tc T w (t :: r) f w1):=HC0.out.next hb1
   clear hb1 HSa HC0
   go_wp2_with fail
   refine (HN.out _ HC1.out.p).mono ?_
   rintro e w2 ⟨rfl,hk2,hp2⟩
   have HC2:Hid (CL b ta tn tc T w r f w2):=HC1.out.go hk2 hp2
   clear hk2 hp2 HN HC1
   go_wp2_with fail
   refine (HFa.out _ HC2.out.p).mono ?_
   rintro e w3 ⟨ka,kn,kc,rfl,hE3,hk3,hp3⟩
   have HC3:Hid (∀ o,CL b ta tn tc T w y.rest (flt y.many f) (w3.alloc o)):=fun o=>(HC2.out.go hk3 hp3).next ((Below.refl _ _).alloc (Nat.le_refl _) o)
   have HF3:Hid (ExAt true (fun g=>w.heap.size < g) (w3.alloc (.cells #[I J a.1.kind,I J a.1.num,.string (bs a.1.text),.slice ka kn kc,I J a.1.pl] 173)) (hdB 4 t,ofL [a]) (some ⟨w3.heap.size,0,none⟩) 1):=by
    have h2:=HC2.out.size
    have h3:=hk3.size
    exact ⟨small_ok (by omega) HPl.out,by decide,one_new (by show w.heap.size < w3.heap.size; omega) (hE3.base fun g _ hg=>by
     have h4:w2.heap.size <= g:=hg
     show w.heap.size < g
     omega)⟩
   have z0:=fun o=>(HC3.out o).zeros.1
   have z1:=fun o=>(HC3.out o).zeros.2.1
   have z2:=fun o=>(HC3.out o).zeros.2.2.1
   have z3:=fun o=>(HC3.out o).zeros.2.2.2.1
   have z4:=fun o=>(HC3.out o).zeros.2.2.2.2.1
   have zf:=fun o i=>(HC3.out o).zeros.2.2.2.2.2 i
   have HD:=(HC3.out _).done (kc:=1) HF3.out
   have HD':Hid _:=HD
   clear HD hE3 hk3 hp3 HFa HC2
   go_wp2
   refine bodyPost_ret (v:=.agg #[I J 4,I J 0,.string ⟨#[]⟩,.slice (some ⟨w3.heap.size,0,none⟩) 1 1,I J (t.pl:Int)]) ?_ rfl ?_
   ·simp only [results,hres]
    go_simp
   ·refine ⟨HD'.out.1,.inl ⟨_,_,HE.out.1,rfl,HD'.out.2.2,?_⟩⟩
    rw [HE.out.2.1,HE.out.2.2]
    exact HD'.out.2.1
set_option maxRecDepth 20000
set_option maxHeartbeats 2000000
/-- A token of a source without brackets, min, max, let, pair, band and clip. -/
def simT (t:Tk):Bool:=!isT 6 [40] t && !isT 4 [109,105,110] t && !isT 4 [109,97,120] t && decide (itemKindB t.text ≠ 1) && decide (itemKindB t.text ≠ 5) && decide (itemKindB t.text ≠ 8) && decide (itemKindB t.text ≠ 9)
theorem simT_out {t:Tk} (h:simT t = true):(isT 6 [40] t = false /\ isT 4 [109,105,110] t = false /\ isT 4 [109,97,120] t = false) /\ itemKindB t.text ≠ 1 /\ itemKindB t.text ≠ 5 /\ itemKindB t.text ≠ 8 /\ itemKindB t.text ≠ 9:=by
 unfold simT at h
 simp only [Bool.and_eq_true,Bool.not_eq_true',decide_eq_true_eq] at h
 obtain ⟨⟨⟨⟨⟨⟨h1,h2⟩,h3⟩,h4⟩,h5⟩,h6⟩,h7⟩:=h
 exact ⟨⟨h1,h2,h3⟩,h4,h5,h6,h7⟩
theorem PAt.sim {b:Nat} {ta:Option Addr} {tn tc:Nat} {T:List Tk} {f:Int × Int} {w:World} {t:Tk} {r:List Tk} (h:PAt b ta tn tc T (t :: r) f w) (hT:∀ t ∈ T,simT t = true):simT t = true:=by
 obtain ⟨k,hk,_⟩:=h.block
 exact hT t (List.mem_of_mem_drop (i:=k) (by rw [hk]; exact List.mem_cons_self))
theorem comp_wrong {b:Nat} {ta:Option Addr} {tn tc:Nat} {T:List Tk} {f:Int × Int} (w:World) {t:Tk} {r:List Tk} (h:PAt b ta tn tc T (t :: r) f w)
 (ha:isT 6 [45] t = false) (hb:isT 6 [40] t = false) (hc:isT 4 [109,105,110] t = false) (hd:isT 4 [109,97,120] t = false) :
 Calls Tryz.prog 172 #[.pointer (some ⟨b,0,none⟩)] w (PPost b ta tn tc T f (wrong' (t :: r)) (VEx w.heap.size) w):=by
 have HC0:Hid (CL b ta tn tc T w (t :: r) f (w.alloc (.cells zero5 173))):=CL.start h
 have HSa:Hid (∀ W,PAt b ta tn tc T (t :: r) f W -> Calls Tryz.prog 151 #[.pointer (some ⟨b,0,none⟩),I J 6,.string ⟨#[45]⟩] W fun e w'=>e = .returned (.bool false) /\ Below W.heap.size W w'):=fun W h=>by
  have:=sees_calls W h 6 ⟨#[45]⟩
  rw [show (⟨#[45]⟩:ByteArray).data.toList = [45] from rfl,ha] at this; exact this
 have HSb:Hid (∀ W,PAt b ta tn tc T (t :: r) f W -> Calls Tryz.prog 151 #[.pointer (some ⟨b,0,none⟩),I J 6,.string ⟨#[40]⟩] W fun e w'=>e = .returned (.bool false) /\ Below W.heap.size W w'):=fun W h=>by
  have:=sees_calls W h 6 ⟨#[40]⟩
  rw [show (⟨#[40]⟩:ByteArray).data.toList = [40] from rfl,hb] at this; exact this
 have HSc:Hid (∀ W,PAt b ta tn tc T (t :: r) f W -> Calls Tryz.prog 151 #[.pointer (some ⟨b,0,none⟩),I J 4,.string ⟨#[109,105,110]⟩] W fun e w'=>e = .returned (.bool false) /\ Below W.heap.size W w'):=fun W h=>by
  have:=sees_calls W h 4 ⟨#[109,105,110]⟩
  rw [show (⟨#[109,105,110]⟩:ByteArray).data.toList = [109,105,110] from rfl,hc] at this; exact this
 have HSd:Hid (∀ W,PAt b ta tn tc T (t :: r) f W -> Calls Tryz.prog 151 #[.pointer (some ⟨b,0,none⟩),I J 4,.string ⟨#[109,97,120]⟩] W fun e w'=>e = .returned (.bool false) /\ Below W.heap.size W w'):=fun W h=>by
  have:=sees_calls W h 4 ⟨#[109,97,120]⟩
  rw [show (⟨#[109,97,120]⟩:ByteArray).data.toList = [109,97,120] from rfl,hd] at this; exact this
 have HN:Hid (∀ w,PAt b ta tn tc T (t :: r) f w -> Calls Tryz.prog 149 #[.pointer (some ⟨b,0,none⟩)] w fun e w'=>e = .returned (.agg #[I J 70,I J (t.pl:Int)]) /\ Kp b w w' /\ PAt b ta tn tc T (t :: r) (70,t.pl) w'):=fun w h=>wrong_calls w h
 clear h
 go_enter Tryz.func172,Tryz.ntmps172
 go_wp2_with fail
 refine (HSa.out _ HC0.out.p).mono ?_
 rintro e w1 ⟨rfl,hb1⟩
 have HC1:Hid (CL b ta tn tc T w (t :: r) f w1):=HC0.out.next hb1
 clear hb1 HSa HC0
 go_wp2_with fail
 refine (HSb.out _ HC1.out.p).mono ?_
 rintro e w2 ⟨rfl,hb2⟩
 have HC2:Hid (CL b ta tn tc T w (t :: r) f w2):=HC1.out.next hb2
 clear hb2 HSb HC1
 go_wp2_with fail
 refine (HSc.out _ HC2.out.p).mono ?_
 rintro e w3 ⟨rfl,hb3⟩
 have HC3:Hid (CL b ta tn tc T w (t :: r) f w3):=HC2.out.next hb3
 clear hb3 HSc HC2
 go_wp2_with fail
 refine (HSd.out _ HC3.out.p).mono ?_
 rintro e w4 ⟨rfl,hb4⟩
 have HC4:Hid (CL b ta tn tc T w (t :: r) f w4):=HC3.out.next hb4
 clear hb4 HSd HC3
 go_wp2_with fail
 refine (HN.out _ HC4.out.p).mono ?_
 rintro e wx ⟨rfl,hkx,hpx⟩
 have HR:Hid (Kp b w wx /\ PAt b ta tn tc T (t :: r) (70,t.pl) wx):=⟨HC4.out.kp.trans hkx,hpx⟩
 clear hkx hpx HC4 HN
 go_wp2
 exact ⟨rfl,HR.out.1,.inr ⟨rfl,⟨_,rfl⟩,HR.out.2⟩⟩
end Go.Proofs.YtbbbnopganhebabGreat
