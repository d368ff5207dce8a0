/-
  Factors, terms, expressions: for every list of tokens. And what follows.
-/
import Derived.Test.YtbbbnopganhebabGreatG12
namespace Go.Proofs.YtbbbnopganhebabGreat
open Go.RowKit Go.Deep
open Go.Value renaming int->I
open Go.IntKind renaming i64->J
set_option maxRecDepth 20000
set_option maxHeartbeats 2000000
theorem comp_calls {b:Nat} {ta:Option Addr} {tn tc:Nat} {T:List Tk} {n:Nat} {f:Int × Int} (w:World) {t:Tk} {r:List Tk} (h:PAt b ta tn tc T (t :: r) f w) (hl:r.length <= n) (hS:simT t = true)
 (HF:∀ l f w,PAt b ta tn tc T l f w -> l.length <= n -> Calls Tryz.prog 163 #[.pointer (some ⟨b,0,none⟩)] w (PPost b ta tn tc T f (facN n l) (VEx w.heap.size) w))
 (h2:t.kind ≠ 2) (h3:t.kind ≠ 3) (h5:t.kind ≠ 5):Calls Tryz.prog 172 #[.pointer (some ⟨b,0,none⟩)] w (PPost b ta tn tc T f (facN (n + 1) (t :: r)) (VEx w.heap.size) w):=by
 obtain ⟨hb,hc,hd⟩:=(simT_out hS).1
 rw [facN,if_neg h2,if_neg h3,if_neg h5]
 cases ha:isT 6 [45] t with
 | true=>rw [if_pos rfl]; exact comp_neg w h hl HF ha
 | false=>
   unfold wMin wMax
   rw [if_neg (by decide),hb,if_neg (by decide),hc,if_neg (by decide),hd,if_neg (by decide)]
   exact comp_wrong w h ha hb hc hd
theorem tk_hd {t:Tk} (h:TkOk t) {k:Int} (hk:0 <= k /\ k <= 100) {z:Int} {s:List UInt8} (hz:z = t.num \/ z = 0) (hs:s = t.text \/ s = []):HdOk ⟨k,z,s,t.pl⟩:=by
 have h1:=h.num
 have h2:=h.text
 have h3:=h.pl
 refine ⟨?_,?_,?_,?_⟩
 ·show InR k; unfold InR; omega
 ·show InR z; unfold InR; omega
 ·show s.length <= maxLen
  unfold maxLen
  rcases hs with rfl | rfl
  ·omega
  ·simp
 ·show InR (t.pl:Int); unfold InR; omega
theorem fac_lit2 {b:Nat} {ta:Option Addr} {tn tc:Nat} {T:List Tk} {f:Int × Int} (w:World) {t:Tk} {r:List Tk} (h:PAt b ta tn tc T (t :: r) f w) (hk:t.kind = 2) :
 Calls Tryz.prog 163 #[.pointer (some ⟨b,0,none⟩)] w (PPost b ta tn tc T f (pure' ((⟨1,t.num,[],t.pl⟩:Hd),(BT.nil:Fo)) r) (VEx w.heap.size) w):=by
 have hres:Tryz.f163.results = #[.cell 2 173]:=by kernel_rfl
 have HC0:Hid (CL b ta tn tc T w (t :: r) f (w.alloc (.cells zero5 173))):=CL.start h
 have HOk:Hid (TkOk t):=pl_le h
 have hfd:=fld48_0
 have HH:Hid (∀ w,PAt b ta tn tc T (t :: r) f w -> Calls Tryz.prog 84 #[.pointer (some ⟨b,0,none⟩)] w fun e w'=>e = .returned (.agg #[I J t.kind,I J t.num,.string (bs t.text),I J (t.pl:Int)]) /\ Below w.heap.size w w'):=fun w h=>here_calls w h
 have HN:Hid (∀ w,PAt b ta tn tc T (t :: r) f w -> Calls Tryz.prog 150 #[.pointer (some ⟨b,0,none⟩)] w fun e w'=>e = .returned (.agg #[I J t.kind,I J t.num,.string (bs t.text),I J (t.pl:Int)]) /\ Kp b w w' /\ PAt b ta tn tc T r f w'):=fun w h=>nextP_calls w h (by rw [hk]; decide)
 have q2:(t.kind == 2) = true:=by rw [hk]; decide
 clear hk h
 go_enter Tryz.func163,Tryz.ntmps163
 go_wp2_with fail
 refine (HH.out _ HC0.out.p).mono ?_
 rintro e w1 ⟨rfl,hb1⟩
 have HC1:Hid (CL b ta tn tc T w (t :: r) f w1):=HC0.out.next hb1
 clear hb1 HH HC0
 go_wp2_with fail
 refine (HN.out _ HC1.out.p).mono ?_
 rintro e w2 ⟨rfl,hk2,hp2⟩
 have HC2:Hid (∀ o,CL b ta tn tc T w r f (w2.alloc o)):=fun o=>(HC1.out.go hk2 hp2).next ((Below.refl _ _).alloc (Nat.le_refl _) o)
 have HF3:Hid (∀ o,ExAt true (fun g=>w.heap.size < g) (w2.alloc o) (⟨1,t.num,[],t.pl⟩,(BT.nil:Fo)) none 0):=fun o=>⟨tk_hd HOk.out (by omega) (.inl rfl) (.inr rfl),Nat.zero_le _,rfl⟩
 have z0:=fun o=>(HC2.out o).zeros.1
 have z1:=fun o=>(HC2.out o).zeros.2.1
 have z2:=fun o=>(HC2.out o).zeros.2.2.1
 have z3:=fun o=>(HC2.out o).zeros.2.2.2.1
 have z4:=fun o=>(HC2.out o).zeros.2.2.2.2.1
 have zf:=fun o i=>(HC2.out o).zeros.2.2.2.2.2 i
 have hne:¬ w.heap.size = w2.heap.size:=by have:=HC1.out.size; have:=hk2.size; omega
 have HD:Hid (∀ o,_):=fun o=>(HC2.out o).done (kc:=0) (HF3.out o)
 clear hk2 hp2 HN HC1
 go_wp2
 refine bodyPost_ret (v:=.agg #[I J 1,I J t.num,.string ⟨#[]⟩,.slice none 0 0,I J (t.pl:Int)]) ?_ rfl ?_
 ·simp only [results,hres]
  go_simp
 ·refine ⟨(HD.out _).1,.inl ⟨_,_,rfl,rfl,(HD.out _).2.2,?_⟩⟩
  exact (flt_nil f).symm ▸ (HD.out _).2.1
theorem fac_lit3 {b:Nat} {ta:Option Addr} {tn tc:Nat} {T:List Tk} {f:Int × Int} (w:World) {t:Tk} {r:List Tk} (h:PAt b ta tn tc T (t :: r) f w) (hk:t.kind = 3) :
 Calls Tryz.prog 163 #[.pointer (some ⟨b,0,none⟩)] w (PPost b ta tn tc T f (pure' ((⟨2,0,t.text,t.pl⟩:Hd),(BT.nil:Fo)) r) (VEx w.heap.size) w):=by
 have hres:Tryz.f163.results = #[.cell 2 173]:=by kernel_rfl
 have HC0:Hid (CL b ta tn tc T w (t :: r) f (w.alloc (.cells zero5 173))):=CL.start h
 have HOk:Hid (TkOk t):=pl_le h
 have hfd:=fld48_0
 have HH:Hid (∀ w,PAt b ta tn tc T (t :: r) f w -> Calls Tryz.prog 84 #[.pointer (some ⟨b,0,none⟩)] w fun e w'=>e = .returned (.agg #[I J t.kind,I J t.num,.string (bs t.text),I J (t.pl:Int)]) /\ Below w.heap.size w w'):=fun w h=>here_calls w h
 have HN:Hid (∀ w,PAt b ta tn tc T (t :: r) f w -> Calls Tryz.prog 150 #[.pointer (some ⟨b,0,none⟩)] w fun e w'=>e = .returned (.agg #[I J t.kind,I J t.num,.string (bs t.text),I J (t.pl:Int)]) /\ Kp b w w' /\ PAt b ta tn tc T r f w'):=fun w h=>nextP_calls w h (by rw [hk]; decide)
 have q2:(t.kind == 2) = false:=by rw [hk]; decide
 have q3:(t.kind == 3) = true:=by rw [hk]; decide
 clear hk h
 go_enter Tryz.func163,Tryz.ntmps163
 go_wp2_with fail
 refine (HH.out _ HC0.out.p).mono ?_
 rintro e w1 ⟨rfl,hb1⟩
 have HC1:Hid (CL b ta tn tc T w (t :: r) f w1):=HC0.out.next hb1
 clear hb1 HH HC0
 go_wp2_with fail
 refine (HN.out _ HC1.out.p).mono ?_
 rintro e w2 ⟨rfl,hk2,hp2⟩
 have HC2:Hid (∀ o,CL b ta tn tc T w r f (w2.alloc o)):=fun o=>(HC1.out.go hk2 hp2).next ((Below.refl _ _).alloc (Nat.le_refl _) o)
 have HF3:Hid (∀ o,ExAt true (fun g=>w.heap.size < g) (w2.alloc o) (⟨2,0,t.text,t.pl⟩,(BT.nil:Fo)) none 0):=fun o=>⟨tk_hd HOk.out (by omega) (.inr rfl) (.inl rfl),Nat.zero_le _,rfl⟩
 have z0:=fun o=>(HC2.out o).zeros.1
 have z1:=fun o=>(HC2.out o).zeros.2.1
 have z2:=fun o=>(HC2.out o).zeros.2.2.1
 have z3:=fun o=>(HC2.out o).zeros.2.2.2.1
 have z4:=fun o=>(HC2.out o).zeros.2.2.2.2.1
 have zf:=fun o i=>(HC2.out o).zeros.2.2.2.2.2 i
 have hne:¬ w.heap.size = w2.heap.size:=by have:=HC1.out.size; have:=hk2.size; omega
 have HD:Hid (∀ o,_):=fun o=>(HC2.out o).done (kc:=0) (HF3.out o)
 clear hk2 hp2 HN HC1
 go_wp2
 refine bodyPost_ret (v:=.agg #[I J 2,I J 0,.string (bs t.text),.slice none 0 0,I J (t.pl:Int)]) ?_ rfl ?_
 ·simp only [results,hres]
  go_simp
 ·refine ⟨(HD.out _).1,.inl ⟨_,_,rfl,rfl,(HD.out _).2.2,?_⟩⟩
  exact (flt_nil f).symm ▸ (HD.out _).2.1
theorem fac_lit5 {b:Nat} {ta:Option Addr} {tn tc:Nat} {T:List Tk} {f:Int × Int} (w:World) {t:Tk} {r:List Tk} (h:PAt b ta tn tc T (t :: r) f w) (hk:t.kind = 5) :
 Calls Tryz.prog 163 #[.pointer (some ⟨b,0,none⟩)] w (PPost b ta tn tc T f (pure' ((⟨3,0,t.text,t.pl⟩:Hd),(BT.nil:Fo)) r) (VEx w.heap.size) w):=by
 have hres:Tryz.f163.results = #[.cell 2 173]:=by kernel_rfl
 have HC0:Hid (CL b ta tn tc T w (t :: r) f (w.alloc (.cells zero5 173))):=CL.start h
 have HOk:Hid (TkOk t):=pl_le h
 have hfd:=fld48_0
 have HH:Hid (∀ w,PAt b ta tn tc T (t :: r) f w -> Calls Tryz.prog 84 #[.pointer (some ⟨b,0,none⟩)] w fun e w'=>e = .returned (.agg #[I J t.kind,I J t.num,.string (bs t.text),I J (t.pl:Int)]) /\ Below w.heap.size w w'):=fun w h=>here_calls w h
 have HN:Hid (∀ w,PAt b ta tn tc T (t :: r) f w -> Calls Tryz.prog 150 #[.pointer (some ⟨b,0,none⟩)] w fun e w'=>e = .returned (.agg #[I J t.kind,I J t.num,.string (bs t.text),I J (t.pl:Int)]) /\ Kp b w w' /\ PAt b ta tn tc T r f w'):=fun w h=>nextP_calls w h (by rw [hk]; decide)
 have q2:(t.kind == 2) = false:=by rw [hk]; decide
 have q3:(t.kind == 3) = false:=by rw [hk]; decide
 have q5:(t.kind == 5) = true:=by rw [hk]; decide
 clear hk h
 go_enter Tryz.func163,Tryz.ntmps163
 go_wp2_with fail
 refine (HH.out _ HC0.out.p).mono ?_
 rintro e w1 ⟨rfl,hb1⟩
 have HC1:Hid (CL b ta tn tc T w (t :: r) f w1):=HC0.out.next hb1
 clear hb1 HH HC0
 go_wp2_with fail
 refine (HN.out _ HC1.out.p).mono ?_
 rintro e w2 ⟨rfl,hk2,hp2⟩
 have HC2:Hid (∀ o,CL b ta tn tc T w r f (w2.alloc o)):=fun o=>(HC1.out.go hk2 hp2).next ((Below.refl _ _).alloc (Nat.le_refl _) o)
 have HF3:Hid (∀ o,ExAt true (fun g=>w.heap.size < g) (w2.alloc o) (⟨3,0,t.text,t.pl⟩,(BT.nil:Fo)) none 0):=fun o=>⟨tk_hd HOk.out (by omega) (.inr rfl) (.inl rfl),Nat.zero_le _,rfl⟩
 have z0:=fun o=>(HC2.out o).zeros.1
 have z1:=fun o=>(HC2.out o).zeros.2.1
 have z2:=fun o=>(HC2.out o).zeros.2.2.1
 have z3:=fun o=>(HC2.out o).zeros.2.2.2.1
 have z4:=fun o=>(HC2.out o).zeros.2.2.2.2.1
 have zf:=fun o i=>(HC2.out o).zeros.2.2.2.2.2 i
 have hne:¬ w.heap.size = w2.heap.size:=by have:=HC1.out.size; have:=hk2.size; omega
 have HD:Hid (∀ o,_):=fun o=>(HC2.out o).done (kc:=0) (HF3.out o)
 clear hk2 hp2 HN HC1
 go_wp2
 refine bodyPost_ret (v:=.agg #[I J 3,I J 0,.string (bs t.text),.slice none 0 0,I J (t.pl:Int)]) ?_ rfl ?_
 ·simp only [results,hres]
  go_simp
 ·refine ⟨(HD.out _).1,.inl ⟨_,_,rfl,rfl,(HD.out _).2.2,?_⟩⟩
  exact (flt_nil f).symm ▸ (HD.out _).2.1
theorem fac_comp {b:Nat} {ta:Option Addr} {tn tc:Nat} {T:List Tk} {n:Nat} {f:Int × Int} (w:World) {t:Tk} {r:List Tk} (h:PAt b ta tn tc T (t :: r) f w) (hl:r.length <= n) (hS:simT t = true)
 (HF:∀ l f w,PAt b ta tn tc T l f w -> l.length <= n -> Calls Tryz.prog 163 #[.pointer (some ⟨b,0,none⟩)] w (PPost b ta tn tc T f (facN n l) (VEx w.heap.size) w))
 (h2:t.kind ≠ 2) (h3:t.kind ≠ 3) (h5:t.kind ≠ 5):Calls Tryz.prog 163 #[.pointer (some ⟨b,0,none⟩)] w (PPost b ta tn tc T f (facN (n + 1) (t :: r)) (VEx w.heap.size) w):=by
 have hres:Tryz.f163.results = #[.cell 2 173]:=by kernel_rfl
 have HC0:Hid (CL b ta tn tc T w (t :: r) f (w.alloc (.cells zero5 173))):=CL.start h
 have HOk:Hid (TkOk t):=pl_le h
 have hfd:=fld48_0
 have HH:Hid (∀ w,PAt b ta tn tc T (t :: r) f w -> Calls Tryz.prog 84 #[.pointer (some ⟨b,0,none⟩)] w fun e w'=>e = .returned (.agg #[I J t.kind,I J t.num,.string (bs t.text),I J (t.pl:Int)]) /\ Below w.heap.size w w'):=fun w h=>here_calls w h
 have q2:(t.kind == 2) = false:=by rw [beq_eq_false_iff_ne]; exact h2
 have q3:(t.kind == 3) = false:=by rw [beq_eq_false_iff_ne]; exact h3
 have q5:(t.kind == 5) = false:=by rw [beq_eq_false_iff_ne]; exact h5
 have HM:Hid (∀ W,PAt b ta tn tc T (t :: r) f W -> Calls Tryz.prog 172 #[.pointer (some ⟨b,0,none⟩)] W (PPost b ta tn tc T f (facN (n + 1) (t :: r)) (VEx W.heap.size) W)):=fun W hW=>comp_calls W hW hl hS HF h2 h3 h5
 generalize facN (n + 1) (t :: r) = X at *
 clear h2 h3 h5 HF h hS
 cases hx:X.val with
 | none=>
   have HN:Hid (∀ W,PAt b ta tn tc T (t :: r) f W -> Calls Tryz.prog 172 #[.pointer (some ⟨b,0,none⟩)] W fun e w'=>∃ v,e = .panicked [{ v:=.iface 87 v,recovered:=false }] /\ Kp b W w' /\ PAt b ta tn tc T X.rest (70,plOf X.rest) w'):=fun W hW=>calls_no (HM.out W hW) hx
   have HXn:Hid (X.val = none):=hx
   clear HM hx
   go_enter Tryz.func163,Tryz.ntmps163
   go_wp2_with fail
   refine (HH.out _ HC0.out.p).mono ?_
   rintro e w1 ⟨rfl,hb1⟩
   have HC1:Hid (CL b ta tn tc T w (t :: r) f w1):=HC0.out.next hb1
   clear hb1 HH HC0
   go_wp2_with fail
   refine (HN.out _ HC1.out.p).mono ?_
   rintro e w2 ⟨v,rfl,hk2,hp2⟩
   exact ⟨rfl,HC1.out.kp.trans hk2,.inr ⟨HXn.out,⟨v,rfl⟩,hp2⟩⟩
 | some a=>
   have HN:Hid (∀ W,PAt b ta tn tc T (t :: r) f W -> Calls Tryz.prog 172 #[.pointer (some ⟨b,0,none⟩)] W fun e w'=>∃ ka kn kc,e = .returned (.agg #[I J a.1.kind,I J a.1.num,.string (bs a.1.text),.slice ka kn kc,I J a.1.pl]) /\ ExAt true (fun g=>W.heap.size <= g) w' a ka kn /\ Kp b W w' /\ PAt b ta tn tc T X.rest (flt X.many f) w'):=fun W hW=>ex_ok (HM.out W hW) hx
   have HXn:Hid (X.val = some a):=hx
   clear HM hx
   go_enter Tryz.func163,Tryz.ntmps163
   go_wp2_with fail
   refine (HH.out _ HC0.out.p).mono ?_
   rintro e w1 ⟨rfl,hb1⟩
   have HC1:Hid (CL b ta tn tc T w (t :: r) f w1):=HC0.out.next hb1
   clear hb1 HH HC0
   go_wp2_with fail
   refine (HN.out _ HC1.out.p).mono ?_
   rintro e w2 ⟨ka,kn,kc,rfl,hE2,hk2,hp2⟩
   have HC2:Hid (CL b ta tn tc T w X.rest (flt X.many f) w2):=HC1.out.go hk2 hp2
   have HF3:Hid (ExAt true (fun g=>w.heap.size < g) w2 a ka kn):=hE2.base fun g _ hg=>by
    have h4:w1.heap.size <= g:=hg
    have h5:=HC1.out.size
    show w.heap.size < g
    omega
   obtain ⟨z0,z1,z2,z3,z4,zf⟩:=HC2.out.zeros
   have HD:Hid _:=HC2.out.done (kc:=kc) HF3.out
   clear hE2 hk2 hp2 HN HC1 HC2 HF3
   go_wp2
   refine bodyPost_ret (v:=.agg #[I J a.1.kind,I J a.1.num,.string (bs a.1.text),.slice ka kn kc,I J a.1.pl]) ?_ rfl ?_
   ·simp only [results,hres]
    go_simp
   ·exact ⟨HD.out.1,.inl ⟨_,_,HXn.out,rfl,HD.out.2.2,HD.out.2.1⟩⟩
theorem fac_calls {b:Nat} {ta:Option Addr} {tn tc:Nat} {T:List Tk} (hT:∀ t ∈ T,simT t = true):∀ (n:Nat) (l:List Tk) (f:Int × Int) (w:World),PAt b ta tn tc T l f w -> l.length <= n -> Calls Tryz.prog 163 #[.pointer (some ⟨b,0,none⟩)] w (PPost b ta tn tc T f (facN n l) (VEx w.heap.size) w)
 | 0,l,f,w,h,hl=>by
   obtain ⟨t,r,rfl⟩:=h.here1
   simp at hl
 | n + 1,l,f,w,h,hl=>by
   obtain ⟨t,r,rfl⟩:=h.here1
   have hl':r.length <= n:=by simpa using hl
   by_cases h2:t.kind = 2
   ·rw [facN,if_pos h2]; exact fac_lit2 w h h2
   ·by_cases h3:t.kind = 3
    ·rw [facN,if_neg h2,if_pos h3]; exact fac_lit3 w h h3
    ·by_cases h5:t.kind = 5
     ·rw [facN,if_neg h2,if_neg h3,if_pos h5]; exact fac_lit5 w h h5
     ·exact fac_comp w h hl' (h.sim hT) (fac_calls hT n) h2 h3 h5
theorem exprN_calls {b:Nat} {ta:Option Addr} {tn tc:Nat} {T:List Tk} (hT:∀ t ∈ T,simT t = true) (n:Nat) (l:List Tk) (f:Int × Int) (w:World) (h:PAt b ta tn tc T l f w) (hl:l.length <= n):Calls Tryz.prog 124 #[.pointer (some ⟨b,0,none⟩)] w (PPost b ta tn tc T f (exprN n l) (VEx w.heap.size) w):=
 expr_calls n (term_calls n (fac_calls hT n)) l f w h hl
set_option maxRecDepth 20000
set_option maxHeartbeats 2000000
theorem eqL {s:ByteArray} {l:List UInt8}:(s.toList == l) = true ↔ s.data.toList = l:=by rw [ByteArray.toList_eq,beq_iff_eq]
theorem neL {s:ByteArray} {l:List UInt8}:(s.toList == l) = false ↔ s.data.toList ≠ l:=by rw [ByteArray.toList_eq,beq_eq_false_iff_ne]
theorem itemKind_calls (s:ByteArray) (w:World) :
 Calls Tryz.prog 148 #[.string s] w fun e w'=>e = .returned (I J (itemKindB s.data.toList)) /\ w' = w:=by
 unfold itemKindB
 cases h0:(s.toList == [108,101,116]) with
 | true=>
   have HE:Hid (s.data.toList = [108,101,116]):=eqL.1 h0
   rw [show s.data.toList = [108,101,116] from HE.out]
   go_enter Tryz.func148,Tryz.ntmps148
   go_wp2
   go_ret
   exact ⟨rfl,rfl⟩
 | false=>
   rw [if_neg (neL.1 h0)]
   cases h1:(s.toList == [97,108,112,104,97,98,101,116]) with
   | true=>
     have HE:Hid (s.data.toList = [97,108,112,104,97,98,101,116]):=eqL.1 h1
     rw [show s.data.toList = [97,108,112,104,97,98,101,116] from HE.out]
     go_enter Tryz.func148,Tryz.ntmps148
     go_wp2
     go_ret
     exact ⟨rfl,rfl⟩
   | false=>
     rw [if_neg (neL.1 h1)]
     cases h2:(s.toList == [109,97,116,99,104]) with
     | true=>
       have HE:Hid (s.data.toList = [109,97,116,99,104]):=eqL.1 h2
       rw [show s.data.toList = [109,97,116,99,104] from HE.out]
       go_enter Tryz.func148,Tryz.ntmps148
       go_wp2
       go_ret
       exact ⟨rfl,rfl⟩
     | false=>
       rw [if_neg (neL.1 h2)]
       cases h3:(s.toList == [109,105,115,109,97,116,99,104]) with
       | true=>
         have HE:Hid (s.data.toList = [109,105,115,109,97,116,99,104]):=eqL.1 h3
         rw [show s.data.toList = [109,105,115,109,97,116,99,104] from HE.out]
         go_enter Tryz.func148,Tryz.ntmps148
         go_wp2
         go_ret
         exact ⟨rfl,rfl⟩
       | false=>
         rw [if_neg (neL.1 h3)]
         cases h4:(s.toList == [112,97,105,114]) with
         | true=>
           have HE:Hid (s.data.toList = [112,97,105,114]):=eqL.1 h4
           rw [show s.data.toList = [112,97,105,114] from HE.out]
           go_enter Tryz.func148,Tryz.ntmps148
           go_wp2
           go_ret
           exact ⟨rfl,rfl⟩
         | false=>
           rw [if_neg (neL.1 h4)]
           cases h5:(s.toList == [103,97,112]) with
           | true=>
             have HE:Hid (s.data.toList = [103,97,112]):=eqL.1 h5
             rw [show s.data.toList = [103,97,112] from HE.out]
             go_enter Tryz.func148,Tryz.ntmps148
             go_wp2
             go_ret
             exact ⟨rfl,rfl⟩
           | false=>
             rw [if_neg (neL.1 h5)]
             cases h6:(s.toList == [109,111,100,101]) with
             | true=>
               have HE:Hid (s.data.toList = [109,111,100,101]):=eqL.1 h6
               rw [show s.data.toList = [109,111,100,101] from HE.out]
               go_enter Tryz.func148,Tryz.ntmps148
               go_wp2
               go_ret
               exact ⟨rfl,rfl⟩
             | false=>
               rw [if_neg (neL.1 h6)]
               cases h7:(s.toList == [98,97,110,100]) with
               | true=>
                 have HE:Hid (s.data.toList = [98,97,110,100]):=eqL.1 h7
                 rw [show s.data.toList = [98,97,110,100] from HE.out]
                 go_enter Tryz.func148,Tryz.ntmps148
                 go_wp2
                 go_ret
                 exact ⟨rfl,rfl⟩
               | false=>
                 rw [if_neg (neL.1 h7)]
                 cases h8:(s.toList == [99,108,105,112]) with
                 | true=>
                   have HE:Hid (s.data.toList = [99,108,105,112]):=eqL.1 h8
                   rw [show s.data.toList = [99,108,105,112] from HE.out]
                   go_enter Tryz.func148,Tryz.ntmps148
                   go_wp2
                   go_ret
                   exact ⟨rfl,rfl⟩
                 | false=>
                   rw [if_neg (neL.1 h8)]
                   cases h9:(s.toList == [108,101,97,115,116]) with
                   | true=>
                     have HE:Hid (s.data.toList = [108,101,97,115,116]):=eqL.1 h9
                     rw [show s.data.toList = [108,101,97,115,116] from HE.out]
                     go_enter Tryz.func148,Tryz.ntmps148
                     go_wp2
                     go_ret
                     exact ⟨rfl,rfl⟩
                   | false=>
                     rw [if_neg (neL.1 h9)]
                     go_enter Tryz.func148,Tryz.ntmps148
                     go_wp2
                     go_ret
                     exact ⟨rfl,rfl⟩
theorem isWay_calls (s:ByteArray) (w:World) :
 Calls Tryz.prog 129 #[.string s] w fun e w'=>e = .returned (.bool (isWayB s.data.toList)) /\ w' = w:=by
 cases h0:(s.toList == [103,108,111,98,97,108]) with
 | true=>
   have HE:Hid (isWayB s.data.toList = true):=by show isWayB s.data.toList = true; rw [eqL.1 h0]; decide
   go_enter Tryz.func129,Tryz.ntmps129
   go_wp2
   go_ret
   exact ⟨ret_bool HE.out.symm,rfl⟩
 | false=>
   cases h1:(s.toList == [102,105,116]) with
   | true=>
     have HE:Hid (isWayB s.data.toList = true):=by show isWayB s.data.toList = true; rw [eqL.1 h1]; decide
     go_enter Tryz.func129,Tryz.ntmps129
     go_wp2
     go_ret
     exact ⟨ret_bool HE.out.symm,rfl⟩
   | false=>
     cases h2:(s.toList == [108,111,99,97,108]) with
     | true=>
       have HE:Hid (isWayB s.data.toList = true):=by show isWayB s.data.toList = true; rw [eqL.1 h2]; decide
       go_enter Tryz.func129,Tryz.ntmps129
       go_wp2
       go_ret
       exact ⟨ret_bool HE.out.symm,rfl⟩
     | false=>
       cases h3:(s.toList == [101,120,116,101,110,100]) with
       | true=>
         have HE:Hid (isWayB s.data.toList = true):=by show isWayB s.data.toList = true; rw [eqL.1 h3]; decide
         go_enter Tryz.func129,Tryz.ntmps129
         go_wp2
         go_ret
         exact ⟨ret_bool HE.out.symm,rfl⟩
       | false=>
         have HE:Hid (isWayB s.data.toList = false):=by
          show isWayB s.data.toList = false
          unfold isWayB
          simp only [Bool.or_eq_false_iff,decide_eq_false_iff_not]
          exact ⟨⟨⟨neL.1 h0,neL.1 h1⟩,neL.1 h2⟩,neL.1 h3⟩
         go_enter Tryz.func129,Tryz.ntmps129
         go_wp2
         go_ret
         exact ⟨ret_bool HE.out.symm,rfl⟩
theorem way_calls {b:Nat} {ta:Option Addr} {tn tc:Nat} {T:List Tk} {f:Int × Int} (w:World) {t:Tk} {r:List Tk} (h:PAt b ta tn tc T (t :: r) f w) :
 Calls Tryz.prog 125 #[.pointer (some ⟨b,0,none⟩)] w (PPost b ta tn tc T f (wayG (t :: r)) VS w):=by
 have HP:Hid (PAt b ta tn tc T (t :: r) f w):=h
 have hfd2:=fld48_2
 have HI:Hid (∀ w,Calls Tryz.prog 129 #[.string (bs t.text)] w fun e w'=>e = .returned (.bool (isWayB t.text)) /\ w' = w):=fun w=>by
  have:=isWay_calls (bs t.text) w
  rw [bs_list] at this; exact this
 have HH:Hid (∀ w,PAt b ta tn tc T (t :: r) f w -> Calls Tryz.prog 84 #[.pointer (some ⟨b,0,none⟩)] w fun e w'=>e = .returned (.agg #[I J t.kind,I J t.num,.string (bs t.text),I J (t.pl:Int)]) /\ Below w.heap.size w w'):=fun w h=>here_calls w h
 by_cases hc:t.kind = 4 /\ isWayB t.text = true
 ·have q:(t.kind != 4) = false:=by rw [hc.1]; rfl
  rw [hc.2] at HI
  have HN:Hid (∀ w,PAt b ta tn tc T (t :: r) f w -> Calls Tryz.prog 150 #[.pointer (some ⟨b,0,none⟩)] w fun e w'=>e = .returned (.agg #[I J t.kind,I J t.num,.string (bs t.text),I J (t.pl:Int)]) /\ Kp b w w' /\ PAt b ta tn tc T r f w'):=fun w h=>nextP_calls w h (by rw [hc.1]; decide)
  have HE:Hid (wayG (t :: r) = pure' t.text r):=by show (if t.kind = 4 /\ isWayB t.text = true then pure' t.text r else wrong' (t :: r)) = _; rw [if_pos hc]
  clear hc h
  go_enter Tryz.func125,Tryz.ntmps125
  go_wp2_with fail
  refine (HH.out _ HP.out).mono ?_
  rintro e w1 ⟨rfl,hb1⟩
  have H1:Hid (∀ o,Kp b w (w1.alloc o) /\ PAt b ta tn tc T (t :: r) f (w1.alloc o)):=fun o=>⟨(Kp.of_below hb1).alloc o,(HP.out.below hb1).below ((Below.refl _ _).alloc (Nat.le_refl _) o)⟩
  clear hb1
  go_wp2_with (go_at_call 129; refine (HI.out _).mono ?_; rintro e w2 ⟨rfl,rfl⟩)
  refine (HN.out _ (H1.out _).2).mono ?_
  rintro e w2 ⟨rfl,hk2,hp2⟩
  have H2:Hid (Kp b w w2 /\ PAt b ta tn tc T r f w2):=⟨(H1.out _).1.trans hk2,hp2⟩
  clear hk2 hp2 H1 HN HH
  go_wp2
  go_ret
  rw [HE.out]
  exact ⟨H2.out.1,.inl ⟨_,_,rfl,rfl,rfl,by show PAt b ta tn tc T r (flt [] f) _; rw [flt_nil]; exact H2.out.2⟩⟩
 ·have HE:Hid (wayG (t :: r) = wrong' (t :: r)):=by show (if t.kind = 4 /\ isWayB t.text = true then pure' t.text r else wrong' (t :: r)) = _; rw [if_neg hc]
  have HW:Hid (∀ w,PAt b ta tn tc T (t :: r) f w -> Calls Tryz.prog 149 #[.pointer (some ⟨b,0,none⟩)] w fun e w'=>e = .returned (.agg #[I J 70,I J (t.pl:Int)]) /\ Kp b w w' /\ PAt b ta tn tc T (t :: r) (70,t.pl) w'):=fun w h=>wrong_calls w h
  by_cases hk:t.kind = 4
  ·have q:(t.kind != 4) = false:=by rw [hk]; rfl
   have hf:isWayB t.text = false:=by
    cases hx:isWayB t.text with
    | false=>rfl
    | true=>exact absurd ⟨hk,hx⟩ hc
   rw [hf] at HI
   clear hk hf
   clear hc h
   go_enter Tryz.func125,Tryz.ntmps125
   go_wp2_with fail
   refine (HH.out _ HP.out).mono ?_
   rintro e w1 ⟨rfl,hb1⟩
   have H1:Hid (∀ o,Kp b w (w1.alloc o) /\ PAt b ta tn tc T (t :: r) f (w1.alloc o)):=fun o=>⟨(Kp.of_below hb1).alloc o,(HP.out.below hb1).below ((Below.refl _ _).alloc (Nat.le_refl _) o)⟩
   clear hb1
   go_wp2_with (go_at_call 129; refine (HI.out _).mono ?_; rintro e w2 ⟨rfl,rfl⟩)
   refine (HW.out _ (H1.out _).2).mono ?_
   rintro e w2 ⟨rfl,hk2,hp2⟩
   have H2:Hid (Kp b w w2 /\ PAt b ta tn tc T (t :: r) (70,t.pl) w2):=⟨(H1.out _).1.trans hk2,hp2⟩
   clear hk2 hp2 H1 HW HH
   go_wp2
   refine ⟨rfl,?_⟩
   rw [HE.out]
   exact ⟨H2.out.1,.inr ⟨rfl,⟨_,rfl⟩,H2.out.2⟩⟩
  ·have q:(t.kind != 4) = true:=by simpa using hk
   clear hk
   clear hc h
   go_enter Tryz.func125,Tryz.ntmps125
   go_wp2_with fail
   refine (HH.out _ HP.out).mono ?_
   rintro e w1 ⟨rfl,hb1⟩
   have H1:Hid (∀ o,Kp b w (w1.alloc o) /\ PAt b ta tn tc T (t :: r) f (w1.alloc o)):=fun o=>⟨(Kp.of_below hb1).alloc o,(HP.out.below hb1).below ((Below.refl _ _).alloc (Nat.le_refl _) o)⟩
   clear hb1
   go_wp2_with fail
   refine (HW.out _ (H1.out _).2).mono ?_
   rintro e w2 ⟨rfl,hk2,hp2⟩
   have H2:Hid (Kp b w w2 /\ PAt b ta tn tc T (t :: r) (70,t.pl) w2):=⟨(H1.out _).1.trans hk2,hp2⟩
   clear hk2 hp2 H1 HW HH
   go_wp2
   refine ⟨rfl,?_⟩
   rw [HE.out]
   exact ⟨H2.out.1,.inr ⟨rfl,⟨_,rfl⟩,H2.out.2⟩⟩
set_option maxRecDepth 20000
set_option maxHeartbeats 2000000
theorem bind_assoc {α β γ:Type} (x:Rs α) (F:α -> List Tk -> Rs β) (G:β -> List Tk -> Rs γ):(x.bind F).bind G = x.bind fun a l=>(F a l).bind G:=by
 cases hx:x.val with
 | none=>rw [bind_none _ hx,bind_none _ hx]; rfl
 | some a=>rw [bind_pre _ hx,bind_pre _ hx,pre_bind]
theorem close_bind {α β:Type} (s:List UInt8) (x:Rs α) (F:α -> List Tk -> Rs β):closeG s (x.bind F) = x.bind fun a l=>closeG s (F a l):=bind_assoc x F _
theorem one_bind {β:Type} (ex:List Tk -> Rs Ex) (l:List Tk) (G:Fo -> List Tk -> Rs β):(oneG ex l).bind G = (ex l).bind fun a l1=>G (ofL [a]) l1:=bind_assoc _ _ _
def zeroI:Array Value:=#[I J 0,.string ⟨#[]⟩,.slice none 0 0,I J 0]
def itArr (k:Int) (s:List UInt8) (ao:Option Addr) (n c:Nat) (p:Int):Array Value:=#[I J k,.string (bs s),.slice ao n c,I J p]
/-- The parser, and a result's variable of any type. -/
structure DL (b:Nat) (ta:Option Addr) (tn tc:Nat) (T:List Tk) (w:World) (ty:TypeId) (z:Array Value) (l:List Tk) (f:Int × Int) (W:World):Prop where
 p:PAt b ta tn tc T l f W
 kp:Kp b w W
 nb:b < w.heap.size
 res:W.heap[w.heap.size]? = some (.cells z ty (0,0))
section
variable {b:Nat} {ta:Option Addr} {tn tc:Nat} {T:List Tk} {w:World} {ty:TypeId} {z:Array Value} {l:List Tk} {f:Int × Int} {W W':World}
theorem DL.start (h:PAt b ta tn tc T l f w):DL b ta tn tc T w ty z l f (w.alloc (.cells z ty)):=
 ⟨h.below ((Below.refl _ _).alloc (Nat.le_refl _) _),(Kp.refl b w).alloc _,h.lt,heap_alloc_new w _⟩
theorem DL.go (h:DL b ta tn tc T w ty z l f W) (hk:Kp b W W') {l':List Tk} {f':Int × Int} (hp:PAt b ta tn tc T l' f' W'):DL b ta tn tc T w ty z l' f' W':=
 ⟨hp,h.kp.trans hk,h.nb,by rw [hk.block _ (lt_block h.res) (by have:=h.nb; omega)]; exact h.res⟩
theorem DL.next (h:DL b ta tn tc T w ty z l f W) (hk:Below W.heap.size W W'):DL b ta tn tc T w ty z l f W':=h.go (Kp.of_below hk) (h.p.below hk)
theorem DL.size (h:DL b ta tn tc T w ty z l f W):w.heap.size < W.heap.size:=lt_block h.res
theorem DL.zeros (h:DL b ta tn tc T w 140 zeroI l f W):W.cell? ⟨w.heap.size,0,none⟩ = some (I J 0) /\ W.cell? ⟨w.heap.size,1,none⟩ = some (.string ⟨#[]⟩) /\ W.cell? ⟨w.heap.size,2,none⟩ = some (.slice none 0 0) /\ W.cell? ⟨w.heap.size,3,none⟩ = some (I J 0) /\ ∀ i,W.frozen? ⟨w.heap.size,i,none⟩ = false:=
 ⟨blk h.res rfl,blk h.res rfl,blk h.res rfl,blk h.res rfl,fun i=>blkf i h.res⟩
/-- The result's variable takes an item. -/
theorem DL.done (h:DL b ta tn tc T w 140 zeroI l f W) (u0 u1 u2 u3:Value) {W':World} (hW:W' = (((W.setCell ⟨w.heap.size,0,none⟩ u0).setCell ⟨w.heap.size,1,none⟩ u1).setCell ⟨w.heap.size,2,none⟩ u2).setCell ⟨w.heap.size,3,none⟩ u3) :
 Kp b w W' /\ PAt b ta tn tc T l f W' /\ ∀ g,g ≠ w.heap.size -> W'.heap[g]? = W.heap[g]?:=by
 have hnb:=h.nb
 have hn2:w.heap.size <= w.heap.size:=Nat.le_refl _
 have hoth:∀ g,g ≠ w.heap.size -> W'.heap[g]? = W.heap[g]?:=fun g hg=>by
  rw [hW]; exact heap_other (heap_other (heap_other (heap_other rfl hg) hg) hg) hg
 have hkp:=(((h.kp.setNew hn2 0 u0).setNew hn2 1 u1).setNew hn2 2 u2).setNew hn2 3 u3
 rw [<- hW] at hkp
 obtain ⟨kk,q1,q2,q3⟩:=h.p.block
 refine ⟨hkp,⟨⟨kk,q1,q2,by rw [hoth b (by omega)]; exact q3⟩,?_,h.p.low,h.p.last,h.p.few⟩,hoth⟩
 refine h.p.toks.keep fun x hx=>hoth x.block ?_
 have:=h.p.low x hx
 omega
end
theorem kind_calls (t:Tk) (w:World):Calls Tryz.prog 148 #[.string (bs t.text)] w fun e w'=>e = .returned (I J (itemKindB t.text)) /\ w' = w:=by
 have:=itemKind_calls (bs t.text) w
 rw [bs_list] at this; exact this
theorem begin_ok {b:Nat} {ta:Option Addr} {tn tc:Nat} {T:List Tk} {f:Int × Int} (w:World) {t:Tk} {r:List Tk} (h:PAt b ta tn tc T (t :: r) f w) (hk:t.kind = 4) (hi:itemKindB t.text ≠ 0) :
 Calls Tryz.prog 121 #[.pointer (some ⟨b,0,none⟩)] w fun e w'=>e = .returned (.agg #[I J (itemKindB t.text),.string ⟨#[]⟩,.slice none 0 0,I J (t.pl:Int)]) /\ Kp b w w' /\ PAt b ta tn tc T r f w':=by
 have hres:Tryz.f121.results = #[.cell 2 140]:=by kernel_rfl
 have HC0:Hid (DL b ta tn tc T w 140 zeroI (t :: r) f (w.alloc (.cells zeroI 140))):=DL.start h
 have HH:Hid (∀ w,PAt b ta tn tc T (t :: r) f w -> Calls Tryz.prog 84 #[.pointer (some ⟨b,0,none⟩)] w fun e w'=>e = .returned (.agg #[I J t.kind,I J t.num,.string (bs t.text),I J (t.pl:Int)]) /\ Below w.heap.size w w'):=fun w h=>here_calls w h
 have HN:Hid (∀ w,PAt b ta tn tc T (t :: r) f w -> Calls Tryz.prog 150 #[.pointer (some ⟨b,0,none⟩)] w fun e w'=>e = .returned (.agg #[I J t.kind,I J t.num,.string (bs t.text),I J (t.pl:Int)]) /\ Kp b w w' /\ PAt b ta tn tc T r f w'):=fun w h=>nextP_calls w h (by rw [hk]; decide)
 have HI:Hid (∀ w,Calls Tryz.prog 148 #[.string (bs t.text)] w fun e w'=>e = .returned (I J (itemKindB t.text)) /\ w' = w):=kind_calls t
 have q:(t.kind != 4) = false:=by rw [hk]; rfl
 have q2:(itemKindB t.text == 0) = false:=by rw [beq_eq_false_iff_ne]; exact hi
 clear hk hi h
 generalize itemKindB t.text = kd at *
 go_enter Tryz.func121,Tryz.ntmps121
 go_wp2_with fail
 refine (HH.out _ HC0.out.p).mono ?_
 rintro e w1 ⟨rfl,hb1⟩
 have H1:Hid (∀ o,DL b ta tn tc T w 140 zeroI (t :: r) f (w1.alloc o)):=fun o=>(HC0.out.next hb1).next ((Below.refl _ _).alloc (Nat.le_refl _) o)
 have hz1:w.heap.size < w1.heap.size:=(HC0.out.next hb1).size
 clear hb1 HC0
 go_wp2_with (go_at_call 148; refine (HI.out _).mono ?_; rintro e w2 ⟨rfl,rfl⟩)
 refine (HN.out _ (H1.out _).p).mono ?_
 rintro e w2 ⟨rfl,hk2,hp2⟩
 have H2:Hid (DL b ta tn tc T w 140 zeroI r f w2):=(H1.out _).go hk2 hp2
 have hnb:=(H1.out (.stringIter ⟨#[]⟩ 0)).nb
 have hg:w2.heap[w1.heap.size]? = some (.cells #[I J t.kind,I J t.num,.string (bs t.text),I J (t.pl:Int)] 166 (0,0)):=by
  rw [hk2.block w1.heap.size (by simp) (by omega)]; exact heap_alloc_new w1 _
 have g3:=blk (i:=3) hg rfl
 obtain ⟨z0,z1,z2,z3,zf⟩:=H2.out.zeros
 have HD:Hid _:=H2.out.done (I J kd) (.string ⟨#[]⟩) (.slice none 0 0) (I J (t.pl:Int)) rfl
 clear hk2 hp2 H1 HN HH HI hg H2
 go_wp2
 refine bodyPost_ret (v:=.agg #[I J kd,.string ⟨#[]⟩,.slice none 0 0,I J (t.pl:Int)]) ?_ rfl ⟨rfl,?_⟩
 ·simp only [results,hres]
  go_simp
 ·exact ⟨HD.out.1,HD.out.2.1⟩
theorem begin_no {b:Nat} {ta:Option Addr} {tn tc:Nat} {T:List Tk} {f:Int × Int} (w:World) {t:Tk} {r:List Tk} (h:PAt b ta tn tc T (t :: r) f w) (hc:¬ (t.kind = 4 /\ itemKindB t.text ≠ 0)) :
 Calls Tryz.prog 121 #[.pointer (some ⟨b,0,none⟩)] w fun e w'=>∃ v,e = .panicked [{ v:=.iface 87 v,recovered:=false }] /\ Kp b w w' /\ PAt b ta tn tc T (t :: r) (70,t.pl) w':=by
 have HC0:Hid (DL b ta tn tc T w 140 zeroI (t :: r) f (w.alloc (.cells zeroI 140))):=DL.start h
 have HH:Hid (∀ w,PAt b ta tn tc T (t :: r) f w -> Calls Tryz.prog 84 #[.pointer (some ⟨b,0,none⟩)] w fun e w'=>e = .returned (.agg #[I J t.kind,I J t.num,.string (bs t.text),I J (t.pl:Int)]) /\ Below w.heap.size w w'):=fun w h=>here_calls w h
 have HW:Hid (∀ w,PAt b ta tn tc T (t :: r) f w -> Calls Tryz.prog 149 #[.pointer (some ⟨b,0,none⟩)] w fun e w'=>e = .returned (.agg #[I J 70,I J (t.pl:Int)]) /\ Kp b w w' /\ PAt b ta tn tc T (t :: r) (70,t.pl) w'):=fun w h=>wrong_calls w h
 have HI:Hid (∀ w,Calls Tryz.prog 148 #[.string (bs t.text)] w fun e w'=>e = .returned (I J (itemKindB t.text)) /\ w' = w):=kind_calls t
 have q:(t.kind != 4) = true \/ ((t.kind != 4) = false /\ (itemKindB t.text == 0) = true):=by
  by_cases hk:t.kind = 4
  ·right
   refine ⟨by rw [hk]; rfl,?_⟩
   rw [beq_iff_eq]
   rcases Classical.em (itemKindB t.text = 0) with h0 | h0
   ·exact h0
   ·exact absurd ⟨hk,h0⟩ hc
  ·left; simpa using hk
 clear hc h
 generalize itemKindB t.text = kd at *
 rcases q with q | ⟨q,q2⟩
 all_goals
  go_enter Tryz.func121,Tryz.ntmps121
  go_wp2_with fail
  refine (HH.out _ HC0.out.p).mono ?_
  rintro e w1 ⟨rfl,hb1⟩
  have H1:Hid (∀ o,DL b ta tn tc T w 140 zeroI (t :: r) f (w1.alloc o)):=fun o=>(HC0.out.next hb1).next ((Below.refl _ _).alloc (Nat.le_refl _) o)
  clear hb1 HC0
  go_wp2_with (go_at_call 148; refine (HI.out _).mono ?_; rintro e w2 ⟨rfl,rfl⟩)
  refine (HW.out _ (H1.out _).p).mono ?_
  rintro e w2 ⟨rfl,hk2,hp2⟩
  have H2:Hid (Kp b w w2 /\ PAt b ta tn tc T (t :: r) (70,t.pl) w2):=⟨(H1.out _).kp.trans hk2,hp2⟩
  clear hk2 hp2 H1 HW HH HI
  go_wp2
  exact ⟨rfl,_,rfl,H2.out.1,H2.out.2⟩
theorem both_calls {b:Nat} {ta:Option Addr} {tn tc:Nat} {T:List Tk} (n:Nat) (ex:List Tk -> Rs Ex) (hsuf:∀ l,(ex l).rest <:+ l)
 (HX:∀ l f w,PAt b ta tn tc T l f w -> l.length <= n -> Calls Tryz.prog 124 #[.pointer (some ⟨b,0,none⟩)] w (PPost b ta tn tc T f (ex l) (VEx w.heap.size) w)) (s:ByteArray) (l:List Tk) (f:Int × Int) (w:World) (h:PAt b ta tn tc T l f w) (hl:l.length <= n) :
 Calls Tryz.prog 126 #[.pointer (some ⟨b,0,none⟩),.string s] w (PPost b ta tn tc T f (bothG ex s.data.toList l) (VFo w.heap.size) w):=by
 have HP:Hid (PAt b ta tn tc T l f w):=h
 have HQ:Hid (Eqv (bothG ex s.data.toList l) ((ex l).bind fun a l1=>(signG s.data.toList l1).bind fun _ l2=>(ex l2).bind fun b l3=>pure' (ofL [a,b]) l3) f f):=eqv_refl _ _
 generalize bothG ex s.data.toList l = X at *
 have HZ:Hid (∀ v w' l',X.val = none /\ X.rest = l' -> Kp b w w' -> PAt b ta tn tc T l' (70,plOf l') w' -> PPost b ta tn tc T f X (VFo w.heap.size) w (.panicked [{ v:=.iface 87 v,recovered:=false }]) w'):=fun v w' l' h1 h3 h4=>⟨h3,.inr ⟨h1.1,⟨v,rfl⟩,by rw [h1.2]; exact h4⟩⟩
 have hnb:=h.lt
 cases hx:(ex l).val with
 | none=>
   have HN:Hid (Calls Tryz.prog 124 #[.pointer (some ⟨b,0,none⟩)] w fun e w'=>∃ v,e = .panicked [{ v:=.iface 87 v,recovered:=false }] /\ Kp b w w' /\ PAt b ta tn tc T (ex l).rest (70,plOf (ex l).rest) w'):=calls_no (HX l f w h hl) hx
   have HE:Hid (X.val = none /\ X.rest = (ex l).rest):=eqv_none HQ.out hx
   clear hx HQ HX h
   go_enter Tryz.func126,Tryz.ntmps126
   go_wp2_with fail
   refine HN.out.mono ?_
   rintro e w1 ⟨v,rfl,hk1,hp1⟩
   exact ⟨rfl,HZ.out _ _ _ HE.out hk1 hp1⟩
 | some a=>
   have HN:Hid (Calls Tryz.prog 124 #[.pointer (some ⟨b,0,none⟩)] w fun e w'=>∃ ka kn kc,e = .returned (.agg #[I J a.1.kind,I J a.1.num,.string (bs a.1.text),.slice ka kn kc,I J a.1.pl]) /\ ExAt true (fun g=>w.heap.size <= g) w' a ka kn /\ Kp b w w' /\ PAt b ta tn tc T (ex l).rest (flt (ex l).many f) w'):=ex_ok (HX l f w h hl) hx
   have HQ1:Hid (Eqv X ((signG s.data.toList (ex l).rest).bind fun _ l2=>(ex l2).bind fun b l3=>pure' (ofL [a,b]) l3) f (flt (ex l).many f)):=eqv_some HQ.out hx
   have HL1:Hid ((ex l).rest.length <= n):=Nat.le_trans (suf_len (hsuf l)) hl
   clear hx HQ h
   generalize (ex l).rest = l1 at *
   generalize flt (ex l).many f = f1 at *
   go_enter Tryz.func126,Tryz.ntmps126
   go_wp2_with fail
   refine HN.out.mono ?_
   rintro e w1 ⟨ka,kn,kc,rfl,hE1,hk1,hp1⟩
   have H1:Hid (Kp b w (w1.alloc (.cells (exArr a.1 ka kn kc) 173)) /\ PAt b ta tn tc T l1 f1 (w1.alloc (.cells (exArr a.1 ka kn kc) 173)) /\ ExAt true (fun g=>w.heap.size <= g) (w1.alloc (.cells (exArr a.1 ka kn kc) 173)) a ka kn /\ (w1.alloc (.cells (exArr a.1 ka kn kc) 173)).heap[w1.heap.size]? = some (.cells (exArr a.1 ka kn kc) 173 (0,0))):=by
    have hbel:Below w1.heap.size w1 (w1.alloc (.cells (exArr a.1 ka kn kc) 173)):=(Below.refl _ _).alloc (Nat.le_refl _) _
    exact ⟨hk1.then_below hbel,hp1.below hbel,hE1.below hbel,heap_alloc_new w1 _⟩
   have hz1:w.heap.size <= w1.heap.size:=hk1.size
   clear hE1 hk1 hp1 HN
   cases hx:(signG s.data.toList l1).val with
   | none=>
     have HNs:Hid (Calls Tryz.prog 123 #[.pointer (some ⟨b,0,none⟩),.string s] (w1.alloc (.cells (exArr a.1 ka kn kc) 173)) fun e w'=>∃ v,e = .panicked [{ v:=.iface 87 v,recovered:=false }] /\ Kp b (w1.alloc (.cells (exArr a.1 ka kn kc) 173)) w' /\ PAt b ta tn tc T (signG s.data.toList l1).rest (70,plOf (signG s.data.toList l1).rest) w'):=calls_no (signP_calls _ s H1.out.2.1) hx
     have HE:Hid (X.val = none /\ X.rest = (signG s.data.toList l1).rest):=eqv_none HQ1.out hx
     clear hx HQ1 HX
     go_wp2_with fail
     refine HNs.out.mono ?_
     rintro e w2 ⟨v,rfl,hk2,hp2⟩
     exact ⟨rfl,HZ.out _ _ _ HE.out (H1.out.1.trans hk2) hp2⟩
   | some u=>
     have HNs:Hid (Calls Tryz.prog 123 #[.pointer (some ⟨b,0,none⟩),.string s] (w1.alloc (.cells (exArr a.1 ka kn kc) 173)) fun e w'=>e = .returned (.tuple #[]) /\ Kp b (w1.alloc (.cells (exArr a.1 ka kn kc) 173)) w' /\ PAt b ta tn tc T (signG s.data.toList l1).rest f1 w'):=sign_ok (s:=s) H1.out.2.1 hx
     have HQ2:Hid (Eqv X ((ex (signG s.data.toList l1).rest).bind fun b l3=>pure' (ofL [a,b]) l3) f f1):=by
      have:=eqv_some HQ1.out hx
      rw [sign_many,flt_nil] at this; exact this
     have HL2:Hid ((signG s.data.toList l1).rest.length <= n):=Nat.le_trans (suf_len (sign_suf _ _)) HL1.out
     clear hx HQ1
     generalize (signG s.data.toList l1).rest = l2 at *
     go_wp2_with fail
     refine HNs.out.mono ?_
     rintro e w2 ⟨rfl,hk2,hp2⟩
     have H2:Hid (Kp b w w2 /\ PAt b ta tn tc T l2 f1 w2 /\ ExAt true (fun g=>w.heap.size <= g) w2 a ka kn /\ w2.heap[w1.heap.size]? = some (.cells (exArr a.1 ka kn kc) 173 (0,0))):=
      ⟨H1.out.1.trans hk2,hp2,H1.out.2.2.1.kp hk2 (fun hb=>by omega),by rw [hk2.block w1.heap.size (by simp) (by omega)]; exact H1.out.2.2.2⟩
     clear hk2 hp2 HNs H1
     cases hx:(ex l2).val with
     | none=>
       have HN:Hid (Calls Tryz.prog 124 #[.pointer (some ⟨b,0,none⟩)] w2 fun e w'=>∃ v,e = .panicked [{ v:=.iface 87 v,recovered:=false }] /\ Kp b w2 w' /\ PAt b ta tn tc T (ex l2).rest (70,plOf (ex l2).rest) w'):=calls_no (HX l2 f1 w2 H2.out.2.1 HL2.out) hx
       have HE:Hid (X.val = none /\ X.rest = (ex l2).rest):=eqv_none HQ2.out hx
       clear hx HQ2 HX
       go_wp2_with fail
       refine HN.out.mono ?_
       rintro e w3 ⟨v,rfl,hk3,hp3⟩
       exact ⟨rfl,HZ.out _ _ _ HE.out (H2.out.1.trans hk3) hp3⟩
     | some c=>
       have HN:Hid (Calls Tryz.prog 124 #[.pointer (some ⟨b,0,none⟩)] w2 fun e w'=>∃ ka kn kc,e = .returned (.agg #[I J c.1.kind,I J c.1.num,.string (bs c.1.text),.slice ka kn kc,I J c.1.pl]) /\ ExAt true (fun g=>w2.heap.size <= g) w' c ka kn /\ Kp b w2 w' /\ PAt b ta tn tc T (ex l2).rest (flt (ex l2).many f1) w'):=ex_ok (HX l2 f1 w2 H2.out.2.1 HL2.out) hx
       have HY:Hid (Eqv X (pure' (ofL [a,c]) (ex l2).rest) f (flt (ex l2).many f1)):=eqv_some HQ2.out hx
       clear hx HQ2 HX
       generalize (ex l2).rest = l3 at *
       generalize flt (ex l2).many f1 = f3 at *
       go_wp2_with fail
       refine HN.out.mono ?_
       rintro e w3 ⟨k2,n2,c2,rfl,hE3,hk3,hp3⟩
       have H3:Hid (Kp b w w3 /\ PAt b ta tn tc T l3 f3 w3 /\ ExAt true (fun g=>w.heap.size <= g) w3 a ka kn /\ ExAt true (fun g=>w.heap.size <= g) w3 c k2 n2 /\ w3.heap[w1.heap.size]? = some (.cells (exArr a.1 ka kn kc) 173 (0,0))):=
        ⟨H2.out.1.trans hk3,hp3,H2.out.2.2.1.kp hk3 (fun hb=>by omega),hE3.base (fun g _ hg=>by have h5:w2.heap.size <= g:=hg; have:=H2.out.1.size; show w.heap.size <= g; omega),by rw [hk3.block w1.heap.size (lt_block H2.out.2.2.2) (by omega)]; exact H2.out.2.2.2⟩
       clear hE3 hk3 hp3 HN H2
       have ha:∀ o,(w3.alloc o).heap[w1.heap.size]? = some (.cells (exArr a.1 ka kn kc) 173 (0,0)):=fun o=>heap_old H3.out.2.2.2.2
       have a0:=fun o=>blk (i:=0) (ha o) rfl
       have a1:=fun o=>blk (i:=1) (ha o) rfl
       have a2:=fun o=>blk (i:=2) (ha o) rfl
       have a3:=fun o=>blk (i:=3) (ha o) rfl
       have a4:=fun o=>blk (i:=4) (ha o) rfl
       have hne:¬ w1.heap.size = w3.heap.size:=by have:=lt_block H3.out.2.2.2.2; omega
       clear ha
       have HV:Hid (∀ o,VFo w.heap.size (ofL [a,c]) (.slice (some ⟨w3.heap.size + 1,0,none⟩) 2 2) ((w3.alloc o).alloc (.cells #[I J a.1.kind,I J a.1.num,.string (bs a.1.text),.slice ka kn kc,I J a.1.pl,I J c.1.kind,I J c.1.num,.string (bs c.1.text),.slice k2 n2 c2,I J c.1.pl] 173)) /\ Kp b w ((w3.alloc o).alloc (.cells #[I J a.1.kind,I J a.1.num,.string (bs a.1.text),.slice ka kn kc,I J a.1.pl,I J c.1.kind,I J c.1.num,.string (bs c.1.text),.slice k2 n2 c2,I J c.1.pl] 173)) /\ PAt b ta tn tc T l3 f3 ((w3.alloc o).alloc (.cells #[I J a.1.kind,I J a.1.num,.string (bs a.1.text),.slice ka kn kc,I J a.1.pl,I J c.1.kind,I J c.1.num,.string (bs c.1.text),.slice k2 n2 c2,I J c.1.pl] 173))):=fun o=>by
        have hbel:Below w3.heap.size w3 (w3.alloc o):=(Below.refl _ _).alloc (Nat.le_refl _) _
        have hbel2:Below (w3.alloc o).heap.size (w3.alloc o) ((w3.alloc o).alloc (.cells #[I J a.1.kind,I J a.1.num,.string (bs a.1.text),.slice ka kn kc,I J a.1.pl,I J c.1.kind,I J c.1.num,.string (bs c.1.text),.slice k2 n2 c2,I J c.1.pl] 173)):=(Below.refl _ _).alloc (Nat.le_refl _) _
        have hsz:(w3.alloc o).heap.size = w3.heap.size + 1:=by simp
        refine ⟨⟨some ⟨(w3.alloc o).heap.size,0,none⟩,2,2,by rw [hsz],by decide,two_new ?_ (H3.out.2.2.1.below hbel) (H3.out.2.2.2.1.below hbel)⟩,(H3.out.1.then_below hbel).then_below hbel2,(H3.out.2.1.below hbel).below hbel2⟩
        have:=H3.out.1.size
        show w.heap.size <= (w3.alloc o).heap.size
        simp; omega
       clear H3
       go_wp2
       go_ret
       refine ⟨(HV.out _).2.1,.inl ⟨_,_,HY.out.1,rfl,?_,?_⟩⟩
       ·exact (HV.out _).1
       ·rw [HY.out.2.1,HY.out.2.2]
        exact (flt_nil f3).symm ▸ (HV.out _).2.2
structure ItOk (i:It):Prop where
 kind:InR i.kind
 name:i.name.length <= maxLen
 pl:InR i.pl
def VIt (B:Nat) (i:It) (v:Value) (w:World):Prop:=∃ ao n c,v = .agg #[I J i.kind,.string (bs i.name),.slice ao n c,I J i.pl] /\ n <= maxLen /\ FoAt true (fun g=>B <= g) w i.args ao n /\ ItOk i
/-- The item so far, in its variable; the result's variable; the parser. -/
structure IL (b:Nat) (ta:Option Addr) (tn tc:Nat) (T:List Tk) (w:World) (g3:Nat) (k:Int) (s:List UInt8) (ao:Option Addr) (n c:Nat) (pl:Int) (F:Fo) (l:List Tk) (f:Int × Int) (W:World):Prop where
 p:PAt b ta tn tc T l f W
 kp:Kp b w W
 nb:b < w.heap.size
 n3:w.heap.size < g3
 res:W.heap[w.heap.size]? = some (.cells zeroI 140 (0,0))
 val:W.heap[g3]? = some (.cells (itArr k s ao n c pl) 140 (0,0))
 few:n <= maxLen
 fo:FoAt true (fun g=>w.heap.size <= g /\ g ≠ w.heap.size /\ g ≠ g3) W F ao n
section
variable {b:Nat} {ta:Option Addr} {tn tc:Nat} {T:List Tk} {w:World} {g3:Nat} {k:Int} {s:List UInt8} {ao:Option Addr} {n c:Nat} {pl:Int} {F:Fo} {l:List Tk} {f:Int × Int} {W W':World}
theorem IL.go (h:IL b ta tn tc T w g3 k s ao n c pl F l f W) (hk:Kp b W W') {l':List Tk} {f':Int × Int} (hp:PAt b ta tn tc T l' f' W'):IL b ta tn tc T w g3 k s ao n c pl F l' f' W':=by
 have h1:=h.nb
 have h2:=h.n3
 exact ⟨hp,h.kp.trans hk,h1,h2,by rw [hk.block _ (lt_block h.res) (by omega)]; exact h.res,by rw [hk.block _ (lt_block h.val) (by omega)]; exact h.val,h.few,h.fo.kp hk (fun hb=>by have:=hb.1; omega)⟩
theorem IL.next (h:IL b ta tn tc T w g3 k s ao n c pl F l f W) (hk:Below W.heap.size W W'):IL b ta tn tc T w g3 k s ao n c pl F l f W':=h.go (Kp.of_below hk) (h.p.below hk)
theorem IL.alloc (h:IL b ta tn tc T w g3 k s ao n c pl F l f W) (o:Obj):IL b ta tn tc T w g3 k s ao n c pl F l f (W.alloc o):=h.next ((Below.refl _ _).alloc (Nat.le_refl _) o)
theorem IL.size (h:IL b ta tn tc T w g3 k s ao n c pl F l f W):g3 < W.heap.size:=lt_block h.val
theorem IL.cells (h:IL b ta tn tc T w g3 k s ao n c pl F l f W):W.cell? ⟨g3,0,none⟩ = some (I J k) /\ W.cell? ⟨g3,1,none⟩ = some (.string (bs s)) /\ W.cell? ⟨g3,2,none⟩ = some (.slice ao n c) /\ W.cell? ⟨g3,3,none⟩ = some (I J pl) /\ ∀ i,W.frozen? ⟨g3,i,none⟩ = false:=
 ⟨blk h.val rfl,blk h.val rfl,blk h.val rfl,blk h.val rfl,fun i=>blkf i h.val⟩
theorem IL.zeros (h:IL b ta tn tc T w g3 k s ao n c pl F l f W):W.cell? ⟨w.heap.size,0,none⟩ = some (I J 0) /\ W.cell? ⟨w.heap.size,1,none⟩ = some (.string ⟨#[]⟩) /\ W.cell? ⟨w.heap.size,2,none⟩ = some (.slice none 0 0) /\ W.cell? ⟨w.heap.size,3,none⟩ = some (I J 0) /\ ∀ i,W.frozen? ⟨w.heap.size,i,none⟩ = false:=
 ⟨blk h.res rfl,blk h.res rfl,blk h.res rfl,blk h.res rfl,fun i=>blkf i h.res⟩
theorem IL.start {w1:World} (hb:b < w.heap.size) (hK:Kp b (w.alloc (.cells zeroI 140)) w1) (hP:PAt b ta tn tc T l f w1) :
 IL b ta tn tc T w w1.heap.size k [] none 0 0 pl .nil l f (w1.alloc (.cells #[I J k,.string ⟨#[]⟩,.slice none 0 0,I J pl] 140)):=by
 have hs:w.heap.size + 1 <= w1.heap.size:=by have:=hK.size; simp at this; omega
 have hbel:Below w1.heap.size w1 (w1.alloc (.cells #[I J k,.string ⟨#[]⟩,.slice none 0 0,I J pl] 140)):=(Below.refl _ _).alloc (Nat.le_refl _) _
 have h0:w1.heap[w.heap.size]? = some (.cells zeroI 140 (0,0)):=by
  rw [hK.block w.heap.size (by simp) (by omega)]; exact heap_alloc_new w _
 exact ⟨hP.below hbel,((Kp.refl b w).alloc _).trans (hK.then_below hbel),hb,by omega,heap_old h0,heap_alloc_new w1 _,Nat.zero_le _,rfl⟩
theorem IL.toks (h:IL b ta tn tc T w g3 k s ao n c pl F l f W) {W':World} (hoth:∀ g,g ≠ g3 -> W'.heap[g]? = W.heap[g]?):PAt b ta tn tc T l f W':=by
 have h1:=h.nb
 have h2:=h.n3
 obtain ⟨kk,q1,q2,q3⟩:=h.p.block
 refine ⟨⟨kk,q1,q2,by rw [hoth b (by omega)]; exact q3⟩,h.p.toks.keep fun x hx=>hoth x.block ?_,h.p.low,h.p.last,h.p.few⟩
 have:=h.p.low x hx
 omega
theorem IL.setName (h:IL b ta tn tc T w g3 k s ao n c pl F l f W) (s':List UInt8):IL b ta tn tc T w g3 k s' ao n c pl F l f (W.setCell ⟨g3,1,none⟩ (.string (bs s'))):=by
 have h1:=h.nb
 have h2:=h.n3
 have hoth:∀ g,g ≠ g3 -> (W.setCell ⟨g3,1,none⟩ (.string (bs s'))).heap[g]? = W.heap[g]?:=fun g hg=>heap_other rfl hg
 exact ⟨h.toks hoth,h.kp.setNew (by omega) 1 _,h1,h2,by rw [hoth _ (by omega)]; exact h.res,heap_put h.val rfl,h.few,foAt_keep (fun g _ hg=>hoth g hg.2.2) h.fo⟩
theorem IL.setArgs (h:IL b ta tn tc T w g3 k s ao n c pl F l f W) {F':Fo} {ao':Option Addr} {n' c':Nat} (hn:n' <= maxLen) (hF:FoAt true (fun g=>w.heap.size <= g /\ g ≠ w.heap.size /\ g ≠ g3) W F' ao' n'):IL b ta tn tc T w g3 k s ao' n' c' pl F' l f (W.setCell ⟨g3,2,none⟩ (.slice ao' n' c')):=by
 have h1:=h.nb
 have h2:=h.n3
 have hoth:∀ g,g ≠ g3 -> (W.setCell ⟨g3,2,none⟩ (.slice ao' n' c')).heap[g]? = W.heap[g]?:=fun g hg=>heap_other rfl hg
 exact ⟨h.toks hoth,h.kp.setNew (by omega) 2 _,h1,h2,by rw [hoth _ (by omega)]; exact h.res,heap_put h.val rfl,hn,foAt_keep (fun g _ hg=>hoth g hg.2.2) hF⟩
/-- The result's variable takes the item. -/
theorem IL.done (h:IL b ta tn tc T w g3 k s ao n c pl F l f W) (hk:InR k) (hs:s.length <= maxLen) (hpl:InR pl) {W':World} (hW:W' = (((W.setCell ⟨w.heap.size,0,none⟩ (I J k)).setCell ⟨w.heap.size,1,none⟩ (.string (bs s))).setCell ⟨w.heap.size,2,none⟩ (.slice ao n c)).setCell ⟨w.heap.size,3,none⟩ (I J pl)) :
 Kp b w W' /\ PAt b ta tn tc T l f W' /\ VIt w.heap.size ⟨k,s,F,pl⟩ (.agg #[I J k,.string (bs s),.slice ao n c,I J pl]) W':=by
 have hD:DL b ta tn tc T w 140 zeroI l f W:=⟨h.p,h.kp,h.nb,h.res⟩
 obtain ⟨d1,d2,d3⟩:=hD.done _ _ _ _ hW
 exact ⟨d1,d2,ao,n,c,rfl,h.few,(foAt_keep (fun g _ hg=>d3 g hg.2.1) h.fo).base (fun g _ hg=>hg.1),hk,hs,hpl⟩
end
theorem kind_range (s:List UInt8):0 <= itemKindB s /\ itemKindB s <= 10:=by
 unfold itemKindB
 repeat' split
 all_goals omega
/-- What an item says, by what stands behind its word. -/
theorem item_eq {ex:List Tk -> Rs Ex} {t:Tk} {r:List Tk} (hk:t.kind = 4) (hi:itemKindB t.text ≠ 0):itemG ex (t :: r) = (closeG [59] (bodyG ex (itemKindB t.text) r)).map fun b=>⟨itemKindB t.text,b.1,b.2,t.pl⟩:=by
 show (if t.kind = 4 /\ itemKindB t.text ≠ 0 then _ else _) = _
 rw [if_pos ⟨hk,hi⟩]
end Go.Proofs.YtbbbnopganhebabGreat
