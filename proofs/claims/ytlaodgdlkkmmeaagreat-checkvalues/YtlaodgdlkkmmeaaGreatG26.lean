/-
  Right: heads of expressions, lists of them. Right: lists of expressions. Right: items, trees.
-/
import Derived.Test.YtlaodgdlkkmmeaaGreatG24
import Derived.Test.YtlaodgdlkkmmeaaGreatCat
namespace Go.Proofs.YtlaodgdlkkmmeaaGreat
open Go.RowKit Go.Deep
open Go.Value renaming int->I,string->Ψ,slice->Γ
open Go.IntKind renaming i64->J
open Go.Obj renaming cells->Δ
open Go.Ending renaming returned->Ω
set_option maxRecDepth 20000
set_option maxHeartbeats 4000000
def headTx (l:List Tk):List UInt8:=match l with | []=>[] | t :: _=>t.text
/-- What may stand between the marks of a text, by asking for its tokens. -/
def txB (s:List UInt8):Bool:=decide (s.length <= 40) && (decide ((scanB (34 :: s ++ [34])).2.2 = 0) && decide (headTx (scanB (34 :: s ++ [34])).1 = s))
theorem isTextP_calls (s:ByteArray) (w:World) (hs:s.size <= maxLen) :
 Calls Tryz.prog 141 #[Ψ s] w fun e w'=>e = Ω (.bool (txB s.data.toList)) /\ Below w.heap.size w w':=by
 unfold maxLen at hs
 by_cases h40:40 < s.size
 ·have HX:Hid (txB s.data.toList = false):=by show txB s.data.toList = false; unfold txB; rw [size_toList]; simp; omega
  have q:decide ((40:Int) < (s.size:Int)) = true:=by simp; omega
  go_enter Tryz.func141,Tryz.ntmps141
  go_wp2
  go_ret
  exact ⟨ret_bool HX.out.symm,Below.refl _ _⟩
 ·have q:decide ((40:Int) < (s.size:Int)) = false:=by simp; omega
  obtain ⟨c1,d1,n1,e1⟩:=cat_var ⟨#[34]⟩ s (by rw [show (⟨#[34]⟩:ByteArray).size = 1 from rfl]; omega)
  have n1':c1.size = 1 + s.size:=by rw [n1]; rfl
  obtain ⟨c2,d2,n2,e2⟩:=cat_var c1 ⟨#[34]⟩ (by rw [show (⟨#[34]⟩:ByteArray).size = 1 from rfl]; omega)
  have hc2:c2.data.toList = 34 :: s.data.toList ++ [34]:=by rw [d2,d1]; rfl
  have HS:Hid (∀ w,Calls Tryz.prog 36 #[Ψ c2] w fun e w'=>ScanPost (scanB (34 :: s.data.toList ++ [34])) w e w'):=fun w=>by
   have:=scan_calls c2 w
   rw [hc2] at this; exact this
  have HX:Hid (txB s.data.toList = (decide ((scanB (34 :: s.data.toList ++ [34])).2.2 = 0) && decide (headTx (scanB (34 :: s.data.toList ++ [34])).1 = s.data.toList))):=by
   show txB _ = _
   unfold txB
   rw [size_toList,show decide (s.size <= 40) = true by simp; omega,Bool.true_and]
  have HG:Hid ((scanB (34 :: s.data.toList ++ [34])).2.2 = 0 -> (scanB (34 :: s.data.toList ++ [34])).1 ≠ []):=fun h=>by
   obtain ⟨_,_,T,hT,_⟩:=scan_good h
   rw [hT]; simp
  have HK:Hid (∀ t ∈ (scanB (34 :: s.data.toList ++ [34])).1,TkOk t):=scan_ok _
  clear d1 d2 n1 n2 hc2
  generalize scanB (34 :: s.data.toList ++ [34]) = A at *
  obtain ⟨l,p0,z⟩:=A
  by_cases hz:z = 0
  ·subst hz
   have hne:=HG.out rfl
   have q0:((0:Int) == 0) = true:=rfl
   cases l with
   | nil=>exact absurd rfl hne
   | cons t r=>
     have HX2:Hid (txB s.data.toList = ((bs t.text).toList == s.toList)):=by
      show txB _ = _
      rw [HX.out,bs_toList,ByteArray.toList_eq,Bool.eq_iff_iff]
      simp [headTx]
      exact decide_eq_true_iff
     clear HX hne HG
     generalize hX:((bs t.text).toList == s.toList) = b at *
     go_enter Tryz.func141,Tryz.ntmps141
     go_wp2_with fail
     refine (HS.out _).mono ?_
     rintro e w1 ⟨v,rfl,ho,hb1⟩
     obtain ⟨ao,cap,rfl⟩:=owned_shape ho
     have htk:=owned_tks ho HK.out
     obtain ⟨g,off,rfl,hc⟩:=htk.cells (by simp)
     obtain ⟨x0,x1,x2,x3⟩:=hc 0 t rfl
     simp only [Nat.zero_mul,Nat.add_zero] at x0 x1 x2 x3
     have HB:Hid (Below w.heap.size w w1):=hb1
     clear ho htk hc hb1 HS HK
     simp only [List.length_cons]
     go_wp2
     go_ret
     exact ⟨ret_bool HX2.out.symm,HB.out⟩
  ·have q0:(z == 0) = false:=by rw [beq_eq_false_iff_ne]; exact hz
   have HX2:Hid (txB s.data.toList = false):=by
    show txB _ = _
    rw [HX.out]; simp [hz]
   clear HX HG hz
   go_enter Tryz.func141,Tryz.ntmps141
   go_wp2_with fail
   refine (HS.out _).mono ?_
   rintro e w1 ⟨v,rfl,ho,hb1⟩
   obtain ⟨ao,cap,rfl⟩:=owned_shape ho
   have HB:Hid (Below w.heap.size w w1):=hb1
   clear ho hb1 HS HK
   simp only
   go_wp2
   go_ret
   exact ⟨ret_bool HX2.out.symm,HB.out⟩
def hdRight (h:Hd) (n:Nat):Bool:=
 if h.kind = 1 then decide (0 <= h.num) && (decide (h.num <= 72057594037927936) && (decide (h.text = []) && decide (n = 0)))
 else if h.kind = 2 then decide (h.num = 0) && (nameB h.text && decide (n = 0))
 else if h.kind = 3 then decide (h.num = 0) && (txB h.text && decide (n = 0))
 else if h.kind = 4 then decide (h.num = 0) && (decide (h.text = []) && decide (n = 1))
 else if h.kind = 5 \/ h.kind = 6 \/ h.kind = 7 then decide (h.num = 0) && (decide (h.text = []) && decide (n = 2))
 else if h.kind = 8 \/ h.kind = 9 then decide (h.num = 0) && (decide (h.text = []) && (decide (1 <= n) && decide (n <= 8)))
 else false
theorem emptyT (l:List UInt8):((bs l).toList == []) = decide (l = []):=by
 rw [bs_toList,Bool.eq_iff_iff]; simp
theorem natB (n k:Nat):((n:Int) == (k:Int)) = decide (n = k):=by
 rw [Bool.eq_iff_iff]; simp; omega
theorem head_num (h:Hd) (ka:Option Addr) (n c:Nat) (w:World) (hk:h.kind = 1) :
 Calls Tryz.prog 121 #[.agg #[I J h.kind,I J h.num,Ψ (bs h.text),Γ ka n c,I J h.pl]] w fun e w'=>e = Ω (.bool (decide (0 <= h.num) && (decide (h.num <= 72057594037927936) && (decide (h.text = []) && decide (n = 0))))) /\ Below w.heap.size w w':=by
 have k1:(h.kind == 1) = true:=by rw [beq_iff_eq]; omega
 have HB:Hid (Below w.heap.size w (w.alloc (Δ #[I J h.kind,I J h.num,Ψ (bs h.text),Γ ka n c,I J h.pl] 102))):=(Below.refl _ _).alloc (Nat.le_refl _) _
 clear hk
 by_cases h0:0 <= h.num
 ·have a0:decide ((0:Int) <= h.num) = true:=by simpa using h0
  by_cases h1:h.num <= 72057594037927936
  ·have a1:decide (h.num <= 72057594037927936) = true:=by simpa using h1
   have b2:((bs h.text).toList == []) = decide (h.text = []):=emptyT _
   have b3:((n:Int) == 0) = decide (n = 0):=natB n 0
   have HV:Hid ((decide (0 <= h.num) && (decide (h.num <= 72057594037927936) && (decide (h.text = []) && decide (n = 0)))) = (decide (h.text = []) && decide (n = 0))):=by show _ = _; rw [a0,a1]; rfl
   rw [HV.out]
   generalize decide (h.text = []) = v2 at *
   generalize decide (n = 0) = v3 at *
   clear HV
   cases v2 <;> cases v3 <;> (
    go_enter Tryz.func121,Tryz.ntmps121
    go_wp2
    go_ret
    exact ⟨rfl,HB.out⟩)
  ·have a1:decide (h.num <= 72057594037927936) = false:=by simpa using h1
   have HV:Hid ((decide (0 <= h.num) && (decide (h.num <= 72057594037927936) && (decide (h.text = []) && decide (n = 0)))) = false):=by show _ = _; rw [a1]; simp
   rw [HV.out]
   go_enter Tryz.func121,Tryz.ntmps121
   go_wp2
   go_ret
   exact ⟨rfl,HB.out⟩
 ·have a0:decide ((0:Int) <= h.num) = false:=by simpa using h0
  have HV:Hid ((decide (0 <= h.num) && (decide (h.num <= 72057594037927936) && (decide (h.text = []) && decide (n = 0)))) = false):=by show _ = _; rw [a0]; rfl
  rw [HV.out]
  go_enter Tryz.func121,Tryz.ntmps121
  go_wp2
  go_ret
  exact ⟨rfl,HB.out⟩
theorem head_neg (h:Hd) (ka:Option Addr) (n c:Nat) (w:World) (hk:h.kind = 4) :
 Calls Tryz.prog 121 #[.agg #[I J h.kind,I J h.num,Ψ (bs h.text),Γ ka n c,I J h.pl]] w fun e w'=>e = Ω (.bool (decide (h.num = 0) && (decide (h.text = []) && decide (n = 1)))) /\ Below w.heap.size w w':=by
 have k1:(h.kind == 1) = false:=by rw [beq_eq_false_iff_ne]; omega
 have k2:(h.kind == 2) = false:=by rw [beq_eq_false_iff_ne]; omega
 have k3:(h.kind == 3) = false:=by rw [beq_eq_false_iff_ne]; omega
 have k4:(h.kind == 4) = true:=by rw [beq_iff_eq]; omega
 have HB:Hid (Below w.heap.size w (w.alloc (Δ #[I J h.kind,I J h.num,Ψ (bs h.text),Γ ka n c,I J h.pl] 102))):=(Below.refl _ _).alloc (Nat.le_refl _) _
 clear hk
 have b0:(h.num == 0) = decide (h.num = 0):=rfl
 have b1:((bs h.text).toList == []) = decide (h.text = []):=emptyT _
 have b2:((n:Int) == 1) = decide (n = 1):=natB n 1
 generalize decide (h.num = 0) = v0 at *
 generalize decide (h.text = []) = v1 at *
 generalize decide (n = 1) = v2 at *
 cases v0 <;> cases v1 <;> cases v2 <;> (
  go_enter Tryz.func121,Tryz.ntmps121
  go_wp2
  go_ret
  exact ⟨rfl,HB.out⟩)
theorem head_two5 (h:Hd) (ka:Option Addr) (n c:Nat) (w:World) (hk:h.kind = 5) :
 Calls Tryz.prog 121 #[.agg #[I J h.kind,I J h.num,Ψ (bs h.text),Γ ka n c,I J h.pl]] w fun e w'=>e = Ω (.bool (decide (h.num = 0) && (decide (h.text = []) && decide (n = 2)))) /\ Below w.heap.size w w':=by
 have k1:(h.kind == 1) = false:=by rw [beq_eq_false_iff_ne]; omega
 have k2:(h.kind == 2) = false:=by rw [beq_eq_false_iff_ne]; omega
 have k3:(h.kind == 3) = false:=by rw [beq_eq_false_iff_ne]; omega
 have k4:(h.kind == 4) = false:=by rw [beq_eq_false_iff_ne]; omega
 have k5:(h.kind == 5) = true:=by rw [beq_iff_eq]; omega
 have HB:Hid (Below w.heap.size w (w.alloc (Δ #[I J h.kind,I J h.num,Ψ (bs h.text),Γ ka n c,I J h.pl] 102))):=(Below.refl _ _).alloc (Nat.le_refl _) _
 clear hk
 have b0:(h.num == 0) = decide (h.num = 0):=rfl
 have b1:((bs h.text).toList == []) = decide (h.text = []):=emptyT _
 have b2:((n:Int) == 2) = decide (n = 2):=natB n 2
 generalize decide (h.num = 0) = v0 at *
 generalize decide (h.text = []) = v1 at *
 generalize decide (n = 2) = v2 at *
 cases v0 <;> cases v1 <;> cases v2 <;> (
  go_enter Tryz.func121,Tryz.ntmps121
  go_wp2
  go_ret
  exact ⟨rfl,HB.out⟩)
theorem head_two6 (h:Hd) (ka:Option Addr) (n c:Nat) (w:World) (hk:h.kind = 6) :
 Calls Tryz.prog 121 #[.agg #[I J h.kind,I J h.num,Ψ (bs h.text),Γ ka n c,I J h.pl]] w fun e w'=>e = Ω (.bool (decide (h.num = 0) && (decide (h.text = []) && decide (n = 2)))) /\ Below w.heap.size w w':=by
 have k1:(h.kind == 1) = false:=by rw [beq_eq_false_iff_ne]; omega
 have k2:(h.kind == 2) = false:=by rw [beq_eq_false_iff_ne]; omega
 have k3:(h.kind == 3) = false:=by rw [beq_eq_false_iff_ne]; omega
 have k4:(h.kind == 4) = false:=by rw [beq_eq_false_iff_ne]; omega
 have k5:(h.kind == 5) = false:=by rw [beq_eq_false_iff_ne]; omega
 have k6:(h.kind == 6) = true:=by rw [beq_iff_eq]; omega
 have HB:Hid (Below w.heap.size w (w.alloc (Δ #[I J h.kind,I J h.num,Ψ (bs h.text),Γ ka n c,I J h.pl] 102))):=(Below.refl _ _).alloc (Nat.le_refl _) _
 clear hk
 have b0:(h.num == 0) = decide (h.num = 0):=rfl
 have b1:((bs h.text).toList == []) = decide (h.text = []):=emptyT _
 have b2:((n:Int) == 2) = decide (n = 2):=natB n 2
 generalize decide (h.num = 0) = v0 at *
 generalize decide (h.text = []) = v1 at *
 generalize decide (n = 2) = v2 at *
 cases v0 <;> cases v1 <;> cases v2 <;> (
  go_enter Tryz.func121,Tryz.ntmps121
  go_wp2
  go_ret
  exact ⟨rfl,HB.out⟩)
theorem head_two7 (h:Hd) (ka:Option Addr) (n c:Nat) (w:World) (hk:h.kind = 7) :
 Calls Tryz.prog 121 #[.agg #[I J h.kind,I J h.num,Ψ (bs h.text),Γ ka n c,I J h.pl]] w fun e w'=>e = Ω (.bool (decide (h.num = 0) && (decide (h.text = []) && decide (n = 2)))) /\ Below w.heap.size w w':=by
 have k1:(h.kind == 1) = false:=by rw [beq_eq_false_iff_ne]; omega
 have k2:(h.kind == 2) = false:=by rw [beq_eq_false_iff_ne]; omega
 have k3:(h.kind == 3) = false:=by rw [beq_eq_false_iff_ne]; omega
 have k4:(h.kind == 4) = false:=by rw [beq_eq_false_iff_ne]; omega
 have k5:(h.kind == 5) = false:=by rw [beq_eq_false_iff_ne]; omega
 have k6:(h.kind == 6) = false:=by rw [beq_eq_false_iff_ne]; omega
 have k7:(h.kind == 7) = true:=by rw [beq_iff_eq]; omega
 have HB:Hid (Below w.heap.size w (w.alloc (Δ #[I J h.kind,I J h.num,Ψ (bs h.text),Γ ka n c,I J h.pl] 102))):=(Below.refl _ _).alloc (Nat.le_refl _) _
 clear hk
 have b0:(h.num == 0) = decide (h.num = 0):=rfl
 have b1:((bs h.text).toList == []) = decide (h.text = []):=emptyT _
 have b2:((n:Int) == 2) = decide (n = 2):=natB n 2
 generalize decide (h.num = 0) = v0 at *
 generalize decide (h.text = []) = v1 at *
 generalize decide (n = 2) = v2 at *
 cases v0 <;> cases v1 <;> cases v2 <;> (
  go_enter Tryz.func121,Tryz.ntmps121
  go_wp2
  go_ret
  exact ⟨rfl,HB.out⟩)
theorem head_many8 (h:Hd) (ka:Option Addr) (n c:Nat) (w:World) (hn:n <= maxLen) (hk:h.kind = 8) :
 Calls Tryz.prog 121 #[.agg #[I J h.kind,I J h.num,Ψ (bs h.text),Γ ka n c,I J h.pl]] w fun e w'=>e = Ω (.bool (decide (h.num = 0) && (decide (h.text = []) && (decide (1 <= n) && decide (n <= 8))))) /\ Below w.heap.size w w':=by
 unfold maxLen at hn
 have k1:(h.kind == 1) = false:=by rw [beq_eq_false_iff_ne]; omega
 have k2:(h.kind == 2) = false:=by rw [beq_eq_false_iff_ne]; omega
 have k3:(h.kind == 3) = false:=by rw [beq_eq_false_iff_ne]; omega
 have k4:(h.kind == 4) = false:=by rw [beq_eq_false_iff_ne]; omega
 have k5:(h.kind == 5) = false:=by rw [beq_eq_false_iff_ne]; omega
 have k6:(h.kind == 6) = false:=by rw [beq_eq_false_iff_ne]; omega
 have k7:(h.kind == 7) = false:=by rw [beq_eq_false_iff_ne]; omega
 have k8:(h.kind == 8) = true:=by rw [beq_iff_eq]; omega
 have HB:Hid (Below w.heap.size w (w.alloc (Δ #[I J h.kind,I J h.num,Ψ (bs h.text),Γ ka n c,I J h.pl] 102))):=(Below.refl _ _).alloc (Nat.le_refl _) _
 clear hk
 have b0:(h.num == 0) = decide (h.num = 0):=rfl
 have b1:((bs h.text).toList == []) = decide (h.text = []):=emptyT _
 have b2:decide ((1:Int) <= (n:Int)) = decide (1 <= n):=by rw [Bool.eq_iff_iff]; simp; omega
 have b3:decide ((n:Int) <= 8) = decide (n <= 8):=by rw [Bool.eq_iff_iff]; simp; omega
 generalize decide (h.num = 0) = v0 at *
 generalize decide (h.text = []) = v1 at *
 generalize decide (1 <= n) = v2 at *
 generalize decide (n <= 8) = v3 at *
 cases v0 <;> cases v1 <;> cases v2 <;> cases v3 <;> (
  go_enter Tryz.func121,Tryz.ntmps121
  go_wp2
  go_ret
  exact ⟨rfl,HB.out⟩)
theorem head_many9 (h:Hd) (ka:Option Addr) (n c:Nat) (w:World) (hn:n <= maxLen) (hk:h.kind = 9) :
 Calls Tryz.prog 121 #[.agg #[I J h.kind,I J h.num,Ψ (bs h.text),Γ ka n c,I J h.pl]] w fun e w'=>e = Ω (.bool (decide (h.num = 0) && (decide (h.text = []) && (decide (1 <= n) && decide (n <= 8))))) /\ Below w.heap.size w w':=by
 unfold maxLen at hn
 have k1:(h.kind == 1) = false:=by rw [beq_eq_false_iff_ne]; omega
 have k2:(h.kind == 2) = false:=by rw [beq_eq_false_iff_ne]; omega
 have k3:(h.kind == 3) = false:=by rw [beq_eq_false_iff_ne]; omega
 have k4:(h.kind == 4) = false:=by rw [beq_eq_false_iff_ne]; omega
 have k5:(h.kind == 5) = false:=by rw [beq_eq_false_iff_ne]; omega
 have k6:(h.kind == 6) = false:=by rw [beq_eq_false_iff_ne]; omega
 have k7:(h.kind == 7) = false:=by rw [beq_eq_false_iff_ne]; omega
 have k8:(h.kind == 8) = false:=by rw [beq_eq_false_iff_ne]; omega
 have k9:(h.kind == 9) = true:=by rw [beq_iff_eq]; omega
 have HB:Hid (Below w.heap.size w (w.alloc (Δ #[I J h.kind,I J h.num,Ψ (bs h.text),Γ ka n c,I J h.pl] 102))):=(Below.refl _ _).alloc (Nat.le_refl _) _
 clear hk
 have b0:(h.num == 0) = decide (h.num = 0):=rfl
 have b1:((bs h.text).toList == []) = decide (h.text = []):=emptyT _
 have b2:decide ((1:Int) <= (n:Int)) = decide (1 <= n):=by rw [Bool.eq_iff_iff]; simp; omega
 have b3:decide ((n:Int) <= 8) = decide (n <= 8):=by rw [Bool.eq_iff_iff]; simp; omega
 generalize decide (h.num = 0) = v0 at *
 generalize decide (h.text = []) = v1 at *
 generalize decide (1 <= n) = v2 at *
 generalize decide (n <= 8) = v3 at *
 cases v0 <;> cases v1 <;> cases v2 <;> cases v3 <;> (
  go_enter Tryz.func121,Tryz.ntmps121
  go_wp2
  go_ret
  exact ⟨rfl,HB.out⟩)
theorem head_name (h:Hd) (ka:Option Addr) (n c:Nat) (w:World) (hk:h.kind = 2) :
 Calls Tryz.prog 121 #[.agg #[I J h.kind,I J h.num,Ψ (bs h.text),Γ ka n c,I J h.pl]] w fun e w'=>e = Ω (.bool (decide (h.num = 0) && (nameB h.text && decide (n = 0)))) /\ Below w.heap.size w w':=by
 have HC:Hid (∀ w,Calls Tryz.prog 85 #[Ψ (bs h.text)] w fun e w'=>e = Ω (.bool (nameB h.text)) /\ Below w.heap.size w w'):=fun w=>by
  have:=isName_calls (bs h.text) w
  rw [bs_list] at this; exact this
 have k1:(h.kind == 1) = false:=by rw [beq_eq_false_iff_ne]; omega
 have k2:(h.kind == 2) = true:=by rw [beq_iff_eq]; omega
 clear hk
 have b0:(h.num == 0) = decide (h.num = 0):=rfl
 have b3:((n:Int) == 0) = decide (n = 0):=natB n 0
 generalize decide (h.num = 0) = v0 at *
 generalize decide (n = 0) = v3 at *
 generalize nameB h.text = v1 at *
 have hbx:Below w.heap.size w (w.alloc (Δ #[I J h.kind,I J h.num,Ψ (bs h.text),Γ ka n c,I J h.pl] 102)):=(Below.refl _ _).alloc (Nat.le_refl _) _
 have hnw:=heap_alloc_new w (Δ #[I J h.kind,I J h.num,Ψ (bs h.text),Γ ka n c,I J h.pl] 102)
 have HB:Hid (Below w.heap.size w (w.alloc (Δ #[I J h.kind,I J h.num,Ψ (bs h.text),Γ ka n c,I J h.pl] 102)) /\ (w.alloc (Δ #[I J h.kind,I J h.num,Ψ (bs h.text),Γ ka n c,I J h.pl] 102)).heap[w.heap.size]? = some (Δ #[I J h.kind,I J h.num,Ψ (bs h.text),Γ ka n c,I J h.pl] 102 (0,0))):=⟨hbx,hnw⟩
 clear hbx hnw
 cases v0 with
 | false=>
   go_enter Tryz.func121,Tryz.ntmps121
   go_wp2
   go_ret
   exact ⟨rfl,HB.out.1⟩
 | true=>
   cases v1 <;> cases v3 <;> (
    go_enter Tryz.func121,Tryz.ntmps121
    go_wp2_with fail
    refine (HC.out _).mono ?_
    rintro e w2 ⟨rfl,hb2⟩
    have hk3:w2.heap[w.heap.size]? = some (Δ #[I J h.kind,I J h.num,Ψ (bs h.text),Γ ka n c,I J h.pl] 102 (0,0)):=by rw [hb2.block _ (lt_block HB.out.2)]; exact HB.out.2
    have c3:=blk (i:=3) hk3 rfl
    have HB2:Hid (Below w.heap.size w w2):=HB.out.1.trans (hb2.mono HB.out.1.size)
    clear hk3 hb2 HC HB
    go_wp2
    go_ret
    exact ⟨rfl,HB2.out⟩)
theorem head_text (h:Hd) (ka:Option Addr) (n c:Nat) (w:World) (ht:h.text.length <= maxLen) (hk:h.kind = 3) :
 Calls Tryz.prog 121 #[.agg #[I J h.kind,I J h.num,Ψ (bs h.text),Γ ka n c,I J h.pl]] w fun e w'=>e = Ω (.bool (decide (h.num = 0) && (txB h.text && decide (n = 0)))) /\ Below w.heap.size w w':=by
 have HC:Hid (∀ w,Calls Tryz.prog 141 #[Ψ (bs h.text)] w fun e w'=>e = Ω (.bool (txB h.text)) /\ Below w.heap.size w w'):=fun w=>by
  have:=isTextP_calls (bs h.text) w (by rw [bs_size]; exact ht)
  rw [bs_list] at this; exact this
 have k1:(h.kind == 1) = false:=by rw [beq_eq_false_iff_ne]; omega
 have k2:(h.kind == 2) = false:=by rw [beq_eq_false_iff_ne]; omega
 have k3:(h.kind == 3) = true:=by rw [beq_iff_eq]; omega
 clear hk
 have b0:(h.num == 0) = decide (h.num = 0):=rfl
 have b3:((n:Int) == 0) = decide (n = 0):=natB n 0
 generalize decide (h.num = 0) = v0 at *
 generalize decide (n = 0) = v3 at *
 generalize txB h.text = v1 at *
 have hbx:Below w.heap.size w (w.alloc (Δ #[I J h.kind,I J h.num,Ψ (bs h.text),Γ ka n c,I J h.pl] 102)):=(Below.refl _ _).alloc (Nat.le_refl _) _
 have hnw:=heap_alloc_new w (Δ #[I J h.kind,I J h.num,Ψ (bs h.text),Γ ka n c,I J h.pl] 102)
 have HB:Hid (Below w.heap.size w (w.alloc (Δ #[I J h.kind,I J h.num,Ψ (bs h.text),Γ ka n c,I J h.pl] 102)) /\ (w.alloc (Δ #[I J h.kind,I J h.num,Ψ (bs h.text),Γ ka n c,I J h.pl] 102)).heap[w.heap.size]? = some (Δ #[I J h.kind,I J h.num,Ψ (bs h.text),Γ ka n c,I J h.pl] 102 (0,0))):=⟨hbx,hnw⟩
 clear hbx hnw
 cases v0 with
 | false=>
   go_enter Tryz.func121,Tryz.ntmps121
   go_wp2
   go_ret
   exact ⟨rfl,HB.out.1⟩
 | true=>
   cases v1 <;> cases v3 <;> (
    go_enter Tryz.func121,Tryz.ntmps121
    go_wp2_with fail
    refine (HC.out _).mono ?_
    rintro e w2 ⟨rfl,hb2⟩
    have hk3:w2.heap[w.heap.size]? = some (Δ #[I J h.kind,I J h.num,Ψ (bs h.text),Γ ka n c,I J h.pl] 102 (0,0)):=by rw [hb2.block _ (lt_block HB.out.2)]; exact HB.out.2
    have c3:=blk (i:=3) hk3 rfl
    have HB2:Hid (Below w.heap.size w w2):=HB.out.1.trans (hb2.mono HB.out.1.size)
    clear hk3 hb2 HC HB
    go_wp2
    go_ret
    exact ⟨rfl,HB2.out⟩)
theorem head_none (h:Hd) (ka:Option Addr) (n c:Nat) (w:World) (hk:¬ (1 <= h.kind /\ h.kind <= 9)) :
 Calls Tryz.prog 121 #[.agg #[I J h.kind,I J h.num,Ψ (bs h.text),Γ ka n c,I J h.pl]] w fun e w'=>e = Ω (.bool false) /\ Below w.heap.size w w':=by
 have k1:(h.kind == 1) = false:=by rw [beq_eq_false_iff_ne]; omega
 have k2:(h.kind == 2) = false:=by rw [beq_eq_false_iff_ne]; omega
 have k3:(h.kind == 3) = false:=by rw [beq_eq_false_iff_ne]; omega
 have k4:(h.kind == 4) = false:=by rw [beq_eq_false_iff_ne]; omega
 have k5:(h.kind == 5) = false:=by rw [beq_eq_false_iff_ne]; omega
 have k6:(h.kind == 6) = false:=by rw [beq_eq_false_iff_ne]; omega
 have k7:(h.kind == 7) = false:=by rw [beq_eq_false_iff_ne]; omega
 have k8:(h.kind == 8) = false:=by rw [beq_eq_false_iff_ne]; omega
 have k9:(h.kind == 9) = false:=by rw [beq_eq_false_iff_ne]; omega
 have HB:Hid (Below w.heap.size w (w.alloc (Δ #[I J h.kind,I J h.num,Ψ (bs h.text),Γ ka n c,I J h.pl] 102))):=(Below.refl _ _).alloc (Nat.le_refl _) _
 clear hk
 go_enter Tryz.func121,Tryz.ntmps121
 go_wp2
 go_ret
 exact ⟨rfl,HB.out⟩
theorem head_calls (h:Hd) (ka:Option Addr) (n c:Nat) (w:World) (hn:n <= maxLen) (ht:h.text.length <= maxLen) :
 Calls Tryz.prog 121 #[.agg #[I J h.kind,I J h.num,Ψ (bs h.text),Γ ka n c,I J h.pl]] w fun e w'=>e = Ω (.bool (hdRight h n)) /\ Below w.heap.size w w':=by
 unfold hdRight
 by_cases h1:h.kind = 1
 ·rw [if_pos h1]; exact head_num h ka n c w h1
 ·rw [if_neg h1]
  by_cases h2:h.kind = 2
  ·rw [if_pos h2]; exact head_name h ka n c w h2
  ·rw [if_neg h2]
   by_cases h3:h.kind = 3
   ·rw [if_pos h3]; exact head_text h ka n c w ht h3
   ·rw [if_neg h3]
    by_cases h4:h.kind = 4
    ·rw [if_pos h4]; exact head_neg h ka n c w h4
    ·rw [if_neg h4]
     by_cases h5:h.kind = 5 \/ h.kind = 6 \/ h.kind = 7
     ·rw [if_pos h5]
      rcases h5 with h5 | h5 | h5
      ·exact head_two5 h ka n c w h5
      ·exact head_two6 h ka n c w h5
      ·exact head_two7 h ka n c w h5
     ·rw [if_neg h5]
      by_cases h8:h.kind = 8 \/ h.kind = 9
      ·rw [if_pos h8]
       rcases h8 with h8 | h8
       ·exact head_many8 h ka n c w hn h8
       ·exact head_many9 h ka n c w hn h8
      ·rw [if_neg h8]
       exact head_none h ka n c w (by omega)
set_option maxRecDepth 20000
set_option maxHeartbeats 4000000
/-- All of a list are right, none deeper than that. -/
def rgtF:Nat -> Fo -> Bool
 | _,.nil=>true
 | d,.node _ _ h k r=>decide (d ≠ 0) && (hdRight h (lenF k) && (rgtF (d - 1) k && rgtF d r))
theorem rightAll_calls:∀ (N:Nat) (F:Fo) (ao:Option Addr) (n c:Nat) (d:Nat) (w:World) (o:Bool) (S:Nat -> Prop),FoAt o S w F ao n -> n <= maxLen -> d <= 32 -> szF F < N ->
 Calls Tryz.prog 86 #[Γ ao n c,I J (d:Int)] w fun e' w'=>e' = Ω (.bool (rgtF d F)) /\ Below w.heap.size w w'
 | 0,_,_,_,_,_,_,_,_,_,_,_,h=>by omega
 | N + 1,F,ao,n,c,d,w,o,S,hF,hn,hd,hN=>by
   have IH:Hid (∀ (F:Fo) (ao:Option Addr) (n c:Nat) (d:Nat) (w:World),FoAt o S w F ao n -> n <= maxLen -> d <= 32 -> szF F < N ->
    Calls Tryz.prog 86 #[Γ ao n c,I J (d:Int)] w fun e' w'=>e' = Ω (.bool (rgtF d F)) /\ Below w.heap.size w w'):=fun F ao n c d w h1 h2 h3 h4=>rightAll_calls N F ao n c d w o S h1 h2 h3 h4
   have hn2:=hn
   unfold maxLen at hn2
   obtain ⟨g,off,hka,hF'⟩:=foAt_addr hF
   generalize hD:rgtF d F = D at *
   have H0:Hid (FoAt o S w F (some ⟨g,off + 0 * 5,none⟩) (n - 0) /\ szF F <= N /\ rgtF d F = D):=⟨hF',by omega,hD⟩
   clear hF hF' hD hN
   go_enter Tryz.func86,Tryz.ntmps86
   go_wp2_with fail
   go_loopg [9] n (fun k iv wr=>∃ (F':Fo) (i:Nat),iv = I J (i:Int) /\ i + k = n /\ Hid (FoAt o S wr F' (some ⟨g,off + i * 5,none⟩) (n - i) /\ szF F' <= N /\ rgtF d F' = D /\ Below w.heap.size w wr))
   case atStart=>exact ⟨F,0,rfl,by omega,H0.out.1,H0.out.2.1,H0.out.2.2,Below.refl _ _⟩
   case round=>
    clear H0
    obtain ⟨F',i,rfl,hik,HT⟩:=hrel
    by_cases hi:i < n
    ·obtain ⟨b1,o1,h1,k1,r1,ka1,kc1,kk1,rfl,-,hok1,hkc1,⟨c0,c1,c2,c3,c4⟩,hk1,hr1⟩:=foAt_head HT.out.1 hi
     have hka2:=hka (by omega)
     subst hka2
     have hbx:∀ o',Below wr.heap.size wr (wr.alloc o'):=fun o'=>(Below.refl _ _).alloc (Nat.le_refl _) o'
     have HR:Hid (FoAt o S wr r1 (some ⟨g,off + (i + 1) * 5,none⟩) (n - (i + 1)) /\ szF k1 < N /\ szF r1 <= N /\ (decide (d ≠ 0) && (hdRight h1 (lenF k1) && (rgtF (d - 1) k1 && rgtF d r1))) = D /\ Below w.heap.size w wr):=by
      obtain ⟨_,h3,h4,h5⟩:=HT.out
      simp only [szF] at h3
      exact ⟨hr1,by omega,by omega,h4,h5⟩
     have HHd:Hid (∀ W,Calls Tryz.prog 121 #[.agg #[I J h1.kind,I J h1.num,Ψ (bs h1.text),Γ ka1 kc1 kk1,I J h1.pl]] W fun e w'=>e = Ω (.bool (hdRight h1 (lenF k1))) /\ Below W.heap.size W w'):=fun W=>by
      have:=head_calls h1 ka1 kc1 kk1 W hkc1 hok1.text
      rw [foAt_len hk1] at this ⊢; exact this
     have HKd:Hid (0 < d -> ∀ W,Below wr.heap.size wr W -> Calls Tryz.prog 86 #[Γ ka1 kc1 kk1,I J ((d:Int) - 1)] W fun e' w'=>e' = Ω (.bool (rgtF (d - 1) k1)) /\ Below W.heap.size W w'):=fun h0 W hW=>by
      have:=IH.out k1 ka1 kc1 kk1 (d - 1) W (hk1.below hW) hkc1 (by omega) HR.out.2.1
      rw [show ((d - 1:Nat):Int) = (d:Int) - 1 by omega] at this
      exact this
     have HBw:Hid (∀ o',Below w.heap.size w (wr.alloc o')):=fun o'=>HR.out.2.2.2.2.trans ((hbx o').mono HR.out.2.2.2.2.size)
     have HNw:Hid ((wr.alloc (Δ #[I J h1.kind,I J h1.num,Ψ (bs h1.text),Γ ka1 kc1 kk1,I J h1.pl] 102)).heap[wr.heap.size]? = some (Δ #[I J h1.kind,I J h1.num,Ψ (bs h1.text),Γ ka1 kc1 kk1,I J h1.pl] 102 (0,0))):=heap_alloc_new wr _
     have HBx:=hid hbx
     clear HT hk1 hr1 hok1 hkc1 IH hbx
     by_cases hd0:d = 0
     ·have q:((d:Int) == 0) = true:=by rw [beq_iff_eq]; omega
      have HX:Hid (D = false):=by show D = false; rw [<- HR.out.2.2.2.1]; simp [hd0]
      clear HR HHd HKd hd0
      go_wp2
      go_ret
      exact ⟨ret_bool HX.out.symm,HBw.out _⟩
     ·have q:((d:Int) == 0) = false:=by rw [beq_eq_false_iff_ne]; omega
      have HK2:=HKd.out (by omega)
      have HK3:=hid HK2
      have HR':Hid (FoAt o S wr r1 (some ⟨g,off + (i + 1) * 5,none⟩) (n - (i + 1)) /\ szF r1 <= N /\ (hdRight h1 (lenF k1) && (rgtF (d - 1) k1 && rgtF d r1)) = D /\ Below w.heap.size w wr):=by
       obtain ⟨a1,_,a3,a4,a5⟩:=HR.out
       rw [show decide (d ≠ 0) = true by simp [hd0],Bool.true_and] at a4
       exact ⟨a1,a3,a4,a5⟩
      clear HR HKd HK2
      cases hh:hdRight h1 (lenF k1) with
      | false=>
        rw [hh] at HHd HR'
        go_wp2_with fail
        refine (HHd.out _).mono ?_
        rintro e' w3 ⟨rfl,hb3⟩
        have HX:Hid (D = false /\ Below w.heap.size w w3):=⟨by rw [<- HR'.out.2.2.1]; simp,(HBw.out _).trans (hb3.mono (HBw.out _).size)⟩
        clear hb3 HR' HHd HBw HK3
        go_wp2
        go_ret
        exact ⟨ret_bool HX.out.1.symm,HX.out.2⟩
      | true=>
        rw [hh] at HHd HR'
        cases hk:rgtF (d - 1) k1 with
        | false=>
          rw [hk] at HK3 HR'
          go_wp2_with fail
          refine (HHd.out _).mono ?_
          rintro e' w3 ⟨rfl,hb3⟩
          have h35:w3.heap[wr.heap.size]? = some (Δ #[I J h1.kind,I J h1.num,Ψ (bs h1.text),Γ ka1 kc1 kk1,I J h1.pl] 102 (0,0)):=by rw [hb3.block _ (lt_block HNw.out)]; exact HNw.out
          have e3:=blk (i:=3) h35 rfl
          have HB3:Hid (Below wr.heap.size wr w3 /\ Below w.heap.size w w3):=⟨below_box' hb3,(HBw.out _).trans (hb3.mono (HBw.out _).size)⟩
          clear hb3 h35 HHd HNw
          go_wp2_with fail
          refine (HK3.out _ HB3.out.1).mono ?_
          rintro e' w4 ⟨rfl,hb4⟩
          have HX:Hid (D = false /\ Below w.heap.size w w4):=⟨by rw [<- HR'.out.2.2.1]; simp,HB3.out.2.trans (hb4.mono HB3.out.2.size)⟩
          clear hb4 HR' HBw HK3
          go_wp2
          go_ret
          exact ⟨ret_bool HX.out.1.symm,HX.out.2⟩
        | true=>
          rw [hk] at HK3 HR'
          go_wp2_with fail
          refine (HHd.out _).mono ?_
          rintro e' w3 ⟨rfl,hb3⟩
          have h35:w3.heap[wr.heap.size]? = some (Δ #[I J h1.kind,I J h1.num,Ψ (bs h1.text),Γ ka1 kc1 kk1,I J h1.pl] 102 (0,0)):=by rw [hb3.block _ (lt_block HNw.out)]; exact HNw.out
          have e3:=blk (i:=3) h35 rfl
          have HB3:Hid (Below wr.heap.size wr w3 /\ Below w.heap.size w w3):=⟨below_box' hb3,(HBw.out _).trans (hb3.mono (HBw.out _).size)⟩
          clear hb3 h35 HHd HNw
          go_wp2_with fail
          refine (HK3.out _ HB3.out.1).mono ?_
          rintro e' w4 ⟨rfl,hb4⟩
          have HX:Hid (FoAt o S w4 r1 (some ⟨g,off + (i + 1) * 5,none⟩) (n - (i + 1)) /\ szF r1 <= N /\ rgtF d r1 = D /\ Below w.heap.size w w4):=by
           obtain ⟨a1,a2,a3,a4⟩:=HR'.out
           have hb5:=HB3.out.1.trans (hb4.mono HB3.out.1.size)
           exact ⟨a1.below hb5,a2,by simpa using a3,a4.trans (hb5.mono a4.size)⟩
          clear hb4 HR' HBw HK3 HB3
          go_wp2_with fail
          go_roundg (gk - 1)
          case measure=>omega
          case rel=>exact ⟨r1,i + 1,by go_num,by omega,HX.out⟩
    ·have HX:Hid (D = true /\ Below w.heap.size w wr):=by
      obtain ⟨a1,_,a4,a5⟩:=HT.out
      rw [show n - i = 0 by omega] at a1
      rw [foAt_end a1] at a4
      exact ⟨a4.symm,a5⟩
     clear HT
     go_wp2
     go_ret
     exact ⟨ret_bool HX.out.1.symm,HX.out.2⟩
set_option maxRecDepth 20000
set_option maxHeartbeats 4000000
def itRight (i:It):Bool:=
 if i.kind = 1 then nameB i.name && (decide (lenF i.args = 1) && rgtF 32 i.args)
 else if i.kind = 7 then isWayB i.name && decide (lenF i.args = 0)
 else if i.kind = 2 \/ i.kind = 3 \/ i.kind = 4 \/ i.kind = 10 then decide (i.name = []) && (decide (lenF i.args = 1) && rgtF 32 i.args)
 else if i.kind = 5 \/ i.kind = 6 \/ i.kind = 8 \/ i.kind = 9 then decide (i.name = []) && (decide (lenF i.args = 2) && rgtF 32 i.args)
 else false
def treeRight (L:List It):Bool:=decide (L.length <= 100) && L.all itRight
theorem it_1 {o:Bool} {S:Nat -> Prop} (i:It) (ka:Option Addr) (n c:Nat) (w:World) (hF:FoAt o S w i.args ka n) (hn:n <= maxLen) (hk:i.kind = 1) :
 Calls Tryz.prog 47 #[.agg #[I J i.kind,Ψ (bs i.name),Γ ka n c,I J i.pl]] w fun e w'=>e = Ω (.bool (nameB i.name && (decide (lenF i.args = 1) && rgtF 32 i.args))) /\ Below w.heap.size w w':=by
 have HN:Hid (∀ w,Calls Tryz.prog 85 #[Ψ (bs i.name)] w fun e w'=>e = Ω (.bool (nameB i.name)) /\ Below w.heap.size w w'):=fun w=>by
  have:=isName_calls (bs i.name) w
  rw [bs_list] at this; exact this
 have hlen:=foAt_len hF
 have HA:Hid (∀ W,Below w.heap.size w W -> Calls Tryz.prog 86 #[Γ ka n c,I J 32] W fun e w'=>e = Ω (.bool (rgtF 32 i.args)) /\ Below W.heap.size W w'):=fun W hW=>rightAll_calls _ i.args ka n c 32 W o S (hF.below hW) hn (Nat.le_refl _) (Nat.lt_succ_self _)
 have hbx:Below w.heap.size w (w.alloc (Δ #[I J i.kind,Ψ (bs i.name),Γ ka n c,I J i.pl] 67)):=(Below.refl _ _).alloc (Nat.le_refl _) _
 have hnw:=heap_alloc_new w (Δ #[I J i.kind,Ψ (bs i.name),Γ ka n c,I J i.pl] 67)
 have HB:Hid (Below w.heap.size w (w.alloc (Δ #[I J i.kind,Ψ (bs i.name),Γ ka n c,I J i.pl] 67)) /\ ((w.alloc (Δ #[I J i.kind,Ψ (bs i.name),Γ ka n c,I J i.pl] 67))).heap[w.heap.size]? = some (Δ #[I J i.kind,Ψ (bs i.name),Γ ka n c,I J i.pl] 67 (0,0))):=⟨hbx,hnw⟩
 have k1:(i.kind == 1) = true:=by rw [beq_iff_eq]; omega
 clear hk hbx hnw hF hn
 rw [<- hlen]
 clear hlen
 have b1:((n:Int) == 1) = decide (n = 1):=natB n 1
 generalize nameB i.name = v0 at *
 generalize decide (n = 1) = v1 at *
 generalize rgtF 32 i.args = v2 at *
 cases v0 <;> cases v1 <;> (try cases v2) <;> (
  go_enter Tryz.func47,Tryz.ntmps47
  go_wp2_with fail
  refine (HN.out _).mono ?_
  rintro e w2 ⟨rfl,hb2⟩
  have hk3:w2.heap[w.heap.size]? = some (Δ #[I J i.kind,Ψ (bs i.name),Γ ka n c,I J i.pl] 67 (0,0)):=by rw [hb2.block _ (lt_block HB.out.2)]; exact HB.out.2
  have c2:=blk (i:=2) hk3 rfl
  have HB2:Hid (Below w.heap.size w w2):=HB.out.1.trans (hb2.mono HB.out.1.size)
  clear hk3 hb2 HN HB
  first
   | (go_wp2
      go_ret
      exact ⟨rfl,HB2.out⟩)
   | (go_wp2_with fail
      refine (HA.out _ HB2.out).mono ?_
      rintro e w3 ⟨rfl,hb3⟩
      have HB3:Hid (Below w.heap.size w w3):=HB2.out.trans (hb3.mono HB2.out.size)
      clear hb3 HA HB2
      go_wp2
      go_ret
      exact ⟨rfl,HB3.out⟩))
theorem it_7 (i:It) (ka:Option Addr) (n c:Nat) (w:World) (hlen:n = lenF i.args) (hk:i.kind = 7) :
 Calls Tryz.prog 47 #[.agg #[I J i.kind,Ψ (bs i.name),Γ ka n c,I J i.pl]] w fun e w'=>e = Ω (.bool (isWayB i.name && decide (lenF i.args = 0))) /\ Below w.heap.size w w':=by
 have HN:Hid (∀ w,Calls Tryz.prog 87 #[Ψ (bs i.name)] w fun e w'=>e = Ω (.bool (isWayB i.name)) /\ w' = w):=fun w=>by
  have:=isWay_calls (bs i.name) w
  rw [bs_list] at this; exact this
 have HB:Hid (Below w.heap.size w (w.alloc (Δ #[I J i.kind,Ψ (bs i.name),Γ ka n c,I J i.pl] 67))):=(Below.refl _ _).alloc (Nat.le_refl _) _
 have k1:(i.kind == 1) = false:=by rw [beq_eq_false_iff_ne]; omega
 have k7:(i.kind == 7) = true:=by rw [beq_iff_eq]; omega
 clear hk
 rw [<- hlen]
 clear hlen
 have b1:((n:Int) == 0) = decide (n = 0):=natB n 0
 generalize isWayB i.name = v0 at *
 generalize decide (n = 0) = v1 at *
 cases v0 <;> cases v1 <;> (
  go_enter Tryz.func47,Tryz.ntmps47
  go_wp2_with (go_at_call 87; refine (HN.out _).mono ?_; rintro e w2 ⟨rfl,rfl⟩)
  go_ret
  exact ⟨rfl,HB.out⟩)
theorem it_2 {o:Bool} {S:Nat -> Prop} (i:It) (ka:Option Addr) (n c:Nat) (w:World) (hF:FoAt o S w i.args ka n) (hn:n <= maxLen) (hk:i.kind = 2) :
 Calls Tryz.prog 47 #[.agg #[I J i.kind,Ψ (bs i.name),Γ ka n c,I J i.pl]] w fun e w'=>e = Ω (.bool (decide (i.name = []) && (decide (lenF i.args = 1) && rgtF 32 i.args))) /\ Below w.heap.size w w':=by
 have hlen:=foAt_len hF
 have HA:Hid (∀ W,Below w.heap.size w W -> Calls Tryz.prog 86 #[Γ ka n c,I J 32] W fun e w'=>e = Ω (.bool (rgtF 32 i.args)) /\ Below W.heap.size W w'):=fun W hW=>rightAll_calls _ i.args ka n c 32 W o S (hF.below hW) hn (Nat.le_refl _) (Nat.lt_succ_self _)
 have hbx:Below w.heap.size w (w.alloc (Δ #[I J i.kind,Ψ (bs i.name),Γ ka n c,I J i.pl] 67)):=(Below.refl _ _).alloc (Nat.le_refl _) _
 have hnw:=heap_alloc_new w (Δ #[I J i.kind,Ψ (bs i.name),Γ ka n c,I J i.pl] 67)
 have HB:Hid (Below w.heap.size w (w.alloc (Δ #[I J i.kind,Ψ (bs i.name),Γ ka n c,I J i.pl] 67)) /\ ((w.alloc (Δ #[I J i.kind,Ψ (bs i.name),Γ ka n c,I J i.pl] 67))).heap[w.heap.size]? = some (Δ #[I J i.kind,Ψ (bs i.name),Γ ka n c,I J i.pl] 67 (0,0))):=⟨hbx,hnw⟩
 have k1:(i.kind == 1) = false:=by rw [beq_eq_false_iff_ne]; omega
 have k7:(i.kind == 7) = false:=by rw [beq_eq_false_iff_ne]; omega
 have k2:(i.kind == 2) = true:=by rw [beq_iff_eq]; omega
 clear hk hbx hnw hF hn
 rw [<- hlen]
 clear hlen
 have b0:((bs i.name).toList == []) = decide (i.name = []):=emptyT _
 have b1:((n:Int) == 1) = decide (n = 1):=natB n 1
 generalize decide (i.name = []) = v0 at *
 generalize decide (n = 1) = v1 at *
 cases v0 with
 | false=>
   go_enter Tryz.func47,Tryz.ntmps47
   go_wp2
   go_ret
   exact ⟨rfl,HB.out.1⟩
 | true=>
   cases v1 with
   | false=>
     go_enter Tryz.func47,Tryz.ntmps47
     go_wp2
     go_ret
     exact ⟨rfl,HB.out.1⟩
   | true=>
     have HA2:Hid (Calls Tryz.prog 86 #[Γ ka n c,I J 32] (w.alloc (Δ #[I J i.kind,Ψ (bs i.name),Γ ka n c,I J i.pl] 67)) fun e w'=>e = Ω (.bool (rgtF 32 i.args)) /\ Below ((w.alloc (Δ #[I J i.kind,Ψ (bs i.name),Γ ka n c,I J i.pl] 67))).heap.size (w.alloc (Δ #[I J i.kind,Ψ (bs i.name),Γ ka n c,I J i.pl] 67)) w'):=HA.out _ HB.out.1
     clear HA
     generalize rgtF 32 i.args = v2 at *
     cases v2 <;> (
      go_enter Tryz.func47,Tryz.ntmps47
      go_wp2_with fail
      refine HA2.out.mono ?_
      rintro e w2 ⟨rfl,hb2⟩
      have HB2:Hid (Below w.heap.size w w2):=HB.out.1.trans (hb2.mono HB.out.1.size)
      clear hb2
      go_wp2
      go_ret
      exact ⟨rfl,HB2.out⟩)
theorem it_3 {o:Bool} {S:Nat -> Prop} (i:It) (ka:Option Addr) (n c:Nat) (w:World) (hF:FoAt o S w i.args ka n) (hn:n <= maxLen) (hk:i.kind = 3) :
 Calls Tryz.prog 47 #[.agg #[I J i.kind,Ψ (bs i.name),Γ ka n c,I J i.pl]] w fun e w'=>e = Ω (.bool (decide (i.name = []) && (decide (lenF i.args = 1) && rgtF 32 i.args))) /\ Below w.heap.size w w':=by
 have hlen:=foAt_len hF
 have HA:Hid (∀ W,Below w.heap.size w W -> Calls Tryz.prog 86 #[Γ ka n c,I J 32] W fun e w'=>e = Ω (.bool (rgtF 32 i.args)) /\ Below W.heap.size W w'):=fun W hW=>rightAll_calls _ i.args ka n c 32 W o S (hF.below hW) hn (Nat.le_refl _) (Nat.lt_succ_self _)
 have hbx:Below w.heap.size w (w.alloc (Δ #[I J i.kind,Ψ (bs i.name),Γ ka n c,I J i.pl] 67)):=(Below.refl _ _).alloc (Nat.le_refl _) _
 have hnw:=heap_alloc_new w (Δ #[I J i.kind,Ψ (bs i.name),Γ ka n c,I J i.pl] 67)
 have HB:Hid (Below w.heap.size w (w.alloc (Δ #[I J i.kind,Ψ (bs i.name),Γ ka n c,I J i.pl] 67)) /\ ((w.alloc (Δ #[I J i.kind,Ψ (bs i.name),Γ ka n c,I J i.pl] 67))).heap[w.heap.size]? = some (Δ #[I J i.kind,Ψ (bs i.name),Γ ka n c,I J i.pl] 67 (0,0))):=⟨hbx,hnw⟩
 have k1:(i.kind == 1) = false:=by rw [beq_eq_false_iff_ne]; omega
 have k7:(i.kind == 7) = false:=by rw [beq_eq_false_iff_ne]; omega
 have k2:(i.kind == 2) = false:=by rw [beq_eq_false_iff_ne]; omega
 have k3:(i.kind == 3) = true:=by rw [beq_iff_eq]; omega
 clear hk hbx hnw hF hn
 rw [<- hlen]
 clear hlen
 have b0:((bs i.name).toList == []) = decide (i.name = []):=emptyT _
 have b1:((n:Int) == 1) = decide (n = 1):=natB n 1
 generalize decide (i.name = []) = v0 at *
 generalize decide (n = 1) = v1 at *
 cases v0 with
 | false=>
   go_enter Tryz.func47,Tryz.ntmps47
   go_wp2
   go_ret
   exact ⟨rfl,HB.out.1⟩
 | true=>
   cases v1 with
   | false=>
     go_enter Tryz.func47,Tryz.ntmps47
     go_wp2
     go_ret
     exact ⟨rfl,HB.out.1⟩
   | true=>
     have HA2:Hid (Calls Tryz.prog 86 #[Γ ka n c,I J 32] (w.alloc (Δ #[I J i.kind,Ψ (bs i.name),Γ ka n c,I J i.pl] 67)) fun e w'=>e = Ω (.bool (rgtF 32 i.args)) /\ Below ((w.alloc (Δ #[I J i.kind,Ψ (bs i.name),Γ ka n c,I J i.pl] 67))).heap.size (w.alloc (Δ #[I J i.kind,Ψ (bs i.name),Γ ka n c,I J i.pl] 67)) w'):=HA.out _ HB.out.1
     clear HA
     generalize rgtF 32 i.args = v2 at *
     cases v2 <;> (
      go_enter Tryz.func47,Tryz.ntmps47
      go_wp2_with fail
      refine HA2.out.mono ?_
      rintro e w2 ⟨rfl,hb2⟩
      have HB2:Hid (Below w.heap.size w w2):=HB.out.1.trans (hb2.mono HB.out.1.size)
      clear hb2
      go_wp2
      go_ret
      exact ⟨rfl,HB2.out⟩)
theorem it_4 {o:Bool} {S:Nat -> Prop} (i:It) (ka:Option Addr) (n c:Nat) (w:World) (hF:FoAt o S w i.args ka n) (hn:n <= maxLen) (hk:i.kind = 4) :
 Calls Tryz.prog 47 #[.agg #[I J i.kind,Ψ (bs i.name),Γ ka n c,I J i.pl]] w fun e w'=>e = Ω (.bool (decide (i.name = []) && (decide (lenF i.args = 1) && rgtF 32 i.args))) /\ Below w.heap.size w w':=by
 have hlen:=foAt_len hF
 have HA:Hid (∀ W,Below w.heap.size w W -> Calls Tryz.prog 86 #[Γ ka n c,I J 32] W fun e w'=>e = Ω (.bool (rgtF 32 i.args)) /\ Below W.heap.size W w'):=fun W hW=>rightAll_calls _ i.args ka n c 32 W o S (hF.below hW) hn (Nat.le_refl _) (Nat.lt_succ_self _)
 have hbx:Below w.heap.size w (w.alloc (Δ #[I J i.kind,Ψ (bs i.name),Γ ka n c,I J i.pl] 67)):=(Below.refl _ _).alloc (Nat.le_refl _) _
 have hnw:=heap_alloc_new w (Δ #[I J i.kind,Ψ (bs i.name),Γ ka n c,I J i.pl] 67)
 have HB:Hid (Below w.heap.size w (w.alloc (Δ #[I J i.kind,Ψ (bs i.name),Γ ka n c,I J i.pl] 67)) /\ ((w.alloc (Δ #[I J i.kind,Ψ (bs i.name),Γ ka n c,I J i.pl] 67))).heap[w.heap.size]? = some (Δ #[I J i.kind,Ψ (bs i.name),Γ ka n c,I J i.pl] 67 (0,0))):=⟨hbx,hnw⟩
 have k1:(i.kind == 1) = false:=by rw [beq_eq_false_iff_ne]; omega
 have k7:(i.kind == 7) = false:=by rw [beq_eq_false_iff_ne]; omega
 have k2:(i.kind == 2) = false:=by rw [beq_eq_false_iff_ne]; omega
 have k3:(i.kind == 3) = false:=by rw [beq_eq_false_iff_ne]; omega
 have k4:(i.kind == 4) = true:=by rw [beq_iff_eq]; omega
 clear hk hbx hnw hF hn
 rw [<- hlen]
 clear hlen
 have b0:((bs i.name).toList == []) = decide (i.name = []):=emptyT _
 have b1:((n:Int) == 1) = decide (n = 1):=natB n 1
 generalize decide (i.name = []) = v0 at *
 generalize decide (n = 1) = v1 at *
 cases v0 with
 | false=>
   go_enter Tryz.func47,Tryz.ntmps47
   go_wp2
   go_ret
   exact ⟨rfl,HB.out.1⟩
 | true=>
   cases v1 with
   | false=>
     go_enter Tryz.func47,Tryz.ntmps47
     go_wp2
     go_ret
     exact ⟨rfl,HB.out.1⟩
   | true=>
     have HA2:Hid (Calls Tryz.prog 86 #[Γ ka n c,I J 32] (w.alloc (Δ #[I J i.kind,Ψ (bs i.name),Γ ka n c,I J i.pl] 67)) fun e w'=>e = Ω (.bool (rgtF 32 i.args)) /\ Below ((w.alloc (Δ #[I J i.kind,Ψ (bs i.name),Γ ka n c,I J i.pl] 67))).heap.size (w.alloc (Δ #[I J i.kind,Ψ (bs i.name),Γ ka n c,I J i.pl] 67)) w'):=HA.out _ HB.out.1
     clear HA
     generalize rgtF 32 i.args = v2 at *
     cases v2 <;> (
      go_enter Tryz.func47,Tryz.ntmps47
      go_wp2_with fail
      refine HA2.out.mono ?_
      rintro e w2 ⟨rfl,hb2⟩
      have HB2:Hid (Below w.heap.size w w2):=HB.out.1.trans (hb2.mono HB.out.1.size)
      clear hb2
      go_wp2
      go_ret
      exact ⟨rfl,HB2.out⟩)
theorem it_10 {o:Bool} {S:Nat -> Prop} (i:It) (ka:Option Addr) (n c:Nat) (w:World) (hF:FoAt o S w i.args ka n) (hn:n <= maxLen) (hk:i.kind = 10) :
 Calls Tryz.prog 47 #[.agg #[I J i.kind,Ψ (bs i.name),Γ ka n c,I J i.pl]] w fun e w'=>e = Ω (.bool (decide (i.name = []) && (decide (lenF i.args = 1) && rgtF 32 i.args))) /\ Below w.heap.size w w':=by
 have hlen:=foAt_len hF
 have HA:Hid (∀ W,Below w.heap.size w W -> Calls Tryz.prog 86 #[Γ ka n c,I J 32] W fun e w'=>e = Ω (.bool (rgtF 32 i.args)) /\ Below W.heap.size W w'):=fun W hW=>rightAll_calls _ i.args ka n c 32 W o S (hF.below hW) hn (Nat.le_refl _) (Nat.lt_succ_self _)
 have hbx:Below w.heap.size w (w.alloc (Δ #[I J i.kind,Ψ (bs i.name),Γ ka n c,I J i.pl] 67)):=(Below.refl _ _).alloc (Nat.le_refl _) _
 have hnw:=heap_alloc_new w (Δ #[I J i.kind,Ψ (bs i.name),Γ ka n c,I J i.pl] 67)
 have HB:Hid (Below w.heap.size w (w.alloc (Δ #[I J i.kind,Ψ (bs i.name),Γ ka n c,I J i.pl] 67)) /\ ((w.alloc (Δ #[I J i.kind,Ψ (bs i.name),Γ ka n c,I J i.pl] 67))).heap[w.heap.size]? = some (Δ #[I J i.kind,Ψ (bs i.name),Γ ka n c,I J i.pl] 67 (0,0))):=⟨hbx,hnw⟩
 have k1:(i.kind == 1) = false:=by rw [beq_eq_false_iff_ne]; omega
 have k7:(i.kind == 7) = false:=by rw [beq_eq_false_iff_ne]; omega
 have k2:(i.kind == 2) = false:=by rw [beq_eq_false_iff_ne]; omega
 have k3:(i.kind == 3) = false:=by rw [beq_eq_false_iff_ne]; omega
 have k4:(i.kind == 4) = false:=by rw [beq_eq_false_iff_ne]; omega
 have k10:(i.kind == 10) = true:=by rw [beq_iff_eq]; omega
 clear hk hbx hnw hF hn
 rw [<- hlen]
 clear hlen
 have b0:((bs i.name).toList == []) = decide (i.name = []):=emptyT _
 have b1:((n:Int) == 1) = decide (n = 1):=natB n 1
 generalize decide (i.name = []) = v0 at *
 generalize decide (n = 1) = v1 at *
 cases v0 with
 | false=>
   go_enter Tryz.func47,Tryz.ntmps47
   go_wp2
   go_ret
   exact ⟨rfl,HB.out.1⟩
 | true=>
   cases v1 with
   | false=>
     go_enter Tryz.func47,Tryz.ntmps47
     go_wp2
     go_ret
     exact ⟨rfl,HB.out.1⟩
   | true=>
     have HA2:Hid (Calls Tryz.prog 86 #[Γ ka n c,I J 32] (w.alloc (Δ #[I J i.kind,Ψ (bs i.name),Γ ka n c,I J i.pl] 67)) fun e w'=>e = Ω (.bool (rgtF 32 i.args)) /\ Below ((w.alloc (Δ #[I J i.kind,Ψ (bs i.name),Γ ka n c,I J i.pl] 67))).heap.size (w.alloc (Δ #[I J i.kind,Ψ (bs i.name),Γ ka n c,I J i.pl] 67)) w'):=HA.out _ HB.out.1
     clear HA
     generalize rgtF 32 i.args = v2 at *
     cases v2 <;> (
      go_enter Tryz.func47,Tryz.ntmps47
      go_wp2_with fail
      refine HA2.out.mono ?_
      rintro e w2 ⟨rfl,hb2⟩
      have HB2:Hid (Below w.heap.size w w2):=HB.out.1.trans (hb2.mono HB.out.1.size)
      clear hb2
      go_wp2
      go_ret
      exact ⟨rfl,HB2.out⟩)
theorem it_5 {o:Bool} {S:Nat -> Prop} (i:It) (ka:Option Addr) (n c:Nat) (w:World) (hF:FoAt o S w i.args ka n) (hn:n <= maxLen) (hk:i.kind = 5) :
 Calls Tryz.prog 47 #[.agg #[I J i.kind,Ψ (bs i.name),Γ ka n c,I J i.pl]] w fun e w'=>e = Ω (.bool (decide (i.name = []) && (decide (lenF i.args = 2) && rgtF 32 i.args))) /\ Below w.heap.size w w':=by
 have hlen:=foAt_len hF
 have HA:Hid (∀ W,Below w.heap.size w W -> Calls Tryz.prog 86 #[Γ ka n c,I J 32] W fun e w'=>e = Ω (.bool (rgtF 32 i.args)) /\ Below W.heap.size W w'):=fun W hW=>rightAll_calls _ i.args ka n c 32 W o S (hF.below hW) hn (Nat.le_refl _) (Nat.lt_succ_self _)
 have hbx:Below w.heap.size w (w.alloc (Δ #[I J i.kind,Ψ (bs i.name),Γ ka n c,I J i.pl] 67)):=(Below.refl _ _).alloc (Nat.le_refl _) _
 have hnw:=heap_alloc_new w (Δ #[I J i.kind,Ψ (bs i.name),Γ ka n c,I J i.pl] 67)
 have HB:Hid (Below w.heap.size w (w.alloc (Δ #[I J i.kind,Ψ (bs i.name),Γ ka n c,I J i.pl] 67)) /\ ((w.alloc (Δ #[I J i.kind,Ψ (bs i.name),Γ ka n c,I J i.pl] 67))).heap[w.heap.size]? = some (Δ #[I J i.kind,Ψ (bs i.name),Γ ka n c,I J i.pl] 67 (0,0))):=⟨hbx,hnw⟩
 have k1:(i.kind == 1) = false:=by rw [beq_eq_false_iff_ne]; omega
 have k7:(i.kind == 7) = false:=by rw [beq_eq_false_iff_ne]; omega
 have k2:(i.kind == 2) = false:=by rw [beq_eq_false_iff_ne]; omega
 have k3:(i.kind == 3) = false:=by rw [beq_eq_false_iff_ne]; omega
 have k4:(i.kind == 4) = false:=by rw [beq_eq_false_iff_ne]; omega
 have k10:(i.kind == 10) = false:=by rw [beq_eq_false_iff_ne]; omega
 have k5:(i.kind == 5) = true:=by rw [beq_iff_eq]; omega
 clear hk hbx hnw hF hn
 rw [<- hlen]
 clear hlen
 have b0:((bs i.name).toList == []) = decide (i.name = []):=emptyT _
 have b1:((n:Int) == 2) = decide (n = 2):=natB n 2
 generalize decide (i.name = []) = v0 at *
 generalize decide (n = 2) = v1 at *
 cases v0 with
 | false=>
   go_enter Tryz.func47,Tryz.ntmps47
   go_wp2
   go_ret
   exact ⟨rfl,HB.out.1⟩
 | true=>
   cases v1 with
   | false=>
     go_enter Tryz.func47,Tryz.ntmps47
     go_wp2
     go_ret
     exact ⟨rfl,HB.out.1⟩
   | true=>
     have HA2:Hid (Calls Tryz.prog 86 #[Γ ka n c,I J 32] (w.alloc (Δ #[I J i.kind,Ψ (bs i.name),Γ ka n c,I J i.pl] 67)) fun e w'=>e = Ω (.bool (rgtF 32 i.args)) /\ Below ((w.alloc (Δ #[I J i.kind,Ψ (bs i.name),Γ ka n c,I J i.pl] 67))).heap.size (w.alloc (Δ #[I J i.kind,Ψ (bs i.name),Γ ka n c,I J i.pl] 67)) w'):=HA.out _ HB.out.1
     clear HA
     generalize rgtF 32 i.args = v2 at *
     cases v2 <;> (
      go_enter Tryz.func47,Tryz.ntmps47
      go_wp2_with fail
      refine HA2.out.mono ?_
      rintro e w2 ⟨rfl,hb2⟩
      have HB2:Hid (Below w.heap.size w w2):=HB.out.1.trans (hb2.mono HB.out.1.size)
      clear hb2
      go_wp2
      go_ret
      exact ⟨rfl,HB2.out⟩)
theorem it_6 {o:Bool} {S:Nat -> Prop} (i:It) (ka:Option Addr) (n c:Nat) (w:World) (hF:FoAt o S w i.args ka n) (hn:n <= maxLen) (hk:i.kind = 6) :
 Calls Tryz.prog 47 #[.agg #[I J i.kind,Ψ (bs i.name),Γ ka n c,I J i.pl]] w fun e w'=>e = Ω (.bool (decide (i.name = []) && (decide (lenF i.args = 2) && rgtF 32 i.args))) /\ Below w.heap.size w w':=by
 have hlen:=foAt_len hF
 have HA:Hid (∀ W,Below w.heap.size w W -> Calls Tryz.prog 86 #[Γ ka n c,I J 32] W fun e w'=>e = Ω (.bool (rgtF 32 i.args)) /\ Below W.heap.size W w'):=fun W hW=>rightAll_calls _ i.args ka n c 32 W o S (hF.below hW) hn (Nat.le_refl _) (Nat.lt_succ_self _)
 have hbx:Below w.heap.size w (w.alloc (Δ #[I J i.kind,Ψ (bs i.name),Γ ka n c,I J i.pl] 67)):=(Below.refl _ _).alloc (Nat.le_refl _) _
 have hnw:=heap_alloc_new w (Δ #[I J i.kind,Ψ (bs i.name),Γ ka n c,I J i.pl] 67)
 have HB:Hid (Below w.heap.size w (w.alloc (Δ #[I J i.kind,Ψ (bs i.name),Γ ka n c,I J i.pl] 67)) /\ ((w.alloc (Δ #[I J i.kind,Ψ (bs i.name),Γ ka n c,I J i.pl] 67))).heap[w.heap.size]? = some (Δ #[I J i.kind,Ψ (bs i.name),Γ ka n c,I J i.pl] 67 (0,0))):=⟨hbx,hnw⟩
 have k1:(i.kind == 1) = false:=by rw [beq_eq_false_iff_ne]; omega
 have k7:(i.kind == 7) = false:=by rw [beq_eq_false_iff_ne]; omega
 have k2:(i.kind == 2) = false:=by rw [beq_eq_false_iff_ne]; omega
 have k3:(i.kind == 3) = false:=by rw [beq_eq_false_iff_ne]; omega
 have k4:(i.kind == 4) = false:=by rw [beq_eq_false_iff_ne]; omega
 have k10:(i.kind == 10) = false:=by rw [beq_eq_false_iff_ne]; omega
 have k5:(i.kind == 5) = false:=by rw [beq_eq_false_iff_ne]; omega
 have k6:(i.kind == 6) = true:=by rw [beq_iff_eq]; omega
 clear hk hbx hnw hF hn
 rw [<- hlen]
 clear hlen
 have b0:((bs i.name).toList == []) = decide (i.name = []):=emptyT _
 have b1:((n:Int) == 2) = decide (n = 2):=natB n 2
 generalize decide (i.name = []) = v0 at *
 generalize decide (n = 2) = v1 at *
 cases v0 with
 | false=>
   go_enter Tryz.func47,Tryz.ntmps47
   go_wp2
   go_ret
   exact ⟨rfl,HB.out.1⟩
 | true=>
   cases v1 with
   | false=>
     go_enter Tryz.func47,Tryz.ntmps47
     go_wp2
     go_ret
     exact ⟨rfl,HB.out.1⟩
   | true=>
     have HA2:Hid (Calls Tryz.prog 86 #[Γ ka n c,I J 32] (w.alloc (Δ #[I J i.kind,Ψ (bs i.name),Γ ka n c,I J i.pl] 67)) fun e w'=>e = Ω (.bool (rgtF 32 i.args)) /\ Below ((w.alloc (Δ #[I J i.kind,Ψ (bs i.name),Γ ka n c,I J i.pl] 67))).heap.size (w.alloc (Δ #[I J i.kind,Ψ (bs i.name),Γ ka n c,I J i.pl] 67)) w'):=HA.out _ HB.out.1
     clear HA
     generalize rgtF 32 i.args = v2 at *
     cases v2 <;> (
      go_enter Tryz.func47,Tryz.ntmps47
      go_wp2_with fail
      refine HA2.out.mono ?_
      rintro e w2 ⟨rfl,hb2⟩
      have HB2:Hid (Below w.heap.size w w2):=HB.out.1.trans (hb2.mono HB.out.1.size)
      clear hb2
      go_wp2
      go_ret
      exact ⟨rfl,HB2.out⟩)
theorem it_8 {o:Bool} {S:Nat -> Prop} (i:It) (ka:Option Addr) (n c:Nat) (w:World) (hF:FoAt o S w i.args ka n) (hn:n <= maxLen) (hk:i.kind = 8) :
 Calls Tryz.prog 47 #[.agg #[I J i.kind,Ψ (bs i.name),Γ ka n c,I J i.pl]] w fun e w'=>e = Ω (.bool (decide (i.name = []) && (decide (lenF i.args = 2) && rgtF 32 i.args))) /\ Below w.heap.size w w':=by
 have hlen:=foAt_len hF
 have HA:Hid (∀ W,Below w.heap.size w W -> Calls Tryz.prog 86 #[Γ ka n c,I J 32] W fun e w'=>e = Ω (.bool (rgtF 32 i.args)) /\ Below W.heap.size W w'):=fun W hW=>rightAll_calls _ i.args ka n c 32 W o S (hF.below hW) hn (Nat.le_refl _) (Nat.lt_succ_self _)
 have hbx:Below w.heap.size w (w.alloc (Δ #[I J i.kind,Ψ (bs i.name),Γ ka n c,I J i.pl] 67)):=(Below.refl _ _).alloc (Nat.le_refl _) _
 have hnw:=heap_alloc_new w (Δ #[I J i.kind,Ψ (bs i.name),Γ ka n c,I J i.pl] 67)
 have HB:Hid (Below w.heap.size w (w.alloc (Δ #[I J i.kind,Ψ (bs i.name),Γ ka n c,I J i.pl] 67)) /\ ((w.alloc (Δ #[I J i.kind,Ψ (bs i.name),Γ ka n c,I J i.pl] 67))).heap[w.heap.size]? = some (Δ #[I J i.kind,Ψ (bs i.name),Γ ka n c,I J i.pl] 67 (0,0))):=⟨hbx,hnw⟩
 have k1:(i.kind == 1) = false:=by rw [beq_eq_false_iff_ne]; omega
 have k7:(i.kind == 7) = false:=by rw [beq_eq_false_iff_ne]; omega
 have k2:(i.kind == 2) = false:=by rw [beq_eq_false_iff_ne]; omega
 have k3:(i.kind == 3) = false:=by rw [beq_eq_false_iff_ne]; omega
 have k4:(i.kind == 4) = false:=by rw [beq_eq_false_iff_ne]; omega
 have k10:(i.kind == 10) = false:=by rw [beq_eq_false_iff_ne]; omega
 have k5:(i.kind == 5) = false:=by rw [beq_eq_false_iff_ne]; omega
 have k6:(i.kind == 6) = false:=by rw [beq_eq_false_iff_ne]; omega
 have k8:(i.kind == 8) = true:=by rw [beq_iff_eq]; omega
 clear hk hbx hnw hF hn
 rw [<- hlen]
 clear hlen
 have b0:((bs i.name).toList == []) = decide (i.name = []):=emptyT _
 have b1:((n:Int) == 2) = decide (n = 2):=natB n 2
 generalize decide (i.name = []) = v0 at *
 generalize decide (n = 2) = v1 at *
 cases v0 with
 | false=>
   go_enter Tryz.func47,Tryz.ntmps47
   go_wp2
   go_ret
   exact ⟨rfl,HB.out.1⟩
 | true=>
   cases v1 with
   | false=>
     go_enter Tryz.func47,Tryz.ntmps47
     go_wp2
     go_ret
     exact ⟨rfl,HB.out.1⟩
   | true=>
     have HA2:Hid (Calls Tryz.prog 86 #[Γ ka n c,I J 32] (w.alloc (Δ #[I J i.kind,Ψ (bs i.name),Γ ka n c,I J i.pl] 67)) fun e w'=>e = Ω (.bool (rgtF 32 i.args)) /\ Below ((w.alloc (Δ #[I J i.kind,Ψ (bs i.name),Γ ka n c,I J i.pl] 67))).heap.size (w.alloc (Δ #[I J i.kind,Ψ (bs i.name),Γ ka n c,I J i.pl] 67)) w'):=HA.out _ HB.out.1
     clear HA
     generalize rgtF 32 i.args = v2 at *
     cases v2 <;> (
      go_enter Tryz.func47,Tryz.ntmps47
      go_wp2_with fail
      refine HA2.out.mono ?_
      rintro e w2 ⟨rfl,hb2⟩
      have HB2:Hid (Below w.heap.size w w2):=HB.out.1.trans (hb2.mono HB.out.1.size)
      clear hb2
      go_wp2
      go_ret
      exact ⟨rfl,HB2.out⟩)
theorem it_9 {o:Bool} {S:Nat -> Prop} (i:It) (ka:Option Addr) (n c:Nat) (w:World) (hF:FoAt o S w i.args ka n) (hn:n <= maxLen) (hk:i.kind = 9) :
 Calls Tryz.prog 47 #[.agg #[I J i.kind,Ψ (bs i.name),Γ ka n c,I J i.pl]] w fun e w'=>e = Ω (.bool (decide (i.name = []) && (decide (lenF i.args = 2) && rgtF 32 i.args))) /\ Below w.heap.size w w':=by
 have hlen:=foAt_len hF
 have HA:Hid (∀ W,Below w.heap.size w W -> Calls Tryz.prog 86 #[Γ ka n c,I J 32] W fun e w'=>e = Ω (.bool (rgtF 32 i.args)) /\ Below W.heap.size W w'):=fun W hW=>rightAll_calls _ i.args ka n c 32 W o S (hF.below hW) hn (Nat.le_refl _) (Nat.lt_succ_self _)
 have hbx:Below w.heap.size w (w.alloc (Δ #[I J i.kind,Ψ (bs i.name),Γ ka n c,I J i.pl] 67)):=(Below.refl _ _).alloc (Nat.le_refl _) _
 have hnw:=heap_alloc_new w (Δ #[I J i.kind,Ψ (bs i.name),Γ ka n c,I J i.pl] 67)
 have HB:Hid (Below w.heap.size w (w.alloc (Δ #[I J i.kind,Ψ (bs i.name),Γ ka n c,I J i.pl] 67)) /\ ((w.alloc (Δ #[I J i.kind,Ψ (bs i.name),Γ ka n c,I J i.pl] 67))).heap[w.heap.size]? = some (Δ #[I J i.kind,Ψ (bs i.name),Γ ka n c,I J i.pl] 67 (0,0))):=⟨hbx,hnw⟩
 have k1:(i.kind == 1) = false:=by rw [beq_eq_false_iff_ne]; omega
 have k7:(i.kind == 7) = false:=by rw [beq_eq_false_iff_ne]; omega
 have k2:(i.kind == 2) = false:=by rw [beq_eq_false_iff_ne]; omega
 have k3:(i.kind == 3) = false:=by rw [beq_eq_false_iff_ne]; omega
 have k4:(i.kind == 4) = false:=by rw [beq_eq_false_iff_ne]; omega
 have k10:(i.kind == 10) = false:=by rw [beq_eq_false_iff_ne]; omega
 have k5:(i.kind == 5) = false:=by rw [beq_eq_false_iff_ne]; omega
 have k6:(i.kind == 6) = false:=by rw [beq_eq_false_iff_ne]; omega
 have k8:(i.kind == 8) = false:=by rw [beq_eq_false_iff_ne]; omega
 have k9:(i.kind == 9) = true:=by rw [beq_iff_eq]; omega
 clear hk hbx hnw hF hn
 rw [<- hlen]
 clear hlen
 have b0:((bs i.name).toList == []) = decide (i.name = []):=emptyT _
 have b1:((n:Int) == 2) = decide (n = 2):=natB n 2
 generalize decide (i.name = []) = v0 at *
 generalize decide (n = 2) = v1 at *
 cases v0 with
 | false=>
   go_enter Tryz.func47,Tryz.ntmps47
   go_wp2
   go_ret
   exact ⟨rfl,HB.out.1⟩
 | true=>
   cases v1 with
   | false=>
     go_enter Tryz.func47,Tryz.ntmps47
     go_wp2
     go_ret
     exact ⟨rfl,HB.out.1⟩
   | true=>
     have HA2:Hid (Calls Tryz.prog 86 #[Γ ka n c,I J 32] (w.alloc (Δ #[I J i.kind,Ψ (bs i.name),Γ ka n c,I J i.pl] 67)) fun e w'=>e = Ω (.bool (rgtF 32 i.args)) /\ Below ((w.alloc (Δ #[I J i.kind,Ψ (bs i.name),Γ ka n c,I J i.pl] 67))).heap.size (w.alloc (Δ #[I J i.kind,Ψ (bs i.name),Γ ka n c,I J i.pl] 67)) w'):=HA.out _ HB.out.1
     clear HA
     generalize rgtF 32 i.args = v2 at *
     cases v2 <;> (
      go_enter Tryz.func47,Tryz.ntmps47
      go_wp2_with fail
      refine HA2.out.mono ?_
      rintro e w2 ⟨rfl,hb2⟩
      have HB2:Hid (Below w.heap.size w w2):=HB.out.1.trans (hb2.mono HB.out.1.size)
      clear hb2
      go_wp2
      go_ret
      exact ⟨rfl,HB2.out⟩)
theorem it_none (i:It) (ka:Option Addr) (n c:Nat) (w:World) (hk:¬ (1 <= i.kind /\ i.kind <= 10)) :
 Calls Tryz.prog 47 #[.agg #[I J i.kind,Ψ (bs i.name),Γ ka n c,I J i.pl]] w fun e w'=>e = Ω (.bool false) /\ Below w.heap.size w w':=by
 have k1:(i.kind == 1) = false:=by rw [beq_eq_false_iff_ne]; omega
 have k7:(i.kind == 7) = false:=by rw [beq_eq_false_iff_ne]; omega
 have k2:(i.kind == 2) = false:=by rw [beq_eq_false_iff_ne]; omega
 have k3:(i.kind == 3) = false:=by rw [beq_eq_false_iff_ne]; omega
 have k4:(i.kind == 4) = false:=by rw [beq_eq_false_iff_ne]; omega
 have k10:(i.kind == 10) = false:=by rw [beq_eq_false_iff_ne]; omega
 have k5:(i.kind == 5) = false:=by rw [beq_eq_false_iff_ne]; omega
 have k6:(i.kind == 6) = false:=by rw [beq_eq_false_iff_ne]; omega
 have k8:(i.kind == 8) = false:=by rw [beq_eq_false_iff_ne]; omega
 have k9:(i.kind == 9) = false:=by rw [beq_eq_false_iff_ne]; omega
 have HB:Hid (Below w.heap.size w (w.alloc (Δ #[I J i.kind,Ψ (bs i.name),Γ ka n c,I J i.pl] 67))):=(Below.refl _ _).alloc (Nat.le_refl _) _
 clear hk
 go_enter Tryz.func47,Tryz.ntmps47
 go_wp2
 go_ret
 exact ⟨rfl,HB.out⟩
theorem rightItem_calls {o:Bool} {S:Nat -> Prop} (i:It) (ka:Option Addr) (n c:Nat) (w:World) (hF:FoAt o S w i.args ka n) (hn:n <= maxLen) :
 Calls Tryz.prog 47 #[.agg #[I J i.kind,Ψ (bs i.name),Γ ka n c,I J i.pl]] w fun e w'=>e = Ω (.bool (itRight i)) /\ Below w.heap.size w w':=by
 unfold itRight
 by_cases h1:i.kind = 1
 ·rw [if_pos h1]; exact it_1 i ka n c w hF hn h1
 ·rw [if_neg h1]
  by_cases h7:i.kind = 7
  ·rw [if_pos h7]; exact it_7 i ka n c w (foAt_len hF) h7
  ·rw [if_neg h7]
   by_cases h2:i.kind = 2 \/ i.kind = 3 \/ i.kind = 4 \/ i.kind = 10
   ·rw [if_pos h2]
    rcases h2 with h2 | h2 | h2 | h2
    ·exact it_2 i ka n c w hF hn h2
    ·exact it_3 i ka n c w hF hn h2
    ·exact it_4 i ka n c w hF hn h2
    ·exact it_10 i ka n c w hF hn h2
   ·rw [if_neg h2]
    by_cases h5:i.kind = 5 \/ i.kind = 6 \/ i.kind = 8 \/ i.kind = 9
    ·rw [if_pos h5]
     rcases h5 with h5 | h5 | h5 | h5
     ·exact it_5 i ka n c w hF hn h5
     ·exact it_6 i ka n c w hF hn h5
     ·exact it_8 i ka n c w hF hn h5
     ·exact it_9 i ka n c w hF hn h5
    ·rw [if_neg h5]
     exact it_none i ka n c w (by omega)
theorem right_calls {o:Bool} {S:Nat -> Prop} (L:List It) (ao:Option Addr) (n c:Nat) (w:World) (hF:ItsAt o S w L ao n) (hn:n <= maxLen) :
 Calls Tryz.prog 26 #[.agg #[Γ ao n c]] w fun e' w'=>e' = Ω (.bool (treeRight L)) /\ Below w.heap.size w w':=by
 have hn2:=hn
 unfold maxLen at hn2
 have hlen:=itsAt_len hF
 have hbx:Below w.heap.size w (w.alloc (Δ #[Γ ao n c] 24)):=(Below.refl _ _).alloc (Nat.le_refl _) _
 have HB:=hid hbx
 by_cases h100:100 < n
 ·have q:decide ((100:Int) < (n:Int)) = true:=by simp; omega
  have HX:Hid (treeRight L = false):=by show treeRight L = false; unfold treeRight; rw [<- hlen]; simp; omega
  clear hF hbx hlen
  go_enter Tryz.func26,Tryz.ntmps26
  go_wp2
  go_ret
  exact ⟨ret_bool HX.out.symm,HB.out⟩
 ·have q:decide ((100:Int) < (n:Int)) = false:=by simp; omega
  have HX:Hid (treeRight L = L.all itRight):=by
   show treeRight L = _
   unfold treeRight
   rw [<- hlen,show decide (n <= 100) = true by simp; omega,Bool.true_and]
  obtain ⟨g,off,hka,hF'⟩:=itsAt_addr hF
  rw [HX.out]
  generalize hD:L.all itRight = D at *
  have H0:Hid (ItsAt o S (w.alloc (Δ #[Γ ao n c] 24)) L (some ⟨g,off + 0 * 4,none⟩) (n - 0) /\ L.all itRight = D /\ Below w.heap.size w (w.alloc (Δ #[Γ ao n c] 24))):=⟨hF'.below hbx,hD,hbx⟩
  clear hF hF' hD hbx HX HB hlen
  go_enter Tryz.func26,Tryz.ntmps26
  go_wp2_with fail
  go_loopg [12] n (fun k iv wr=>∃ (L':List It) (i:Nat),iv = I J (i:Int) /\ i + k = n /\ Hid (ItsAt o S wr L' (some ⟨g,off + i * 4,none⟩) (n - i) /\ L'.all itRight = D /\ Below w.heap.size w wr))
  case atStart=>exact ⟨L,0,rfl,by omega,H0.out⟩
  case round=>
   clear H0
   obtain ⟨L',i,rfl,hik,HT⟩:=hrel
   by_cases hi:i < n
   ·obtain ⟨h1,r1,ka1,kc1,kk1,rfl,-,hok1,hkc1,⟨c0,c1,c2,c3⟩,hk1,hr1⟩:=itsAt_head HT.out.1 hi
    have hka2:=hka (by omega)
    subst hka2
    have hbx:∀ o',Below wr.heap.size wr (wr.alloc o'):=fun o'=>(Below.refl _ _).alloc (Nat.le_refl _) o'
    have HR:Hid (ItsAt o S wr r1 (some ⟨g,off + (i + 1) * 4,none⟩) (n - (i + 1)) /\ (itRight h1 && r1.all itRight) = D /\ Below w.heap.size w wr):=⟨hr1,by have:=HT.out.2.1; rw [List.all_cons] at this; exact this,HT.out.2.2⟩
    have HHd:Hid (∀ o',Calls Tryz.prog 47 #[.agg #[I J h1.kind,Ψ (bs h1.name),Γ ka1 kc1 kk1,I J h1.pl]] (wr.alloc o') fun e w'=>e = Ω (.bool (itRight h1)) /\ Below (wr.alloc o').heap.size (wr.alloc o') w'):=fun o'=>rightItem_calls h1 ka1 kc1 kk1 _ (hk1.below (hbx o')) hkc1
    clear HT hk1 hr1 hok1 hkc1 hbx
    cases hh:itRight h1 with
    | false=>
      rw [hh] at HHd HR
      go_wp2_with fail
      refine (HHd.out _).mono ?_
      rintro e' w3 ⟨rfl,hb3⟩
      have HX:Hid (D = false /\ Below w.heap.size w w3):=⟨by rw [<- HR.out.2.1]; simp,HR.out.2.2.trans ((below_box' hb3).mono HR.out.2.2.size)⟩
      clear hb3 HR HHd
      go_wp2
      go_ret
      exact ⟨ret_bool HX.out.1.symm,HX.out.2⟩
    | true=>
      rw [hh] at HHd HR
      go_wp2_with fail
      refine (HHd.out _).mono ?_
      rintro e' w3 ⟨rfl,hb3⟩
      have HX:Hid (ItsAt o S w3 r1 (some ⟨g,off + (i + 1) * 4,none⟩) (n - (i + 1)) /\ r1.all itRight = D /\ Below w.heap.size w w3):=by
       obtain ⟨a1,a2,a3⟩:=HR.out
       have hb4:=below_box' hb3
       exact ⟨a1.below hb4,by simpa using a2,a3.trans (hb4.mono a3.size)⟩
      clear hb3 HR HHd
      go_wp2_with fail
      go_roundg (gk - 1)
      case measure=>omega
      case rel=>exact ⟨r1,i + 1,by go_num,by omega,HX.out⟩
   ·have HX:Hid (D = true /\ Below w.heap.size w wr):=by
     obtain ⟨a1,a4,a5⟩:=HT.out
     rw [show n - i = 0 by omega] at a1
     rw [itsAt_end a1] at a4
     exact ⟨a4.symm,a5⟩
    clear HT
    go_wp2
    go_ret
    exact ⟨ret_bool HX.out.1.symm,HX.out.2⟩
end Go.Proofs.YtlaodgdlkkmmeaaGreat
