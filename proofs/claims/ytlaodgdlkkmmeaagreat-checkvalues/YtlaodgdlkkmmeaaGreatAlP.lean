/-
  Plain facts on bytes: where a byte first stands among bytes, what an alphabet is, the number of a letter.
-/
import Derived.Lib.Bytealg
import GoSem.Claim
namespace Go.Proofs.YtlaodgdlkkmmeaaGreat.Al
theorem indexByte_none (c:UInt8):∀ (l:List UInt8),c ∉ l -> Lib.indexByte l c = -1
 | [],_=>rfl
 | b :: l,h=>by
   have hb:(b == c) = false:=by
    rw [beq_eq_false_iff_ne]; intro e; exact h (by rw [e]; exact List.mem_cons_self ..)
   have ih:=indexByte_none c l (fun hm=>h (List.mem_cons_of_mem _ hm))
   unfold Lib.indexByte
   simp [hb,ih]
/-- One place of a text is as an alphabet's must be. -/
def okAt (l:List UInt8) (i:Nat):Bool:=decide (65 <= ((l.getD i 0).toNat:Int)) && decide (((l.getD i 0).toNat:Int) <= 90) && decide (Lib.indexByte (l.take i) (l.getD i 0) < 0)
def okTo (l:List UInt8) (k:Nat):Bool:=(List.range k).all (okAt l)
/-- An alphabet. -/
def rightB (l:List UInt8):Bool:=decide (2 <= l.length) && decide (l.length <= 20) && okTo l l.length
theorem okTo_succ (l:List UInt8) (k:Nat):okTo l (k + 1) = (okTo l k && okAt l k):=by
 simp [okTo,List.range_succ]
theorem okTo_false (l:List UInt8) (k n:Nat) (h:k < n) (hk:okAt l k = false):okTo l n = false:=by
 rw [okTo,List.all_eq_false]
 exact ⟨k,by simpa using h,by simp [hk]⟩
theorem rightB_short (l:List UInt8) (h:l.length < 2):rightB l = false:=by
 simp [rightB]; omega
theorem rightB_long (l:List UInt8) (h:20 < l.length):rightB l = false:=by
 simp [rightB]; omega
theorem rightB_bad (l:List UInt8) (k:Nat) (h:k < l.length) (hk:okAt l k = false):rightB l = false:=by
 simp [rightB,okTo_false l k l.length h hk]
theorem rightB_good (l:List UInt8) (h2:2 <= l.length) (h20:l.length <= 20) (hk:okTo l l.length = true):rightB l = true:=by
 simp [rightB,h2,h20,hk]
/-- alpha.capital. -/
def capOf (c:Int):Int:=if 97 <= c /\ c <= 122 then c - 32 else c
def isCap (c:Int):Bool:=decide (65 <= c) && decide (c <= 90)
/-- The number of a byte among letters. -/
def codeOf (l:List UInt8) (c:Int):Int:=Lib.indexByte l (capOf c).toNat.toUInt8
/-- alpha.Code. -/
def codeB (l:List UInt8) (c:Int):Int:=if rightB l = true then codeOf l c else -1
end Go.Proofs.YtlaodgdlkkmmeaaGreat.Al
