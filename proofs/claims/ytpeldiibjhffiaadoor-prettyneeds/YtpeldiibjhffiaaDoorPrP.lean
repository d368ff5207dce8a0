/-
  How a tree is written, in plain lists of bytes.
-/
import Derived.Lib.AppendIntMem
import Derived.Lib.ItoaLen
import Derived.Test.YtpeldiibjhffiaaDoorG25
namespace Go.Proofs.YtpeldiibjhffiaaDoor
open Go.RowKit Go.Deep

def firmB (k : Int) : Int := if k = 5 ∨ k = 6 then 0 else if k = 7 then 1 else 2
def sgnB (k : Int) : List UInt8 := if k = 5 then [43] else if k = 6 then [45] else [42]
/-- A kind and a text. -/
abbrev Kt := Int × List UInt8
def brB (asked : Int) (x : Kt) : List UInt8 := if asked ≤ firmB x.1 then x.2 else [40] ++ (x.2 ++ [41])
/-- Texts with a sign between two of them. -/
def allB (sep : List UInt8) : Bool → List Kt → List UInt8
  | _, [] => []
  | first, x :: r => (if first then [] else sep) ++ (x.2 ++ allB sep false r)
def kt (ks : List Kt) (i : Nat) : Kt := ks.getD i (0, [])
def exB (h : Hd) (ks : List Kt) : List UInt8 :=
  if h.kind = 1 then Lib.decDigits h.num.toNat
  else if h.kind = 2 then h.text
  else if h.kind = 3 then [34] ++ (h.text ++ [34])
  else if h.kind = 4 then [45] ++ brB 2 (kt ks 0)
  else if h.kind = 8 then [109, 105, 110, 40] ++ (allB [44, 32] true ks ++ [41])
  else if h.kind = 9 then [109, 97, 120, 40] ++ (allB [44, 32] true ks ++ [41])
  else brB (firmB h.kind) (kt ks 0) ++ ([32] ++ (sgnB h.kind ++ [32]) ++ brB (firmB h.kind + 1) (kt ks 1))
/-- The texts of a list of expressions. -/
def txF : Fo → List Kt
  | .nil => []
  | .node _ _ h k r => (h.kind, exB h (txF k)) :: txF r
def txE (e : Ex) : List UInt8 := exB e.1 (txF e.2)
def wordI (k : Int) : List UInt8 := if k = 2 then [97, 108, 112, 104, 97, 98, 101, 116] else if k = 3 then [109, 97, 116, 99, 104] else if k = 4 then [109, 105, 115, 109, 97, 116, 99, 104] else if k = 5 then [112, 97, 105, 114] else if k = 6 then [103, 97, 112] else if k = 8 then [98, 97, 110, 100] else if k = 9 then [99, 108, 105, 112] else [108, 101, 97, 115, 116]
def headI (i : It) : List UInt8 := if i.kind = 1 then [108, 101, 116, 32] ++ (i.name ++ [32, 61, 32]) else if i.kind = 7 then [109, 111, 100, 101, 32] ++ i.name else wordI i.kind ++ [32]
def signI (k : Int) : List UInt8 := if k = 8 then [32, 46, 46, 32] else [44, 32]
def itB (i : It) : List UInt8 := headI i ++ (allB (signI i.kind) true (txF i.args) ++ [59, 10])
def treeB (L : List It) : List UInt8 := L.flatMap itB
/-- What Print says: the text, or what is wrong. -/
def printB (L : List It) : List UInt8 × Int := if treeRight L then (if (treeB L).length ≤ 4000 then (treeB L, 0) else ([], 2)) else ([], 80)
theorem txF_len : ∀ F : Fo, (txF F).length = lenF F
  | .nil => rfl
  | .node _ _ _ _ r => by simp [txF, lenF, txF_len r]
/-- What a function that tells a text and an error leaves. -/
def TextPost (a : List UInt8 × Int) (w : World) (e : Ending) (w' : World) : Prop :=
  ∃ t : ByteArray, e = .returned (.tuple #[.string t, .int .i64 a.2]) ∧ t.data.toList = a.1 ∧ Below w.heap.size w w'
theorem text_post {a : List UInt8 × Int} {l : List UInt8} {z : Int} {t : ByteArray} {w w' : World} (h : a = (l, z)) (ht : t.data.toList = l) (hb : Below w.heap.size w w') : TextPost a w (.returned (.tuple #[.string t, .int .i64 z])) w' := by
  subst h
  exact ⟨t, rfl, ht, hb⟩
end Go.Proofs.YtpeldiibjhffiaaDoor
