/-
  What a tree means, in plain lists: definitions and their numbers, meanings, names; what is wrong, and where.
-/
import Derived.Deep.OwnRows
import Derived.Lib.Bytealg
import GoSem.Claim
namespace Go.Proofs.Ytolehoibpnenlab
open Go.Deep
structure Df where
  op : Int
  num : Int
  a : Int
  b : Int
abbrev maxV : Int := 144115188075855872
def inB (m v : Int) : Bool := decide (-m ≤ v) && decide (v ≤ m)
theorem inB_iff (m v : Int) : inB m v = true ↔ -m ≤ v ∧ v ≤ m := by simp [inB]
def vAt (vs : List Int) (i : Int) : Int := vs.getD i.toNat 0
/-- The number of a definition, by those ahead of it. -/
def rawB (vs : List Int) (d : Df) : Int :=
  if d.op = 2 then -(vAt vs d.a) else if d.op = 3 then vAt vs d.a + vAt vs d.b else if d.op = 4 then vAt vs d.a - vAt vs d.b
  else if d.op = 5 then vAt vs d.a * vAt vs d.b else if d.op = 6 then min (vAt vs d.a) (vAt vs d.b) else if d.op = 7 then max (vAt vs d.a) (vAt vs d.b) else d.num
end Go.Proofs.Ytolehoibpnenlab
