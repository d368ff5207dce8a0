/-
  What was said so far in memory: the checker's block, its rows, the names; a world that is as it was but for some blocks.
-/
import Derived.Test.YtolehoibpnenlabCkB
import Derived.ArgAppend
import Derived.Test.YtolehoibpnenlabMem
import Derived.Maps.OwnSet
import Derived.StringKeys
namespace Go.Proofs.Ytolehoibpnenlab
open Go.RowKit Go.Deep Go.Maps
def dfCells (d : Df) : List Value := [.int .i64 d.op, .int .i64 d.num, .int .i64 d.a, .int .i64 d.b]
def dfRow (l : List Df) : List Value := l.flatMap dfCells
def itRow (l : List Int) : List Value := l.map (.int .i64 ·)
def pcCells (p : Int × Int) : List Value := [.int .i64 p.1, .int .i64 p.2]
def pcRow (l : List (Int × Int)) : List Value := l.flatMap pcCells
theorem itRow_snoc (l : List Int) (d : Int) : itRow (l ++ [d]) = itRow l ++ [.int .i64 d] := by simp [itRow]
end Go.Proofs.Ytolehoibpnenlab
