/-
  Expressions, items and the parser in memory; a world that is as it was but for one block.
-/
import Derived.Test.YtolehoibpnenlabMem
namespace Go.Proofs.Ytolehoibpnenlab
open Go.RowKit Go.Deep
def InR (z : Int) : Prop := -9223372036854775808 ≤ z ∧ z ≤ 9223372036854775807
section
end
end Go.Proofs.Ytolehoibpnenlab
