/-
  Two texts one behind the other; a piece of a text.
-/
import Derived.Test.YtlaodgdlkkmmeaaGreatG22
namespace Go.Proofs.YtlaodgdlkkmmeaaGreat
open Go.RowKit
/-- Two texts, one behind the other, under one name. -/
theorem cat_var (a b:ByteArray) (h:a.size + b.size <= 1000000000):∃ c:ByteArray,c.data.toList = a.data.toList ++ b.data.toList /\ c.size = a.size + b.size /\ ∀ W,(Op.stringOp .add a b).run Tryz.prog W = .ok (.string c) W:=
 ⟨a ++ b,by rw [ByteArray.data_append,Array.toList_append],ByteArray.size_append,fun W=>run_string_add_sum W _ _ (by omega)⟩
end Go.Proofs.YtlaodgdlkkmmeaaGreat
