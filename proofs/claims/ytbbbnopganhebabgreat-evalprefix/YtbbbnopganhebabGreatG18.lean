/-
  The document's small ones: ints, defs, times, Made. And what follows.
-/
import Derived.Test.YtbbbnopganhebabGreatG17
namespace Go.Proofs.YtbbbnopganhebabGreat
open Go.RowKit Go.Deep Go.Maps
end Go.Proofs.YtbbbnopganhebabGreat
