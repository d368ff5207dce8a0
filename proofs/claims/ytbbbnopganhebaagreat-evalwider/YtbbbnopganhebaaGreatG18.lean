/-
  The document's small ones: ints, defs, times, Made. And what follows.
-/
import Derived.Test.YtbbbnopganhebaaGreatG17
namespace Go.Proofs.YtbbbnopganhebaaGreat
open Go.RowKit Go.Deep Go.Maps
end Go.Proofs.YtbbbnopganhebaaGreat
