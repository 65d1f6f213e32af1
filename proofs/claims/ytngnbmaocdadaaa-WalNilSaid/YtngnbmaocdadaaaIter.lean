/- The library's modules that the walks of a disk stand on. -/
import Derived.Shelf.SlIter.Nil
import Derived.Shelf.SortM.Plain
import Derived.Shelf.SortM.SortNone
import Derived.Ground.GgzProg
import Derived.Ground.SlgmProg
import Derived.Test.YtngnbmaocdadaaaProg
namespace Go.Proofs.Ytngnbmaocdadaaa
end Go.Proofs.Ytngnbmaocdadaaa
