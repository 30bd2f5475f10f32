/- What the order of texts needs of the library. -/
import Derived.Shelf.SlicesE.Compact
import Derived.Shelf.SlSortCmp.NoneTotal
import Derived.Test.YtbbcifcdimfdgaaProg
namespace Go.Proofs.Ytbbcifcdimfdgaa
end Go.Proofs.Ytbbcifcdimfdgaa
