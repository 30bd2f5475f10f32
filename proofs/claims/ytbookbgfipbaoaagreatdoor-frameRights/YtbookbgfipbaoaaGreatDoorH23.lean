/- The law's own little check 'told' of layer 10. -/
import Derived.Test.YtbookbgfipbaoaaGreatDoorH6
import Derived.Test.YtbookbgfipbaoaaGreatDoorH22
namespace Go.Proofs.YtbookbgfipbaoaaGreatDoor.Mx
open Go.RowKit

end Go.Proofs.YtbookbgfipbaoaaGreatDoor.Mx
