/- vec.Join walked. -/
import Derived.Test.YtkdeiljbjpefhaaDoorVe
namespace Go.Proofs.YtkdeiljbjpefhaaDoor
open Go.RowKit

end Go.Proofs.YtkdeiljbjpefhaaDoor
