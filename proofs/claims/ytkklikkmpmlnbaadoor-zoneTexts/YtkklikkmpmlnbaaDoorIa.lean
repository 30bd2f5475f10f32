/- The names of layer 1: what id.Right and the document's Right answer: rightL of the text's bytes. -/
import Derived.Test.YtkklikkmpmlnbaaDoorRows
import Derived.Test.YtkklikkmpmlnbaaDoorIm
import Derived.WalkKit
import Derived.WalkSpells
import Derived.WalkLawsBesides
import Derived.BigQuiet
import Derived.Deep.QuietTactic
import Derived.Lib.Hide
namespace Go.Proofs.YtkklikkmpmlnbaaDoor
open Go.RowKit

theorem ret_int {k : IntKind} {a b : Int} (h : a = b) : Ending.returned (.int k a) = .returned (.int k b) := by rw [h]
theorem ret_bool {a b : Bool} (h : a = b) : Ending.returned (.bool a) = .returned (.bool b) := by rw [h]

end Go.Proofs.YtkklikkmpmlnbaaDoor
