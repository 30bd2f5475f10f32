/- An argument that is a row of ids and numbers, opened. -/
import Derived.Test.YtkdeiljbjpefhaaDoorVi
import Derived.ProofKit
import Derived.OpenShut
import Derived.Deep.SlicePairs
namespace Go.Proofs.YtkdeiljbjpefhaaDoor
open Go.ChangeShapes Go.WideShapes Go.ChangeAt Go.RowKit Go.Deep

theorem Tryd.own : ownKnob Tryd.prog.godebug = none := by kernel_rfl
theorem Tryd.laidOut : laidOutB Tryd.prog = true := by kernel_rfl
theorem cellsST : Tryd.prog.cellsOf 9 = 1 := by kernel_rfl
theorem cellsIN : Tryd.prog.cellsOf 3 = 1 := by kernel_rfl

end Go.Proofs.YtkdeiljbjpefhaaDoor
