/- An argument that is a version, opened. -/
import Derived.Test.YtpaiigminmakgaaIa
import Derived.ProofKit
import Derived.OpenShut
import Derived.Lib.SmallJoins
namespace Go.Proofs.Ytpaiigminmakgaa
open Go.ChangeShapes Go.WideShapes Go.ChangeAt Go.RowKit Go.Joins

theorem Try.own : ownKnob Try.prog.godebug = none := by kernel_rfl
theorem Try.laidOut : laidOutB Try.prog = true := by kernel_rfl
theorem cellsVT : Try.prog.cellsOf 26 = 3 := by kernel_rfl
end Go.Proofs.Ytpaiigminmakgaa
