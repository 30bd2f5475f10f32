/- The document's Same of bytes. -/
import Derived.Test.YtophhjknbanafaaBe
namespace Go.Proofs.Ytophhjknbanafaa
open Go.RowKit

set_option maxRecDepth 100000 in
set_option maxHeartbeats 1000000 in
theorem same_any (A1 A2 : Option Addr) (n1 n2 c1 c2 g1 g2 : Nat) (xs ys : List UInt8) (w : World) (h1 : BytesAt w g1 A1 n1 xs) (h2 : BytesAt w g2 A2 n2 ys) :
    Calls Try.prog 20 #[.slice A1 n1 c1, .slice A2 n2 c2] w fun e w' => e = .returned (.bool (decide (xs = ys))) ∧ w = w' := by
  have k1 : (convert 47 9 (.slice A1 n1 c1)).run Try.prog w = .ok (.string ⟨xs.toArray⟩) w := run_text c1 h1
  have k2 : (convert 47 9 (.slice A2 n2 c2)).run Try.prog w = .ok (.string ⟨ys.toArray⟩) w := run_text c2 h2
  go_enter Try.func20, Try.ntmps20
  go_wp2
  go_ret
  refine ⟨ret_bool ?_, rfl⟩
  by_cases h : xs = ys <;> simp [h]
end Go.Proofs.Ytophhjknbanafaa
