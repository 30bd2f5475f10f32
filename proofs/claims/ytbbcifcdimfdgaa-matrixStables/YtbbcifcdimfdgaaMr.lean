/- Matrices that are at hand, all together. -/
import Derived.Test.YtbbcifcdimfdgaaMl
import Derived.Test.YtbbcifcdimfdgaaMh
namespace Go.Proofs.Ytbbcifcdimfdgaa
open Go.RowKit

/-- These Matrices are there. -/
def Ms (w : World) (ms : List (Option Addr × Mat)) : Prop := ∀ x ∈ ms, MatAt w w.heap.size x.1 (List.length x.2) x.2
theorem Ms.nil (w : World) : Ms w [] := fun v hv => by simp at hv
theorem Ms.keep {w w1 : World} {ms : List (Option Addr × Mat)} (h : Ms w ms) (hb : Below w.heap.size w w1) : Ms w1 ms := fun v hv => ((h v hv).keep hb).more hb.size
theorem Ms.ownM {w w1 : World} {ms : List (Option Addr × Mat)} {B c : Nat} {ty : TypeId} {A : Option Addr} {m : Mat} (h : Ms w ms) (ho : OwnsM w1 B ty A (List.length m) c m) (hb : Below w.heap.size w w1) : Ms w1 ((A, m) :: ms) := fun v hv => by
  rcases List.mem_cons.mp hv with rfl | hv
  · exact ho.mat
  · exact h.keep hb v hv
theorem Ms.get {w : World} {ms : List (Option Addr × Mat)} {A : Option Addr} {m : Mat} (h : Ms w ms) (hm : (A, m) ∈ ms) : MatAt w w.heap.size A (List.length m) m := h _ hm
end Go.Proofs.Ytbbcifcdimfdgaa
