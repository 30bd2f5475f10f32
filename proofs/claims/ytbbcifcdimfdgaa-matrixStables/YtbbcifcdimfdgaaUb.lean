/- slices.Grow and Concat over rows of ids. -/
import Derived.Test.YtbbcifcdimfdgaaUa
import Derived.Lib.AppendZerosOnto
import Derived.Lib.SliceRun
namespace Go.Proofs.Ytbbcifcdimfdgaa
open Go.RowKit

/-- A row of the call's own, empty, with room. -/
def EmptyRowT (w : World) (e : Ending) (w' : World) : Prop := ∃ A c, e = .returned (.slice A 0 c) ∧ w'.ownsRow w.heap.size 35 1 (.slice A 0 c) 0 (rowCells cellsT []) ∧ Below w.heap.size w w'

/-- A part of what is put together: where it lies, its room, its items. -/
structure PartT where
  A : Option Addr
  c : Nat
  zs : List ByteArray
def allT (ps : List PartT) : List ByteArray := ps.flatMap (·.zs)
theorem allT_take (ps : List PartT) (k : Nat) (h : k < ps.length) : allT (ps.take (k + 1)) = allT (ps.take k) ++ ps[k].zs := by
  unfold allT
  rw [List.take_succ_eq_append_getElem h, List.flatMap_append]
  simp
theorem allT_le (ps : List PartT) (k : Nat) : (allT (ps.take k)).length ≤ (allT ps).length := by
  conv => rhs; rw [← List.take_append_drop k ps]
  unfold allT
  rw [List.flatMap_append, List.length_append]
  omega

end Go.Proofs.Ytbbcifcdimfdgaa
