/- vec.order, the library's binary search by it, and vec.Of. -/
import Derived.Test.YtkdeiljbjpefhaaDoorVa
import Derived.Test.YtkdeiljbjpefhaaDoorVm
namespace Go.Proofs.YtkdeiljbjpefhaaDoor
open Go.RowKit

/-- The cells of one element, in a world that came behind. -/
theorem VecAt.cells {w wr : World} {B : Nat} {A : Option Addr} {n : Nat} {zs : List At} (h : VecAt w B A n zs) (hb : Below B w wr) {k : Nat} (hk : k < n) :
    ∃ b off, A = some ⟨b, off, none⟩ ∧ b < B ∧ wr.cell? ⟨b, off + k * 2, none⟩ = some (.string (zs.getD k atNil).1) ∧ wr.cell? ⟨b, off + k * 2 + 1, none⟩ = some (.int .i64 (zs.getD k atNil).2) := by
  obtain ⟨b, off, e, hlt, hc⟩ := (h.keep hb).2 (by omega)
  exact ⟨b, off, e, hlt, hc k hk⟩

end Go.Proofs.YtkdeiljbjpefhaaDoor
