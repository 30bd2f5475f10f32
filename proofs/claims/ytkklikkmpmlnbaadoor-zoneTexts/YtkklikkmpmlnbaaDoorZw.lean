/- From what the rows list of the library's variables to what the walks ask; a world for the witnesses. -/
import Derived.Test.YtkklikkmpmlnbaaDoorRows
import Derived.Test.YtkklikkmpmlnbaaDoorZe
import Derived.MakeChecks
import Derived.LaidMore
import Derived.Stop.LaidErr
import Derived.Shelf.Vars
import Derived.Lib.LaidTab
namespace Go.Proofs.YtkklikkmpmlnbaaDoor
open Go.RowKit

theorem starE : "*" ++ "errors.errorString" = "*errors.errorString" := by decide
theorem rowEP (u : TypeId) (h : Tryd.prog.typeName? 3 u = some "*errors.errorString") : u = 140 :=
  typeName_ptr_named (nm := "errors.errorString") (by rw [starE]; kernel_rfl) (by kernel_rfl) (by decide) u (by rw [starE]; exact h)
def laidL : List (String × DataW Unit) := Rows.zoneRightsRow.laid
theorem glob_of {W : World} (h : laidMetH Tryd.prog laidL W) (hS : W.ShapedOpen Tryd.prog) : Glob W := by
  rw [MakeChecks.laidMetH_plain _ _ _ (by kernel_rfl)] at h
  have hT : Lib.TabIs Tryd.prog W "internal/strconv.uint64pow10" .u64 Lib.pow10Tab :=
    Lib.tabIs_of_head (show Tryd.prog.globalNamed "internal/strconv.uint64pow10" = some 6 by kernel_rfl) (show (Tryd.prog.globals[6]?).map (·.type) = some 135 by kernel_rfl) Tryd.underlying135 Tryd.underlying56 (by kernel_rfl) (by kernel_rfl) (show laidMet Tryd.prog (("internal/strconv.uint64pow10", Lib.tabData .u64 Lib.pow10Tab) :: _) W from h.tail.tail)
  obtain ⟨a1, s1, hr, _⟩ := laid_sentinel h.tail.tail.tail.tail (show Tryd.prog.globalNamed "strconv.ErrRange" = some 5 by kernel_rfl) (show (Tryd.prog.globals[5]?).map (·.type) = some 86 by kernel_rfl) Tryd.underlying86 rowEP Tryd.underlying140 Tryd.underlying142 rfl rfl Tryd.underlying9 (by kernel_rfl) (by kernel_rfl)
  obtain ⟨a2, s2, hs, _⟩ := laid_sentinel h.tail.tail.tail.tail.tail (show Tryd.prog.globalNamed "strconv.ErrSyntax" = some 4 by kernel_rfl) (show (Tryd.prog.globals[4]?).map (·.type) = some 86 by kernel_rfl) Tryd.underlying86 rowEP Tryd.underlying140 Tryd.underlying142 rfl rfl Tryd.underlying9 (by kernel_rfl) (by kernel_rfl)
  refine ⟨?_, ?_, ⟨_, _, hs⟩, ⟨_, _, hr⟩, hT⟩
  · have h6 : W.cell? ⟨6, 0, none⟩ = some (.int .u64 1) := by
      have := hT.cell (show Tryd.prog.globalNamed "internal/strconv.uint64pow10" = some 6 by kernel_rfl) 0 (by decide)
      exact this
    exact World.block_lt_of_cell? W _ h6
  · exact cell_of_shapedOpen_int (zero := #[.int .i64 0]) (t := 3) hS (of_decide_eq_true (by kernel_rfl)) (by kernel_rfl) rfl (by kernel_rfl) (by kernel_rfl) Tryd.underlying3
/-- A world for the witnesses: what the program's own initialisers lay, and the library's table beside it. -/
noncomputable def laidWorld (os : Os) : World :=
  { World.doorLaid Tryd.prog 100 os with heap := (World.doorLaid Tryd.prog 100 os).heap.modify 2 fun
      | .cells _ t f => .cells (Go.Pinned.utf8FirstZ.map fun (n : Nat) => Value.int .u8 (n : Int)).toArray t f
      | o => o }
set_option maxRecDepth 100000 in
theorem laid_met (os : Os) (args : Array Value) : laidMet Tryd.prog laidL ((laidWorld os).forCall (fun _ _ => 0) ⟨#[], args, []⟩).memory :=
  laidMet_of_run' 8 (by kernel_rfl) (by kernel_rfl)
end Go.Proofs.YtkklikkmpmlnbaaDoor
