/-
  DERIVED. GIVEN WITH THE SEED: THE CARDS: each row of YthplmnoalanhjaaDoorRows.lean that lists a variable, with what it lists TIED to the program's text (the seventh form; the later family's looks); each row that meets fmt, with fmt's text TOLD by the authors' own Lean function (tested against real Go, not proved from fmt's source: count such statements apart). THE CARD IS WHAT COUNTS. Prove the row's statement (the work); the ties are given (YthplmnoalanhjaaDoorTie.lean); close each card by the builder's one call (the guide's Derived/Test/ToyasCard.lean, 'card_holds'). Laid BY PROGRAM, IN A SANDBOX (cutbox-door.mjs). By AI agents, Wed Nov 11 2026. No macro, syntax, notation, axiom, sorry.
-/
import Derived.Test.YthplmnoalanhjaaDoorRows
import GoSem.ClaimSeven
namespace Go.Proofs.YthplmnoalanhjaaDoor
namespace Rows

/-- THE TIED CARD OF 'cenotaphlaw01.IdNames'. -/
def idNamesCard : Claim7 := { stood := { row := idNamesRow, standIns := [], harness := (true, "6a3dfbe05656c6aaf9f6ebc8d1b87c1351358b27a8c9875d9a78413bdf99f9a9"), looks := false }, kinds := [], alts := [], laidByText := true, laidKinds := [.data, .data, .data], laidTests := true, laidLooks := .later }
def IdNamesCardSaid : Prop := Claim7.holds Tryd.pinned (.plain (OpenSpec.ofChange idNamesSpec)) idNamesCard

/-- THE TIED CARD OF 'cenotaphlaw01.IdChilds'. -/
def idChildsCard : Claim7 := { stood := { row := idChildsRow, standIns := [], harness := (true, "6a3dfbe05656c6aaf9f6ebc8d1b87c1351358b27a8c9875d9a78413bdf99f9a9"), looks := false }, kinds := [], alts := [], laidByText := true, laidKinds := [.data, .data, .data], laidTests := true, laidLooks := .later }
def IdChildsCardSaid : Prop := Claim7.holds Tryd.pinned (.plain (OpenSpec.ofChange idChildsSpec)) idChildsCard

/-- THE TIED CARD OF 'cenotaphlaw01.IdOrders'. -/
def idOrdersCard : Claim7 := { stood := { row := idOrdersRow, standIns := [], harness := (true, "6a3dfbe05656c6aaf9f6ebc8d1b87c1351358b27a8c9875d9a78413bdf99f9a9"), looks := false }, kinds := [], alts := [], laidByText := true, laidKinds := [.data, .data, .data], laidTests := true, laidLooks := .later }
def IdOrdersCardSaid : Prop := Claim7.holds Tryd.pinned (.plain (OpenSpec.ofChange idOrdersSpec)) idOrdersCard

/-- THE TIED CARD OF 'cenotaphlaw01.IdLists'. -/
def idListsCard : Claim7 := { stood := { row := idListsRow, standIns := [], harness := (true, "6a3dfbe05656c6aaf9f6ebc8d1b87c1351358b27a8c9875d9a78413bdf99f9a9"), looks := false }, kinds := [], alts := [], laidByText := true, laidKinds := [.data, .data, .data], laidTests := true, laidLooks := .later }
def IdListsCardSaid : Prop := Claim7.holds Tryd.pinned (.plain (OpenSpec.ofChange idListsSpec)) idListsCard

/-- THE TIED CARD OF 'cenotaphlaw01.IdParents'. -/
def idParentsCard : Claim7 := { stood := { row := idParentsRow, standIns := [], harness := (true, "6a3dfbe05656c6aaf9f6ebc8d1b87c1351358b27a8c9875d9a78413bdf99f9a9"), looks := false }, kinds := [], alts := [], laidByText := true, laidKinds := [.data, .data, .data], laidTests := true, laidLooks := .later }
def IdParentsCardSaid : Prop := Claim7.holds Tryd.pinned (.plain (OpenSpec.ofChange idParentsSpec)) idParentsCard

/-- THE TIED CARD OF 'cenotaphlaw01.IdAboves'. -/
def idAbovesCard : Claim7 := { stood := { row := idAbovesRow, standIns := [], harness := (true, "6a3dfbe05656c6aaf9f6ebc8d1b87c1351358b27a8c9875d9a78413bdf99f9a9"), looks := false }, kinds := [], alts := [], laidByText := true, laidKinds := [.data, .data, .data], laidTests := true, laidLooks := .later }
def IdAbovesCardSaid : Prop := Claim7.holds Tryd.pinned (.plain (OpenSpec.ofChange idAbovesSpec)) idAbovesCard

/-- THE SECOND FORM's CARD OF 'cenotaphlaw01.IdNames'. -/
def idNamesUptoCard : Claim7 := { stood := { row := idNamesUptoRow, standIns := [], harness := (true, "6a3dfbe05656c6aaf9f6ebc8d1b87c1351358b27a8c9875d9a78413bdf99f9a9"), looks := false }, kinds := [], alts := [], laidByText := true, laidKinds := [.data, .data, .data], laidTests := true, laidLooks := .later }
def IdNamesUptoCardSaid : Prop := Claim7.holds Tryd.pinned (.plain (OpenSpec.upto idNamesSpec)) idNamesUptoCard

/-- THE SECOND FORM's CARD OF 'cenotaphlaw01.IdChilds'. -/
def idChildsUptoCard : Claim7 := { stood := { row := idChildsUptoRow, standIns := [], harness := (true, "6a3dfbe05656c6aaf9f6ebc8d1b87c1351358b27a8c9875d9a78413bdf99f9a9"), looks := false }, kinds := [], alts := [], laidByText := true, laidKinds := [.data, .data, .data], laidTests := true, laidLooks := .later }
def IdChildsUptoCardSaid : Prop := Claim7.holds Tryd.pinned (.plain (OpenSpec.upto idChildsSpec)) idChildsUptoCard

/-- THE SECOND FORM's CARD OF 'cenotaphlaw01.IdOrders'. -/
def idOrdersUptoCard : Claim7 := { stood := { row := idOrdersUptoRow, standIns := [], harness := (true, "6a3dfbe05656c6aaf9f6ebc8d1b87c1351358b27a8c9875d9a78413bdf99f9a9"), looks := false }, kinds := [], alts := [], laidByText := true, laidKinds := [.data, .data, .data], laidTests := true, laidLooks := .later }
def IdOrdersUptoCardSaid : Prop := Claim7.holds Tryd.pinned (.plain (OpenSpec.upto idOrdersSpec)) idOrdersUptoCard

/-- THE SECOND FORM's CARD OF 'cenotaphlaw01.IdLists'. -/
def idListsUptoCard : Claim7 := { stood := { row := idListsUptoRow, standIns := [], harness := (true, "6a3dfbe05656c6aaf9f6ebc8d1b87c1351358b27a8c9875d9a78413bdf99f9a9"), looks := false }, kinds := [], alts := [], laidByText := true, laidKinds := [.data, .data, .data], laidTests := true, laidLooks := .later }
def IdListsUptoCardSaid : Prop := Claim7.holds Tryd.pinned (.plain (OpenSpec.upto idListsSpec)) idListsUptoCard

/-- THE SECOND FORM's CARD OF 'cenotaphlaw01.IdParents'. -/
def idParentsUptoCard : Claim7 := { stood := { row := idParentsUptoRow, standIns := [], harness := (true, "6a3dfbe05656c6aaf9f6ebc8d1b87c1351358b27a8c9875d9a78413bdf99f9a9"), looks := false }, kinds := [], alts := [], laidByText := true, laidKinds := [.data, .data, .data], laidTests := true, laidLooks := .later }
def IdParentsUptoCardSaid : Prop := Claim7.holds Tryd.pinned (.plain (OpenSpec.upto idParentsSpec)) idParentsUptoCard

/-- THE SECOND FORM's CARD OF 'cenotaphlaw01.IdAboves'. -/
def idAbovesUptoCard : Claim7 := { stood := { row := idAbovesUptoRow, standIns := [], harness := (true, "6a3dfbe05656c6aaf9f6ebc8d1b87c1351358b27a8c9875d9a78413bdf99f9a9"), looks := false }, kinds := [], alts := [], laidByText := true, laidKinds := [.data, .data, .data], laidTests := true, laidLooks := .later }
def IdAbovesUptoCardSaid : Prop := Claim7.holds Tryd.pinned (.plain (OpenSpec.upto idAbovesSpec)) idAbovesUptoCard
end Rows
end Go.Proofs.YthplmnoalanhjaaDoor
