/-
  DERIVED. GIVEN WITH THE SEED: THE CARDS: each row of YtkdeiljbjpefhaaDoorRows.lean that lists a variable, with what it lists TIED to the program's text (the seventh form; the later family's looks); each row that meets fmt, with fmt's text TOLD by the authors' own Lean function (tested against real Go, not proved from fmt's source: count such statements apart). THE CARD IS WHAT COUNTS. Prove the row's statement (the work); the ties are given (YtkdeiljbjpefhaaDoorTie.lean); close each card by the builder's one call (the guide's Derived/Test/ToyasCard.lean, 'card_holds'). Laid BY PROGRAM, IN A SANDBOX (cutbox-door.mjs). By AI agents, Wed Nov 11 2026. No macro, syntax, notation, axiom, sorry.
-/
import Derived.Test.YtkdeiljbjpefhaaDoorRows
import GoSem.ClaimSeven
namespace Go.Proofs.YtkdeiljbjpefhaaDoor
namespace Rows

/-- THE TIED CARD OF 'cenotaphlaw01.IdLists'. -/
def idListsCard : Claim7 := { stood := { row := idListsRow, standIns := [], harness := (true, "d7b6cd64ab17b4f189aec3bce5b14496c52ac2290455de5b641e9ea076f7ff65"), looks := false }, kinds := [], alts := [], laidByText := true, laidKinds := [.data, .data, .data], laidTests := true, laidLooks := .later }
def IdListsCardSaid : Prop := Claim7.holds Tryd.pinned (.plain (OpenSpec.ofChange idListsSpec)) idListsCard

/-- THE SECOND FORM's CARD OF 'cenotaphlaw01.IdLists'. -/
def idListsUptoCard : Claim7 := { stood := { row := idListsUptoRow, standIns := [], harness := (true, "d7b6cd64ab17b4f189aec3bce5b14496c52ac2290455de5b641e9ea076f7ff65"), looks := false }, kinds := [], alts := [], laidByText := true, laidKinds := [.data, .data, .data], laidTests := true, laidLooks := .later }
def IdListsUptoCardSaid : Prop := Claim7.holds Tryd.pinned (.plain (OpenSpec.upto idListsSpec)) idListsUptoCard
end Rows
end Go.Proofs.YtkdeiljbjpefhaaDoor
