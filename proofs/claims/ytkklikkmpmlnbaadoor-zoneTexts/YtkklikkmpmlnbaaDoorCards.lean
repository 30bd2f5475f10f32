/-
  DERIVED. GIVEN WITH THE SEED: THE CARDS: each row of YtkklikkmpmlnbaaDoorRows.lean that lists a variable, with what it lists TIED to the program's text (the seventh form; the later family's looks); each row that meets fmt, with fmt's text TOLD by the authors' own Lean function (tested against real Go, not proved from fmt's source: count such statements apart). THE CARD IS WHAT COUNTS. Prove the row's statement (the work); the ties are given (YtkklikkmpmlnbaaDoorTie.lean); close each card by the builder's one call (the guide's Derived/Test/ToyasCard.lean, 'card_holds'). Laid BY PROGRAM, IN A SANDBOX (cutbox-door.mjs). By AI agents, Wed Nov 11 2026. No macro, syntax, notation, axiom, sorry.
-/
import Derived.Test.YtkklikkmpmlnbaaDoorRows
import GoSem.ClaimSeven
namespace Go.Proofs.YtkklikkmpmlnbaaDoor
namespace Rows

/-- THE TIED CARD OF 'cenotaphlaw05.ZoneRights'. -/
def zoneRightsCard : Claim7 := { stood := { row := zoneRightsRow, standIns := [], harness := (true, "be652870b95f8da3946dee08a8ee27d48d733d0479b8227590be127395168b10"), looks := true }, kinds := [], alts := [], laidByText := true, laidKinds := [.data, .data, .data, .data, .sentinel, .sentinel, .pinned], laidTests := true, laidLooks := .later }
def ZoneRightsCardSaid : Prop := Claim7.holds Tryd.pinned (.plain (OpenSpec.ofChange zoneRightsSpec)) zoneRightsCard

/-- THE TIED CARD OF 'cenotaphlaw05.ZoneHas'. -/
def zoneHasCard : Claim7 := { stood := { row := zoneHasRow, standIns := [], harness := (true, "be652870b95f8da3946dee08a8ee27d48d733d0479b8227590be127395168b10"), looks := true }, kinds := [], alts := [], laidByText := true, laidKinds := [.data, .data, .data, .data, .sentinel, .sentinel, .pinned], laidTests := true, laidLooks := .later }
def ZoneHasCardSaid : Prop := Claim7.holds Tryd.pinned (.plain (OpenSpec.ofChange zoneHasSpec)) zoneHasCard

/-- THE TIED CARD OF 'cenotaphlaw05.ZoneParts'. -/
def zonePartsCard : Claim7 := { stood := { row := zonePartsRow, standIns := [], harness := (true, "be652870b95f8da3946dee08a8ee27d48d733d0479b8227590be127395168b10"), looks := true }, kinds := [], alts := [], laidByText := true, laidKinds := [.data, .data, .data, .data, .sentinel, .sentinel, .pinned], laidTests := true, laidLooks := .later }
def ZonePartsCardSaid : Prop := Claim7.holds Tryd.pinned (.plain (OpenSpec.ofChange zonePartsSpec)) zonePartsCard

/-- THE TIED CARD OF 'cenotaphlaw05.ZoneTexts'. -/
def zoneTextsCard : Claim7 := { stood := { row := zoneTextsRow, standIns := [], harness := (true, "be652870b95f8da3946dee08a8ee27d48d733d0479b8227590be127395168b10"), looks := true }, kinds := [], alts := [], laidByText := true, laidKinds := [.data, .data, .data, .data, .sentinel, .sentinel, .pinned], laidTests := true, laidLooks := .later }
def ZoneTextsCardSaid : Prop := Claim7.holds Tryd.pinned (.plain (OpenSpec.ofChange zoneTextsSpec)) zoneTextsCard

/-- THE TIED CARD OF 'cenotaphlaw05.ZoneLogic'. -/
def zoneLogicCard : Claim7 := { stood := { row := zoneLogicRow, standIns := [], harness := (true, "be652870b95f8da3946dee08a8ee27d48d733d0479b8227590be127395168b10"), looks := true }, kinds := [], alts := [], laidByText := true, laidKinds := [.data, .data, .data, .data, .sentinel, .sentinel, .pinned], laidTests := true, laidLooks := .later }
def ZoneLogicCardSaid : Prop := Claim7.holds Tryd.pinned (.plain (OpenSpec.ofChange zoneLogicSpec)) zoneLogicCard

/-- THE TIED CARD OF 'cenotaphlaw05.ZoneTurns'. -/
def zoneTurnsCard : Claim7 := { stood := { row := zoneTurnsRow, standIns := [], harness := (true, "be652870b95f8da3946dee08a8ee27d48d733d0479b8227590be127395168b10"), looks := true }, kinds := [], alts := [], laidByText := true, laidKinds := [.data, .data, .data, .data, .sentinel, .sentinel, .pinned], laidTests := true, laidLooks := .later }
def ZoneTurnsCardSaid : Prop := Claim7.holds Tryd.pinned (.plain (OpenSpec.ofChange zoneTurnsSpec)) zoneTurnsCard

/-- THE TIED CARD OF 'cenotaphlaw05.ZoneDiscs'. -/
def zoneDiscsCard : Claim7 := { stood := { row := zoneDiscsRow, standIns := [], harness := (true, "be652870b95f8da3946dee08a8ee27d48d733d0479b8227590be127395168b10"), looks := true }, kinds := [], alts := [], laidByText := true, laidKinds := [.data, .data, .data, .data, .sentinel, .sentinel, .pinned], laidTests := true, laidLooks := .later }
def ZoneDiscsCardSaid : Prop := Claim7.holds Tryd.pinned (.plain (OpenSpec.ofChange zoneDiscsSpec)) zoneDiscsCard

/-- THE SECOND FORM's CARD OF 'cenotaphlaw05.ZoneRights'. -/
def zoneRightsUptoCard : Claim7 := { stood := { row := zoneRightsUptoRow, standIns := [], harness := (true, "be652870b95f8da3946dee08a8ee27d48d733d0479b8227590be127395168b10"), looks := true }, kinds := [], alts := [], laidByText := true, laidKinds := [.data, .data, .data, .data, .sentinel, .sentinel, .pinned], laidTests := true, laidLooks := .later }
def ZoneRightsUptoCardSaid : Prop := Claim7.holds Tryd.pinned (.plain (OpenSpec.upto zoneRightsSpec)) zoneRightsUptoCard

/-- THE SECOND FORM's CARD OF 'cenotaphlaw05.ZoneHas'. -/
def zoneHasUptoCard : Claim7 := { stood := { row := zoneHasUptoRow, standIns := [], harness := (true, "be652870b95f8da3946dee08a8ee27d48d733d0479b8227590be127395168b10"), looks := true }, kinds := [], alts := [], laidByText := true, laidKinds := [.data, .data, .data, .data, .sentinel, .sentinel, .pinned], laidTests := true, laidLooks := .later }
def ZoneHasUptoCardSaid : Prop := Claim7.holds Tryd.pinned (.plain (OpenSpec.upto zoneHasSpec)) zoneHasUptoCard

/-- THE SECOND FORM's CARD OF 'cenotaphlaw05.ZoneParts'. -/
def zonePartsUptoCard : Claim7 := { stood := { row := zonePartsUptoRow, standIns := [], harness := (true, "be652870b95f8da3946dee08a8ee27d48d733d0479b8227590be127395168b10"), looks := true }, kinds := [], alts := [], laidByText := true, laidKinds := [.data, .data, .data, .data, .sentinel, .sentinel, .pinned], laidTests := true, laidLooks := .later }
def ZonePartsUptoCardSaid : Prop := Claim7.holds Tryd.pinned (.plain (OpenSpec.upto zonePartsSpec)) zonePartsUptoCard

/-- THE SECOND FORM's CARD OF 'cenotaphlaw05.ZoneTexts'. -/
def zoneTextsUptoCard : Claim7 := { stood := { row := zoneTextsUptoRow, standIns := [], harness := (true, "be652870b95f8da3946dee08a8ee27d48d733d0479b8227590be127395168b10"), looks := true }, kinds := [], alts := [], laidByText := true, laidKinds := [.data, .data, .data, .data, .sentinel, .sentinel, .pinned], laidTests := true, laidLooks := .later }
def ZoneTextsUptoCardSaid : Prop := Claim7.holds Tryd.pinned (.plain (OpenSpec.upto zoneTextsSpec)) zoneTextsUptoCard

/-- THE SECOND FORM's CARD OF 'cenotaphlaw05.ZoneLogic'. -/
def zoneLogicUptoCard : Claim7 := { stood := { row := zoneLogicUptoRow, standIns := [], harness := (true, "be652870b95f8da3946dee08a8ee27d48d733d0479b8227590be127395168b10"), looks := true }, kinds := [], alts := [], laidByText := true, laidKinds := [.data, .data, .data, .data, .sentinel, .sentinel, .pinned], laidTests := true, laidLooks := .later }
def ZoneLogicUptoCardSaid : Prop := Claim7.holds Tryd.pinned (.plain (OpenSpec.upto zoneLogicSpec)) zoneLogicUptoCard

/-- THE SECOND FORM's CARD OF 'cenotaphlaw05.ZoneTurns'. -/
def zoneTurnsUptoCard : Claim7 := { stood := { row := zoneTurnsUptoRow, standIns := [], harness := (true, "be652870b95f8da3946dee08a8ee27d48d733d0479b8227590be127395168b10"), looks := true }, kinds := [], alts := [], laidByText := true, laidKinds := [.data, .data, .data, .data, .sentinel, .sentinel, .pinned], laidTests := true, laidLooks := .later }
def ZoneTurnsUptoCardSaid : Prop := Claim7.holds Tryd.pinned (.plain (OpenSpec.upto zoneTurnsSpec)) zoneTurnsUptoCard

/-- THE SECOND FORM's CARD OF 'cenotaphlaw05.ZoneDiscs'. -/
def zoneDiscsUptoCard : Claim7 := { stood := { row := zoneDiscsUptoRow, standIns := [], harness := (true, "be652870b95f8da3946dee08a8ee27d48d733d0479b8227590be127395168b10"), looks := true }, kinds := [], alts := [], laidByText := true, laidKinds := [.data, .data, .data, .data, .sentinel, .sentinel, .pinned], laidTests := true, laidLooks := .later }
def ZoneDiscsUptoCardSaid : Prop := Claim7.holds Tryd.pinned (.plain (OpenSpec.upto zoneDiscsSpec)) zoneDiscsUptoCard
end Rows
end Go.Proofs.YtkklikkmpmlnbaaDoor
