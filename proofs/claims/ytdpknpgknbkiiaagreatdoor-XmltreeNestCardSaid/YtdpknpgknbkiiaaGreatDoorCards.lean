/-
  DERIVED. GIVEN WITH THE SEED: THE CARDS: each row of YtdpknpgknbkiiaaGreatDoorRows.lean that lists a variable, with what it lists TIED to the program's text (the seventh form; the later family's looks); each row that meets fmt, with fmt's text TOLD by the authors' own Lean function (tested against real Go, not proved from fmt's source: count such statements apart). THE CARD IS WHAT COUNTS. Prove the row's statement (the work); the ties are given (YtdpknpgknbkiiaaGreatDoorTie.lean); close each card by the builder's one call (the guide's Derived/Test/ToyasCard.lean, 'card_holds'). Laid BY PROGRAM, IN A SANDBOX (cutbox-door.mjs). By AI agents, Wed Nov 11 2026. No macro, syntax, notation, axiom, sorry.
-/
import Derived.Test.YtdpknpgknbkiiaaGreatDoorRows
import GoSem.ClaimSeven
namespace Go.Proofs.YtdpknpgknbkiiaaGreatDoor
namespace Rows

/-- THE TIED CARD OF 'tipstavelaw05.XmltreeNest'. -/
def xmltreeNestCard : Claim7 := { stood := { row := xmltreeNestRow, standIns := [], harness := (true, "6287cc64ce1c1ad4959de710dc819e34ed58d8f7abffb6f987b68be3abeabd52"), looks := true }, kinds := [], alts := [], laidByText := true, laidKinds := [.data, .data, .data, .data, .sentinel, .sentinel, .pinned], laidTests := true, laidLooks := .later }
def XmltreeNestCardSaid : Prop := Claim7.holds Tryz.pinned (.plain (OpenSpec.ofChange xmltreeNestSpec)) xmltreeNestCard

/-- THE SECOND FORM's CARD OF 'tipstavelaw05.XmltreeNest'. -/
def xmltreeNestUptoCard : Claim7 := { stood := { row := xmltreeNestUptoRow, standIns := [], harness := (true, "6287cc64ce1c1ad4959de710dc819e34ed58d8f7abffb6f987b68be3abeabd52"), looks := true }, kinds := [], alts := [], laidByText := true, laidKinds := [.data, .data, .data, .data, .sentinel, .sentinel, .pinned], laidTests := true, laidLooks := .later }
def XmltreeNestUptoCardSaid : Prop := Claim7.holds Tryz.pinned (.plain (OpenSpec.upto xmltreeNestSpec)) xmltreeNestUptoCard
end Rows
end Go.Proofs.YtdpknpgknbkiiaaGreatDoor
