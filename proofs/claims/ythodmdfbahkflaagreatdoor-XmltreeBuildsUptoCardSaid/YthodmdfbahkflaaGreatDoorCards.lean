/-
  DERIVED. GIVEN WITH THE SEED: THE CARDS: each row of YthodmdfbahkflaaGreatDoorRows.lean that lists a variable, with what it lists TIED to the program's text (the seventh form; the later family's looks); each row that meets fmt, with fmt's text TOLD by the authors' own Lean function (tested against real Go, not proved from fmt's source: count such statements apart). THE CARD IS WHAT COUNTS. Prove the row's statement (the work); the ties are given (YthodmdfbahkflaaGreatDoorTie.lean); close each card by the builder's one call (the guide's Derived/Test/ToyasCard.lean, 'card_holds'). Laid BY PROGRAM, IN A SANDBOX (cutbox-door.mjs). By AI agents, Wed Nov 11 2026. No macro, syntax, notation, axiom, sorry.
-/
import Derived.Test.YthodmdfbahkflaaGreatDoorRows
import GoSem.ClaimSeven
namespace Go.Proofs.YthodmdfbahkflaaGreatDoor
namespace Rows

/-- THE TIED CARD OF 'tipstavelaw05.XmltreeBuilds'. -/
def xmltreeBuildsCard : Claim7 := { stood := { row := xmltreeBuildsRow, standIns := [], harness := (true, "52d3f499698a67a0a25d93de8cc4a75f029caec477cc5afa3ef90da485c2ce47"), looks := true }, kinds := [], alts := [], laidByText := true, laidKinds := [.data, .data, .data, .data, .sentinel, .sentinel, .pinned], laidTests := true, laidLooks := .later }
def XmltreeBuildsCardSaid : Prop := Claim7.holds Tryz.pinned (.plain (OpenSpec.ofChange xmltreeBuildsSpec)) xmltreeBuildsCard

/-- THE SECOND FORM's CARD OF 'tipstavelaw05.XmltreeBuilds'. -/
def xmltreeBuildsUptoCard : Claim7 := { stood := { row := xmltreeBuildsUptoRow, standIns := [], harness := (true, "52d3f499698a67a0a25d93de8cc4a75f029caec477cc5afa3ef90da485c2ce47"), looks := true }, kinds := [], alts := [], laidByText := true, laidKinds := [.data, .data, .data, .data, .sentinel, .sentinel, .pinned], laidTests := true, laidLooks := .later }
def XmltreeBuildsUptoCardSaid : Prop := Claim7.holds Tryz.pinned (.plain (OpenSpec.upto xmltreeBuildsSpec)) xmltreeBuildsUptoCard
end Rows
end Go.Proofs.YthodmdfbahkflaaGreatDoor
