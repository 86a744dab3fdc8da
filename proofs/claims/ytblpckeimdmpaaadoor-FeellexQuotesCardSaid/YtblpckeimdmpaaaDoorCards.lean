/-
  DERIVED. GIVEN WITH THE SEED: THE CARDS: each row of YtblpckeimdmpaaaDoorRows.lean that lists a variable, with what it lists TIED to the program's text (the seventh form; the later family's looks); each row that meets fmt, with fmt's text TOLD by the authors' own Lean function (tested against real Go, not proved from fmt's source: count such statements apart). THE CARD IS WHAT COUNTS. Prove the row's statement (the work); the ties are given (YtblpckeimdmpaaaDoorTie.lean); close each card by the builder's one call (the guide's Derived/Test/ToyasCard.lean, 'card_holds'). Laid BY PROGRAM, IN A SANDBOX (cutbox-door.mjs). By AI agents, Wed Nov 11 2026. No macro, syntax, notation, axiom, sorry.
-/
import Derived.Test.YtblpckeimdmpaaaDoorRows
import GoSem.ClaimSeven
namespace Go.Proofs.YtblpckeimdmpaaaDoor
namespace Rows

/-- THE TIED CARD OF 'tipstavelaw08.FeellexQuotes'. -/
def feellexQuotesCard : Claim7 := { stood := { row := feellexQuotesRow, standIns := [], harness := (true, "d57f0c82cf1cb044cb423847ec00d4b070364f8fe95541719d821af7a11d7ce0"), looks := true }, kinds := [], alts := [], laidByText := true, laidKinds := [.data, .data, .data, .sentinel, .sentinel, .data], laidTests := true, laidLooks := .later }
def FeellexQuotesCardSaid : Prop := Claim7.holds Tryd.pinned (.plain (OpenSpec.ofChange feellexQuotesSpec)) feellexQuotesCard

/-- THE TIED CARD OF 'tipstavelaw08.FeellexJoins'. -/
def feellexJoinsCard : Claim7 := { stood := { row := feellexJoinsRow, standIns := [], harness := (true, "d57f0c82cf1cb044cb423847ec00d4b070364f8fe95541719d821af7a11d7ce0"), looks := true }, kinds := [], alts := [], laidByText := true, laidKinds := [.data, .data, .data, .sentinel, .sentinel, .data], laidTests := true, laidLooks := .later }
def FeellexJoinsCardSaid : Prop := Claim7.holds Tryd.pinned (.plain (OpenSpec.ofChange feellexJoinsSpec)) feellexJoinsCard

/-- THE TIED CARD OF 'tipstavelaw08.FeellexSigns'. -/
def feellexSignsCard : Claim7 := { stood := { row := feellexSignsRow, standIns := [], harness := (true, "d57f0c82cf1cb044cb423847ec00d4b070364f8fe95541719d821af7a11d7ce0"), looks := true }, kinds := [], alts := [], laidByText := true, laidKinds := [.data, .data, .data, .sentinel, .sentinel, .data], laidTests := true, laidLooks := .later }
def FeellexSignsCardSaid : Prop := Claim7.holds Tryd.pinned (.plain (OpenSpec.ofChange feellexSignsSpec)) feellexSignsCard

/-- THE SECOND FORM's CARD OF 'tipstavelaw08.FeellexQuotes'. -/
def feellexQuotesUptoCard : Claim7 := { stood := { row := feellexQuotesUptoRow, standIns := [], harness := (true, "d57f0c82cf1cb044cb423847ec00d4b070364f8fe95541719d821af7a11d7ce0"), looks := true }, kinds := [], alts := [], laidByText := true, laidKinds := [.data, .data, .data, .sentinel, .sentinel, .data], laidTests := true, laidLooks := .later }
def FeellexQuotesUptoCardSaid : Prop := Claim7.holds Tryd.pinned (.plain (OpenSpec.upto feellexQuotesSpec)) feellexQuotesUptoCard

/-- THE SECOND FORM's CARD OF 'tipstavelaw08.FeellexJoins'. -/
def feellexJoinsUptoCard : Claim7 := { stood := { row := feellexJoinsUptoRow, standIns := [], harness := (true, "d57f0c82cf1cb044cb423847ec00d4b070364f8fe95541719d821af7a11d7ce0"), looks := true }, kinds := [], alts := [], laidByText := true, laidKinds := [.data, .data, .data, .sentinel, .sentinel, .data], laidTests := true, laidLooks := .later }
def FeellexJoinsUptoCardSaid : Prop := Claim7.holds Tryd.pinned (.plain (OpenSpec.upto feellexJoinsSpec)) feellexJoinsUptoCard

/-- THE SECOND FORM's CARD OF 'tipstavelaw08.FeellexSigns'. -/
def feellexSignsUptoCard : Claim7 := { stood := { row := feellexSignsUptoRow, standIns := [], harness := (true, "d57f0c82cf1cb044cb423847ec00d4b070364f8fe95541719d821af7a11d7ce0"), looks := true }, kinds := [], alts := [], laidByText := true, laidKinds := [.data, .data, .data, .sentinel, .sentinel, .data], laidTests := true, laidLooks := .later }
def FeellexSignsUptoCardSaid : Prop := Claim7.holds Tryd.pinned (.plain (OpenSpec.upto feellexSignsSpec)) feellexSignsUptoCard
end Rows
end Go.Proofs.YtblpckeimdmpaaaDoor
