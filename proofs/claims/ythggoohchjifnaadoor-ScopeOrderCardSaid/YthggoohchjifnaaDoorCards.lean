/-
  DERIVED. GIVEN WITH THE SEED: THE CARDS: each row of YthggoohchjifnaaDoorRows.lean that lists a variable, with what it lists TIED to the program's text (the seventh form; the later family's looks); each row that meets fmt, with fmt's text TOLD by the authors' own Lean function (tested against real Go, not proved from fmt's source: count such statements apart). THE CARD IS WHAT COUNTS. Prove the row's statement (the work); the ties are given (YthggoohchjifnaaDoorTie.lean); close each card by the builder's one call (the guide's Derived/Test/ToyasCard.lean, 'card_holds'). Laid BY PROGRAM, IN A SANDBOX (cutbox-door.mjs). By AI agents, Wed Nov 11 2026. No macro, syntax, notation, axiom, sorry.
-/
import Derived.Test.YthggoohchjifnaaDoorRows
import GoSem.ClaimSeven
namespace Go.Proofs.YthggoohchjifnaaDoor
namespace Rows

/-- THE TIED CARD OF 'tipstavelaw09.ScopeMakes'. -/
def scopeMakesCard : Claim7 := { stood := { row := scopeMakesRow, standIns := [], harness := (true, "b5757ba43fdc7a263e09c8ca67519fedff5cac2ad068981ce82208fcb67c3a5f"), looks := false }, kinds := [], alts := [], laidByText := true, laidKinds := [.data, .pinned], laidTests := true, laidLooks := .later }
def ScopeMakesCardSaid : Prop := Claim7.holds Tryd.pinned (.plain (OpenSpec.ofChange scopeMakesSpec)) scopeMakesCard

/-- THE TIED CARD OF 'tipstavelaw09.ScopeAsks'. -/
def scopeAsksCard : Claim7 := { stood := { row := scopeAsksRow, standIns := [], harness := (true, "b5757ba43fdc7a263e09c8ca67519fedff5cac2ad068981ce82208fcb67c3a5f"), looks := false }, kinds := [], alts := [], laidByText := true, laidKinds := [.data, .pinned], laidTests := true, laidLooks := .later }
def ScopeAsksCardSaid : Prop := Claim7.holds Tryd.pinned (.plain (OpenSpec.ofChange scopeAsksSpec)) scopeAsksCard

/-- THE TIED CARD OF 'tipstavelaw09.ScopeNone'. -/
def scopeNoneCard : Claim7 := { stood := { row := scopeNoneRow, standIns := [], harness := (true, "b5757ba43fdc7a263e09c8ca67519fedff5cac2ad068981ce82208fcb67c3a5f"), looks := false }, kinds := [], alts := [], laidByText := true, laidKinds := [.data, .pinned], laidTests := true, laidLooks := .later }
def ScopeNoneCardSaid : Prop := Claim7.holds Tryd.pinned (.plain (OpenSpec.ofChange scopeNoneSpec)) scopeNoneCard

/-- THE TIED CARD OF 'tipstavelaw09.ScopeGrows'. -/
def scopeGrowsCard : Claim7 := { stood := { row := scopeGrowsRow, standIns := [], harness := (true, "b5757ba43fdc7a263e09c8ca67519fedff5cac2ad068981ce82208fcb67c3a5f"), looks := false }, kinds := [], alts := [], laidByText := true, laidKinds := [.data, .pinned], laidTests := true, laidLooks := .later }
def ScopeGrowsCardSaid : Prop := Claim7.holds Tryd.pinned (.plain (OpenSpec.ofChange scopeGrowsSpec)) scopeGrowsCard

/-- THE TIED CARD OF 'tipstavelaw09.ScopeWords'. -/
def scopeWordsCard : Claim7 := { stood := { row := scopeWordsRow, standIns := [], harness := (true, "b5757ba43fdc7a263e09c8ca67519fedff5cac2ad068981ce82208fcb67c3a5f"), looks := false }, kinds := [], alts := [], laidByText := true, laidKinds := [.data, .pinned], laidTests := true, laidLooks := .later }
def ScopeWordsCardSaid : Prop := Claim7.holds Tryd.pinned (.plain (OpenSpec.ofChange scopeWordsSpec)) scopeWordsCard

/-- THE TIED CARD OF 'tipstavelaw09.ScopeFull'. -/
def scopeFullCard : Claim7 := { stood := { row := scopeFullRow, standIns := [], harness := (true, "b5757ba43fdc7a263e09c8ca67519fedff5cac2ad068981ce82208fcb67c3a5f"), looks := false }, kinds := [], alts := [], laidByText := true, laidKinds := [.data, .pinned], laidTests := true, laidLooks := .later }
def ScopeFullCardSaid : Prop := Claim7.holds Tryd.pinned (.plain (OpenSpec.ofChange scopeFullSpec)) scopeFullCard

/-- THE TIED CARD OF 'tipstavelaw09.ScopeOrder'. -/
def scopeOrderCard : Claim7 := { stood := { row := scopeOrderRow, standIns := [], harness := (true, "b5757ba43fdc7a263e09c8ca67519fedff5cac2ad068981ce82208fcb67c3a5f"), looks := false }, kinds := [], alts := [], laidByText := true, laidKinds := [.data, .pinned], laidTests := true, laidLooks := .later }
def ScopeOrderCardSaid : Prop := Claim7.holds Tryd.pinned (.plain (OpenSpec.ofChange scopeOrderSpec)) scopeOrderCard

/-- THE SECOND FORM's CARD OF 'tipstavelaw09.ScopeMakes'. -/
def scopeMakesUptoCard : Claim7 := { stood := { row := scopeMakesUptoRow, standIns := [], harness := (true, "b5757ba43fdc7a263e09c8ca67519fedff5cac2ad068981ce82208fcb67c3a5f"), looks := false }, kinds := [], alts := [], laidByText := true, laidKinds := [.data, .pinned], laidTests := true, laidLooks := .later }
def ScopeMakesUptoCardSaid : Prop := Claim7.holds Tryd.pinned (.plain (OpenSpec.upto scopeMakesSpec)) scopeMakesUptoCard

/-- THE SECOND FORM's CARD OF 'tipstavelaw09.ScopeAsks'. -/
def scopeAsksUptoCard : Claim7 := { stood := { row := scopeAsksUptoRow, standIns := [], harness := (true, "b5757ba43fdc7a263e09c8ca67519fedff5cac2ad068981ce82208fcb67c3a5f"), looks := false }, kinds := [], alts := [], laidByText := true, laidKinds := [.data, .pinned], laidTests := true, laidLooks := .later }
def ScopeAsksUptoCardSaid : Prop := Claim7.holds Tryd.pinned (.plain (OpenSpec.upto scopeAsksSpec)) scopeAsksUptoCard

/-- THE SECOND FORM's CARD OF 'tipstavelaw09.ScopeNone'. -/
def scopeNoneUptoCard : Claim7 := { stood := { row := scopeNoneUptoRow, standIns := [], harness := (true, "b5757ba43fdc7a263e09c8ca67519fedff5cac2ad068981ce82208fcb67c3a5f"), looks := false }, kinds := [], alts := [], laidByText := true, laidKinds := [.data, .pinned], laidTests := true, laidLooks := .later }
def ScopeNoneUptoCardSaid : Prop := Claim7.holds Tryd.pinned (.plain (OpenSpec.upto scopeNoneSpec)) scopeNoneUptoCard

/-- THE SECOND FORM's CARD OF 'tipstavelaw09.ScopeGrows'. -/
def scopeGrowsUptoCard : Claim7 := { stood := { row := scopeGrowsUptoRow, standIns := [], harness := (true, "b5757ba43fdc7a263e09c8ca67519fedff5cac2ad068981ce82208fcb67c3a5f"), looks := false }, kinds := [], alts := [], laidByText := true, laidKinds := [.data, .pinned], laidTests := true, laidLooks := .later }
def ScopeGrowsUptoCardSaid : Prop := Claim7.holds Tryd.pinned (.plain (OpenSpec.upto scopeGrowsSpec)) scopeGrowsUptoCard

/-- THE SECOND FORM's CARD OF 'tipstavelaw09.ScopeWords'. -/
def scopeWordsUptoCard : Claim7 := { stood := { row := scopeWordsUptoRow, standIns := [], harness := (true, "b5757ba43fdc7a263e09c8ca67519fedff5cac2ad068981ce82208fcb67c3a5f"), looks := false }, kinds := [], alts := [], laidByText := true, laidKinds := [.data, .pinned], laidTests := true, laidLooks := .later }
def ScopeWordsUptoCardSaid : Prop := Claim7.holds Tryd.pinned (.plain (OpenSpec.upto scopeWordsSpec)) scopeWordsUptoCard

/-- THE SECOND FORM's CARD OF 'tipstavelaw09.ScopeFull'. -/
def scopeFullUptoCard : Claim7 := { stood := { row := scopeFullUptoRow, standIns := [], harness := (true, "b5757ba43fdc7a263e09c8ca67519fedff5cac2ad068981ce82208fcb67c3a5f"), looks := false }, kinds := [], alts := [], laidByText := true, laidKinds := [.data, .pinned], laidTests := true, laidLooks := .later }
def ScopeFullUptoCardSaid : Prop := Claim7.holds Tryd.pinned (.plain (OpenSpec.upto scopeFullSpec)) scopeFullUptoCard

/-- THE SECOND FORM's CARD OF 'tipstavelaw09.ScopeOrder'. -/
def scopeOrderUptoCard : Claim7 := { stood := { row := scopeOrderUptoRow, standIns := [], harness := (true, "b5757ba43fdc7a263e09c8ca67519fedff5cac2ad068981ce82208fcb67c3a5f"), looks := false }, kinds := [], alts := [], laidByText := true, laidKinds := [.data, .pinned], laidTests := true, laidLooks := .later }
def ScopeOrderUptoCardSaid : Prop := Claim7.holds Tryd.pinned (.plain (OpenSpec.upto scopeOrderSpec)) scopeOrderUptoCard
end Rows
end Go.Proofs.YthggoohchjifnaaDoor
