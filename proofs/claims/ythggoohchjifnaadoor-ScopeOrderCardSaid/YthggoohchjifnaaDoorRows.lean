/-
  NARROWER THAN 'FOR EVERY INPUT', by the rows' own cells (each row's printed sentence says how): ScopeMakes: laid · ScopeAsks: laid · ScopeNone: laid · ScopeGrows: laid · ScopeWords: laid · ScopeFull: laid · ScopeOrder: laid.
  DERIVED. THE GIVEN ROWS OF THIS SEAT. 7 by the template 'for every input the law returns true; each argument reads behind the call as it read before'; 0 by the template 'total and deterministic' (their statements: YthggoohchjifnaaDoorTotals.lean).
  GIVEN WITH THE SEED: the statements are not yours to turn. If you find one false, say at which input.
  Laid BY PROGRAM, IN A SANDBOX (cutbox-rows.mjs): the forced cells as the released guide's own fill.sh prints them over the translation c6284f717f7a7a67… (all of the seat's roots in one cut). By AI agents, Wed Nov 11 2026. No macro, syntax, notation, axiom, sorry.
-/
import Derived.Test.YthggoohchjifnaaDoorChecked
import GoSem.PinnedTables
import GoSem.Claim
import GoSem.ClaimJoined
import GoSem.ClaimMapViews
import Derived.JoinedTies
import Derived.KernelRfl
namespace Go.Proofs.YthggoohchjifnaaDoor
/- THE CELL 'sum', in the pinned program and in every row, IS THE sha256 OF THE DUMP (.gsa) THAT YthggoohchjifnaaDoorProg.lean LOADS. Nothing in Lean hashes anything: it is a label: what it is worth is what the hold of that sum in a sandbox is worth. -/
noncomputable def Tryd.pinned : Pinned := { name := "ythggoohchjifnaadoor", sum := "c6284f717f7a7a67967be5a808727e7dd517065290f0edf9929de2e5801d5ac0", checked := Tryd.checked }
namespace Rows
def none {H : Type} : Left H := { results := [], args := [] }

/- WHAT THE LISTED PACKAGE-LEVEL VARIABLES READ AS WHEN THE CALL BEGINS. Each datum BY PROGRAM (the guide's laid-datum.mjs) off the statement by which the dump's own 'gosem.cut.vars' lays the variable. In a bare row this is a premise. The card (YthggoohchjifnaaDoorCards.lean) ties it to the program's text. -/
def laid_unicode_utf8_acceptRanges {H : Type} : DataW H := .agg [.agg [.lit (.int .u8 128), .lit (.int .u8 191)], .agg [.lit (.int .u8 160), .lit (.int .u8 191)], .agg [.lit (.int .u8 128), .lit (.int .u8 159)], .agg [.lit (.int .u8 144), .lit (.int .u8 191)], .agg [.lit (.int .u8 128), .lit (.int .u8 143)], .agg [.lit (.int .u8 0), .lit (.int .u8 0)], .agg [.lit (.int .u8 0), .lit (.int .u8 0)], .agg [.lit (.int .u8 0), .lit (.int .u8 0)], .agg [.lit (.int .u8 0), .lit (.int .u8 0)], .agg [.lit (.int .u8 0), .lit (.int .u8 0)], .agg [.lit (.int .u8 0), .lit (.int .u8 0)], .agg [.lit (.int .u8 0), .lit (.int .u8 0)], .agg [.lit (.int .u8 0), .lit (.int .u8 0)], .agg [.lit (.int .u8 0), .lit (.int .u8 0)], .agg [.lit (.int .u8 0), .lit (.int .u8 0)], .agg [.lit (.int .u8 0), .lit (.int .u8 0)]]
/-- One of Go's own tables, pinned by name: the form's constant. -/
def laid_unicode_utf8_first : DataW Unit := Go.Pinned.utf8First

/-- 'tipstavelaw09.ScopeMakes': WHATEVER THE INPUT: true; the input reads as it did. -/
def scopeMakesSpec : ChangeSpec := { name := "scopeMakes", fn := fun _ => fun
  | [d1, d2] => { results := [.lit (.bool true)], args := [d1, d2] }
  | _ => none }
def scopeMakesRow : OpenClaim := { program := "ythggoohchjifnaadoor", sum := "c6284f717f7a7a67967be5a808727e7dd517065290f0edf9929de2e5801d5ac0", func := "tipstave/tipstavelaw09.ScopeMakes", spec := "scopeMakes", inPlace := ["internal/bytealg.IndexByteString", "internal/bytealg.IndexString"], unfollowed := true, recurses := true, named := ["unicode/utf8.first", "unicode/utf8.acceptRanges", "internal/bytealg.MaxLen"], apart := false, laid := [("unicode/utf8.acceptRanges", laid_unicode_utf8_acceptRanges), ("unicode/utf8.first", laid_unicode_utf8_first)] }
def ScopeMakesSaid : Prop := scopeMakesRow.holds Tryd.pinned (OpenSpec.ofChange scopeMakesSpec)

/-- ITS FALSE NEIGHBOUR: 'it returns false'. Refute it at one input. -/
def scopeMakesWrong : ChangeSpec := { name := "scopeMakes", fn := fun _ => fun
  | [d1, d2] => { results := [.lit (.bool false)], args := [d1, d2] }
  | _ => none }
def ScopeMakesWrongFalsely : Prop := scopeMakesRow.holds Tryd.pinned (OpenSpec.ofChange scopeMakesWrong)

/-- 'tipstavelaw09.ScopeAsks': WHATEVER THE INPUT: true; the input reads as it did. -/
def scopeAsksSpec : ChangeSpec := { name := "scopeAsks", fn := fun _ => fun
  | [d1, d2, d3] => { results := [.lit (.bool true)], args := [d1, d2, d3] }
  | _ => none }
def scopeAsksRow : OpenClaim := { program := "ythggoohchjifnaadoor", sum := "c6284f717f7a7a67967be5a808727e7dd517065290f0edf9929de2e5801d5ac0", func := "tipstave/tipstavelaw09.ScopeAsks", spec := "scopeAsks", inPlace := ["internal/bytealg.IndexByteString", "internal/bytealg.IndexString"], unfollowed := true, recurses := true, named := ["unicode/utf8.first", "unicode/utf8.acceptRanges", "internal/bytealg.MaxLen"], apart := false, laid := [("unicode/utf8.acceptRanges", laid_unicode_utf8_acceptRanges), ("unicode/utf8.first", laid_unicode_utf8_first)] }
def ScopeAsksSaid : Prop := scopeAsksRow.holds Tryd.pinned (OpenSpec.ofChange scopeAsksSpec)

/-- ITS FALSE NEIGHBOUR: 'it returns false'. Refute it at one input. -/
def scopeAsksWrong : ChangeSpec := { name := "scopeAsks", fn := fun _ => fun
  | [d1, d2, d3] => { results := [.lit (.bool false)], args := [d1, d2, d3] }
  | _ => none }
def ScopeAsksWrongFalsely : Prop := scopeAsksRow.holds Tryd.pinned (OpenSpec.ofChange scopeAsksWrong)

/-- 'tipstavelaw09.ScopeNone': WHATEVER THE INPUT: true; the input reads as it did. -/
def scopeNoneSpec : ChangeSpec := { name := "scopeNone", fn := fun _ => fun
  | [d1, d2] => { results := [.lit (.bool true)], args := [d1, d2] }
  | _ => none }
def scopeNoneRow : OpenClaim := { program := "ythggoohchjifnaadoor", sum := "c6284f717f7a7a67967be5a808727e7dd517065290f0edf9929de2e5801d5ac0", func := "tipstave/tipstavelaw09.ScopeNone", spec := "scopeNone", inPlace := ["internal/bytealg.IndexByteString", "internal/bytealg.IndexString"], unfollowed := true, recurses := true, named := ["unicode/utf8.first", "unicode/utf8.acceptRanges", "internal/bytealg.MaxLen"], apart := false, laid := [("unicode/utf8.acceptRanges", laid_unicode_utf8_acceptRanges), ("unicode/utf8.first", laid_unicode_utf8_first)] }
def ScopeNoneSaid : Prop := scopeNoneRow.holds Tryd.pinned (OpenSpec.ofChange scopeNoneSpec)

/-- ITS FALSE NEIGHBOUR: 'it returns false'. Refute it at one input. -/
def scopeNoneWrong : ChangeSpec := { name := "scopeNone", fn := fun _ => fun
  | [d1, d2] => { results := [.lit (.bool false)], args := [d1, d2] }
  | _ => none }
def ScopeNoneWrongFalsely : Prop := scopeNoneRow.holds Tryd.pinned (OpenSpec.ofChange scopeNoneWrong)

/-- 'tipstavelaw09.ScopeGrows': WHATEVER THE INPUT: true; the input reads as it did. -/
def scopeGrowsSpec : ChangeSpec := { name := "scopeGrows", fn := fun _ => fun
  | [d1, d2, d3] => { results := [.lit (.bool true)], args := [d1, d2, d3] }
  | _ => none }
def scopeGrowsRow : OpenClaim := { program := "ythggoohchjifnaadoor", sum := "c6284f717f7a7a67967be5a808727e7dd517065290f0edf9929de2e5801d5ac0", func := "tipstave/tipstavelaw09.ScopeGrows", spec := "scopeGrows", inPlace := ["internal/bytealg.IndexByteString", "internal/bytealg.IndexString"], unfollowed := true, recurses := true, named := ["unicode/utf8.first", "unicode/utf8.acceptRanges", "internal/bytealg.MaxLen"], apart := false, laid := [("unicode/utf8.acceptRanges", laid_unicode_utf8_acceptRanges), ("unicode/utf8.first", laid_unicode_utf8_first)] }
def ScopeGrowsSaid : Prop := scopeGrowsRow.holds Tryd.pinned (OpenSpec.ofChange scopeGrowsSpec)

/-- ITS FALSE NEIGHBOUR: 'it returns false'. Refute it at one input. -/
def scopeGrowsWrong : ChangeSpec := { name := "scopeGrows", fn := fun _ => fun
  | [d1, d2, d3] => { results := [.lit (.bool false)], args := [d1, d2, d3] }
  | _ => none }
def ScopeGrowsWrongFalsely : Prop := scopeGrowsRow.holds Tryd.pinned (OpenSpec.ofChange scopeGrowsWrong)

/-- 'tipstavelaw09.ScopeWords': WHATEVER THE INPUT: true; the input reads as it did. -/
def scopeWordsSpec : ChangeSpec := { name := "scopeWords", fn := fun _ => fun
  | [d1, d2] => { results := [.lit (.bool true)], args := [d1, d2] }
  | _ => none }
def scopeWordsRow : OpenClaim := { program := "ythggoohchjifnaadoor", sum := "c6284f717f7a7a67967be5a808727e7dd517065290f0edf9929de2e5801d5ac0", func := "tipstave/tipstavelaw09.ScopeWords", spec := "scopeWords", inPlace := ["internal/bytealg.IndexByteString", "internal/bytealg.IndexString"], unfollowed := true, recurses := true, named := ["unicode/utf8.first", "unicode/utf8.acceptRanges", "internal/bytealg.MaxLen"], apart := false, laid := [("unicode/utf8.acceptRanges", laid_unicode_utf8_acceptRanges), ("unicode/utf8.first", laid_unicode_utf8_first)] }
def ScopeWordsSaid : Prop := scopeWordsRow.holds Tryd.pinned (OpenSpec.ofChange scopeWordsSpec)

/-- ITS FALSE NEIGHBOUR: 'it returns false'. Refute it at one input. -/
def scopeWordsWrong : ChangeSpec := { name := "scopeWords", fn := fun _ => fun
  | [d1, d2] => { results := [.lit (.bool false)], args := [d1, d2] }
  | _ => none }
def ScopeWordsWrongFalsely : Prop := scopeWordsRow.holds Tryd.pinned (OpenSpec.ofChange scopeWordsWrong)

/-- 'tipstavelaw09.ScopeFull': WHATEVER THE INPUT: true; the input reads as it did. -/
def scopeFullSpec : ChangeSpec := { name := "scopeFull", fn := fun _ => fun
  | [d] => { results := [.lit (.bool true)], args := [d] }
  | _ => none }
def scopeFullRow : OpenClaim := { program := "ythggoohchjifnaadoor", sum := "c6284f717f7a7a67967be5a808727e7dd517065290f0edf9929de2e5801d5ac0", func := "tipstave/tipstavelaw09.ScopeFull", spec := "scopeFull", inPlace := ["internal/bytealg.IndexByteString", "internal/bytealg.IndexString"], unfollowed := true, recurses := true, named := ["unicode/utf8.first", "unicode/utf8.acceptRanges", "internal/bytealg.MaxLen"], apart := false, laid := [("unicode/utf8.acceptRanges", laid_unicode_utf8_acceptRanges), ("unicode/utf8.first", laid_unicode_utf8_first)] }
def ScopeFullSaid : Prop := scopeFullRow.holds Tryd.pinned (OpenSpec.ofChange scopeFullSpec)

/-- ITS FALSE NEIGHBOUR: 'it returns false'. Refute it at one input. -/
def scopeFullWrong : ChangeSpec := { name := "scopeFull", fn := fun _ => fun
  | [d] => { results := [.lit (.bool false)], args := [d] }
  | _ => none }
def ScopeFullWrongFalsely : Prop := scopeFullRow.holds Tryd.pinned (OpenSpec.ofChange scopeFullWrong)

/-- 'tipstavelaw09.ScopeOrder': WHATEVER THE INPUT: true; the input reads as it did. -/
def scopeOrderSpec : ChangeSpec := { name := "scopeOrder", fn := fun _ => fun
  | [d] => { results := [.lit (.bool true)], args := [d] }
  | _ => none }
def scopeOrderRow : OpenClaim := { program := "ythggoohchjifnaadoor", sum := "c6284f717f7a7a67967be5a808727e7dd517065290f0edf9929de2e5801d5ac0", func := "tipstave/tipstavelaw09.ScopeOrder", spec := "scopeOrder", inPlace := ["internal/bytealg.IndexByteString", "internal/bytealg.IndexString"], unfollowed := true, recurses := true, named := ["unicode/utf8.first", "unicode/utf8.acceptRanges", "internal/bytealg.MaxLen"], apart := false, laid := [("unicode/utf8.acceptRanges", laid_unicode_utf8_acceptRanges), ("unicode/utf8.first", laid_unicode_utf8_first)] }
def ScopeOrderSaid : Prop := scopeOrderRow.holds Tryd.pinned (OpenSpec.ofChange scopeOrderSpec)

/-- ITS FALSE NEIGHBOUR: 'it returns false'. Refute it at one input. -/
def scopeOrderWrong : ChangeSpec := { name := "scopeOrder", fn := fun _ => fun
  | [d] => { results := [.lit (.bool false)], args := [d] }
  | _ => none }
def ScopeOrderWrongFalsely : Prop := scopeOrderRow.holds Tryd.pinned (OpenSpec.ofChange scopeOrderWrong)

/- THE SECOND FORM. 'bulk': how many values and letters a reading holds, each counted each time it is reached (what is shared counts as often as it is met; a slice's spare places count too). A statement '..UptoSaid' is the law's where the arguments, and the package variables that the reading takes, are together of bulk at most 1048576: NARROWER than '..Said'. Prove '..Said' where nothing that the law and all that it calls make is longer than what came in: it says more and counts as full. Else prove '..UptoSaid'. A law counts once. -/
mutual
def uptoBulk {H : Type} : DataW H → Nat
  | .lit (.string bytes) => bytes.length + 1
  | .lit _ => 1
  | .nil => 1
  | .ptr d => uptoBulk d + 1
  | .slice elems spare => uptoBulkAll elems + uptoBulkAll spare + 1
  | .agg parts => uptoBulkAll parts + 1
  | .iface _ d => uptoBulk d + 1
  | .map entries => uptoBulkEntries entries + 1
  | .held _ => 1
def uptoBulkAll {H : Type} : List (DataW H) → Nat
  | [] => 0
  | d :: r => uptoBulk d + uptoBulkAll r
def uptoBulkEntries {H : Type} : List (Lit × DataW H) → Nat
  | [] => 0
  | x :: r => uptoBulkEntry x + uptoBulkEntries r
def uptoBulkEntry {H : Type} : Lit × DataW H → Nat
  | (.string bytes, d) => bytes.length + uptoBulk d + 1
  | (_, d) => uptoBulk d + 1
 end
def uptoSmall : (H : Type) → List (DataW H) → Bool := fun _ ds => decide (uptoBulkAll ds ≤ 1048576)
def OpenSpec.upto (s : _root_.Go.ChangeSpec) : _root_.Go.OpenSpec := { _root_.Go.OpenSpec.ofChange s with cond := some uptoSmall }

/-- 'tipstavelaw09.ScopeMakes', WHERE WHAT IT READS IS OF BULK AT MOST 1048576: true; the input reads as it did. -/
def scopeMakesUptoRow : OpenClaim := { program := "ythggoohchjifnaadoor", sum := "c6284f717f7a7a67967be5a808727e7dd517065290f0edf9929de2e5801d5ac0", func := "tipstave/tipstavelaw09.ScopeMakes", spec := "scopeMakes", inPlace := ["internal/bytealg.IndexByteString", "internal/bytealg.IndexString"], unfollowed := true, recurses := true, named := ["unicode/utf8.first", "unicode/utf8.acceptRanges", "internal/bytealg.MaxLen"], apart := false, laid := [("unicode/utf8.acceptRanges", laid_unicode_utf8_acceptRanges), ("unicode/utf8.first", laid_unicode_utf8_first)], narrowed := true }
def ScopeMakesUptoSaid : Prop := scopeMakesUptoRow.holds Tryd.pinned (OpenSpec.upto scopeMakesSpec)

/-- 'tipstavelaw09.ScopeAsks', WHERE WHAT IT READS IS OF BULK AT MOST 1048576: true; the input reads as it did. -/
def scopeAsksUptoRow : OpenClaim := { program := "ythggoohchjifnaadoor", sum := "c6284f717f7a7a67967be5a808727e7dd517065290f0edf9929de2e5801d5ac0", func := "tipstave/tipstavelaw09.ScopeAsks", spec := "scopeAsks", inPlace := ["internal/bytealg.IndexByteString", "internal/bytealg.IndexString"], unfollowed := true, recurses := true, named := ["unicode/utf8.first", "unicode/utf8.acceptRanges", "internal/bytealg.MaxLen"], apart := false, laid := [("unicode/utf8.acceptRanges", laid_unicode_utf8_acceptRanges), ("unicode/utf8.first", laid_unicode_utf8_first)], narrowed := true }
def ScopeAsksUptoSaid : Prop := scopeAsksUptoRow.holds Tryd.pinned (OpenSpec.upto scopeAsksSpec)

/-- 'tipstavelaw09.ScopeNone', WHERE WHAT IT READS IS OF BULK AT MOST 1048576: true; the input reads as it did. -/
def scopeNoneUptoRow : OpenClaim := { program := "ythggoohchjifnaadoor", sum := "c6284f717f7a7a67967be5a808727e7dd517065290f0edf9929de2e5801d5ac0", func := "tipstave/tipstavelaw09.ScopeNone", spec := "scopeNone", inPlace := ["internal/bytealg.IndexByteString", "internal/bytealg.IndexString"], unfollowed := true, recurses := true, named := ["unicode/utf8.first", "unicode/utf8.acceptRanges", "internal/bytealg.MaxLen"], apart := false, laid := [("unicode/utf8.acceptRanges", laid_unicode_utf8_acceptRanges), ("unicode/utf8.first", laid_unicode_utf8_first)], narrowed := true }
def ScopeNoneUptoSaid : Prop := scopeNoneUptoRow.holds Tryd.pinned (OpenSpec.upto scopeNoneSpec)

/-- 'tipstavelaw09.ScopeGrows', WHERE WHAT IT READS IS OF BULK AT MOST 1048576: true; the input reads as it did. -/
def scopeGrowsUptoRow : OpenClaim := { program := "ythggoohchjifnaadoor", sum := "c6284f717f7a7a67967be5a808727e7dd517065290f0edf9929de2e5801d5ac0", func := "tipstave/tipstavelaw09.ScopeGrows", spec := "scopeGrows", inPlace := ["internal/bytealg.IndexByteString", "internal/bytealg.IndexString"], unfollowed := true, recurses := true, named := ["unicode/utf8.first", "unicode/utf8.acceptRanges", "internal/bytealg.MaxLen"], apart := false, laid := [("unicode/utf8.acceptRanges", laid_unicode_utf8_acceptRanges), ("unicode/utf8.first", laid_unicode_utf8_first)], narrowed := true }
def ScopeGrowsUptoSaid : Prop := scopeGrowsUptoRow.holds Tryd.pinned (OpenSpec.upto scopeGrowsSpec)

/-- 'tipstavelaw09.ScopeWords', WHERE WHAT IT READS IS OF BULK AT MOST 1048576: true; the input reads as it did. -/
def scopeWordsUptoRow : OpenClaim := { program := "ythggoohchjifnaadoor", sum := "c6284f717f7a7a67967be5a808727e7dd517065290f0edf9929de2e5801d5ac0", func := "tipstave/tipstavelaw09.ScopeWords", spec := "scopeWords", inPlace := ["internal/bytealg.IndexByteString", "internal/bytealg.IndexString"], unfollowed := true, recurses := true, named := ["unicode/utf8.first", "unicode/utf8.acceptRanges", "internal/bytealg.MaxLen"], apart := false, laid := [("unicode/utf8.acceptRanges", laid_unicode_utf8_acceptRanges), ("unicode/utf8.first", laid_unicode_utf8_first)], narrowed := true }
def ScopeWordsUptoSaid : Prop := scopeWordsUptoRow.holds Tryd.pinned (OpenSpec.upto scopeWordsSpec)

/-- 'tipstavelaw09.ScopeFull', WHERE WHAT IT READS IS OF BULK AT MOST 1048576: true; the input reads as it did. -/
def scopeFullUptoRow : OpenClaim := { program := "ythggoohchjifnaadoor", sum := "c6284f717f7a7a67967be5a808727e7dd517065290f0edf9929de2e5801d5ac0", func := "tipstave/tipstavelaw09.ScopeFull", spec := "scopeFull", inPlace := ["internal/bytealg.IndexByteString", "internal/bytealg.IndexString"], unfollowed := true, recurses := true, named := ["unicode/utf8.first", "unicode/utf8.acceptRanges", "internal/bytealg.MaxLen"], apart := false, laid := [("unicode/utf8.acceptRanges", laid_unicode_utf8_acceptRanges), ("unicode/utf8.first", laid_unicode_utf8_first)], narrowed := true }
def ScopeFullUptoSaid : Prop := scopeFullUptoRow.holds Tryd.pinned (OpenSpec.upto scopeFullSpec)

/-- 'tipstavelaw09.ScopeOrder', WHERE WHAT IT READS IS OF BULK AT MOST 1048576: true; the input reads as it did. -/
def scopeOrderUptoRow : OpenClaim := { program := "ythggoohchjifnaadoor", sum := "c6284f717f7a7a67967be5a808727e7dd517065290f0edf9929de2e5801d5ac0", func := "tipstave/tipstavelaw09.ScopeOrder", spec := "scopeOrder", inPlace := ["internal/bytealg.IndexByteString", "internal/bytealg.IndexString"], unfollowed := true, recurses := true, named := ["unicode/utf8.first", "unicode/utf8.acceptRanges", "internal/bytealg.MaxLen"], apart := false, laid := [("unicode/utf8.acceptRanges", laid_unicode_utf8_acceptRanges), ("unicode/utf8.first", laid_unicode_utf8_first)], narrowed := true }
def ScopeOrderUptoSaid : Prop := scopeOrderUptoRow.holds Tryd.pinned (OpenSpec.upto scopeOrderSpec)

end Rows
end Go.Proofs.YthggoohchjifnaaDoor
