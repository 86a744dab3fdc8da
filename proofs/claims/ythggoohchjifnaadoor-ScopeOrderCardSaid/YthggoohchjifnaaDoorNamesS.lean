/- Layer 2: contract of Split. -/
import Derived.Test.YthggoohchjifnaaDoorNamesA
import Derived.Shelf.RegionOpenPlain
set_option linter.unusedVariables false
set_option linter.unusedSimpArgs false
namespace Go.Proofs.YthggoohchjifnaaDoor.Names
open Go Go.Proofs.YthggoohchjifnaaDoor Go.Proofs.YthggoohchjifnaaDoor.Utf Go.RowKit
set_option maxRecDepth 100000

theorem indexByte_first (c : UInt8) : ∀ l : List UInt8, Lib.indexByte l c = match firstAt c l with | none => -1 | some i => (i : Int)
  | [] => rfl
  | x :: r => by
    have ih := indexByte_first c r
    unfold Lib.indexByte firstAt
    by_cases h : x = c
    · simp [h]
    · simp only [h, if_false]
      rw [ih]
      cases firstAt c r with
      | none => simp [h]
      | some i =>
        have : ((i : Int) == -1) = false := by rw [beq_eq_false_iff_ne]; omega
        simp [h, this]

/-- What Cut answers, at a text of one byte. -/
def cutV (c : UInt8) (l : List UInt8) : Value := match firstAt c l with
  | none => .tuple #[.string (text l), .string ⟨#[]⟩, .bool false]
  | some i => .tuple #[.string (text (l.take i)), .string (text (l.drop (i + 1))), .bool true]

theorem text_zero (l : List UInt8) (i : Nat) : (text l).extract 0 i = text (l.take i) := by rw [text_cut]; rfl

end Go.Proofs.YthggoohchjifnaaDoor.Names
