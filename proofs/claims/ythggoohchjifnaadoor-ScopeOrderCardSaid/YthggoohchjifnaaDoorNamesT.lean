/- Layer 2: contract of the document's own answer to Split. -/
import Derived.Test.YthggoohchjifnaaDoorNamesR
import Derived.Test.YthggoohchjifnaaDoorNamesS
set_option linter.unusedVariables false
set_option linter.unusedSimpArgs false
namespace Go.Proofs.YthggoohchjifnaaDoor.Names
open Go Go.Proofs.YthggoohchjifnaaDoor Go.Proofs.YthggoohchjifnaaDoor.Utf Go.RowKit
set_option maxRecDepth 100000

/-- A byte of a text, as the walk reads it. -/
theorem text_idx (l : List UInt8) (k : Nat) (hk : k < l.length) (h : k < (text l).size) : ((text l)[k]'h).toNat = (l[k]'hk).toNat := rfl
theorem text_at {l : List UInt8} {k : Nat} {x : UInt8} (hx : l[k]? = some x) (h : k < (text l).size) : ((text l)[k]'h).toNat = x.toNat := by
  have hk := (List.getElem?_eq_some_iff.1 hx).1
  rw [List.getElem?_eq_getElem hk] at hx
  rw [text_idx l k hk h, Option.some.inj hx]

end Go.Proofs.YthggoohchjifnaaDoor.Names
