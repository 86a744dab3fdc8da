/- Layer 9: the walk of the statement ScopeNone. -/
import Derived.Test.YthggoohchjifnaaDoorScP
set_option linter.unusedVariables false
set_option linter.unusedSimpArgs false
namespace Go.Proofs.YthggoohchjifnaaDoor.Sc
open Go Go.Proofs.YthggoohchjifnaaDoor Go.Proofs.YthggoohchjifnaaDoor.Utf Go.Proofs.YthggoohchjifnaaDoor.Names Go.RowKit
set_option maxRecDepth 100000

theorem put_one (x : List UInt8) : put [] [x] = [x] := by simp [put, ins]

end Go.Proofs.YthggoohchjifnaaDoor.Sc
