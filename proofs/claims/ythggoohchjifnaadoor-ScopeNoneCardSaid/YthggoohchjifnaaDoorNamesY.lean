/- Layer 2: contracts of the statements' own same and alive. -/
import Derived.Test.YthggoohchjifnaaDoorNamesX
set_option linter.unusedVariables false
set_option linter.unusedSimpArgs false
namespace Go.Proofs.YthggoohchjifnaaDoor.Names
open Go Go.Proofs.YthggoohchjifnaaDoor Go.Proofs.YthggoohchjifnaaDoor.Utf Go.RowKit
set_option maxRecDepth 100000

theorem ex1 : splitA [97, 58, 98, 45, 49] = [97] ∧ splitB [97, 58, 98, 45, 49] = [98, 45, 49] ∧ splitE [97, 58, 98, 45, 49] = 0 := by decide +kernel
theorem ex2 : splitA [97, 58, 98, 58, 99] = [] ∧ splitB [97, 58, 98, 58, 99] = [] ∧ splitE [97, 58, 98, 58, 99] = 6 := by decide +kernel
theorem ex3 : wordsO [110, 101, 116, 32, 112, 114, 105, 99, 101] = some [[110, 101, 116], [112, 114, 105, 99, 101]] := by decide +kernel
theorem ex4 : wordsO [105, 102, 32, 120] = none := by decide +kernel

end Go.Proofs.YthggoohchjifnaaDoor.Names
