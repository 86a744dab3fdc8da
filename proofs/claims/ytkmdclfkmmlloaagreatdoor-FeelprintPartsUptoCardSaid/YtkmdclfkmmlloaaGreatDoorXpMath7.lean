/- Layer 10, mathematics: tests beside others; expressions in expressions; names that all are needed; the examples. -/
import Derived.Test.YtkmdclfkmmlloaaGreatDoorXbX
import Derived.Test.YtkmdclfkmmlloaaGreatDoorXpF
set_option linter.unusedVariables false
set_option linter.unusedSimpArgs false
namespace Go.Proofs.YtkmdclfkmmlloaaGreatDoor.Xp
open Go Go.Proofs.YtkmdclfkmmlloaaGreatDoor Go.Proofs.YtkmdclfkmmlloaaGreatDoor.Sc Go.Proofs.YtkmdclfkmmlloaaGreatDoor.Names
set_option maxRecDepth 100000

/- Tests. -/
section
variable {x : Ex} {s : Nam}
end
/- Expressions in expressions. -/
/- Names that all are needed. -/
end Go.Proofs.YtkmdclfkmmlloaaGreatDoor.Xp
