/- Layer 10: contract of read, a way through an expression with the names that are met. -/
import Derived.Test.YtkmdclfkmmlloaaGreatDoorXpR
import Derived.Test.YtkmdclfkmmlloaaGreatDoorXbX
set_option linter.unusedVariables false
set_option linter.unusedSimpArgs false
namespace Go.Proofs.YtkmdclfkmmlloaaGreatDoor.Xp
open Go Go.Proofs.YtkmdclfkmmlloaaGreatDoor Go.Proofs.YtkmdclfkmmlloaaGreatDoor.Utf Go.Proofs.YtkmdclfkmmlloaaGreatDoor.Names Go.Proofs.YtkmdclfkmmlloaaGreatDoor.Sc Go.RowKit
set_option maxRecDepth 100000

end Go.Proofs.YtkmdclfkmmlloaaGreatDoor.Xp
