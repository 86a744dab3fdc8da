/- How arguments are read: from what the statements' form says of an argument to what the walks ask. Over any program. -/
import Derived.Test.YtkmdclfkmmlloaaGreatDoorRow
import Derived.ProofKit
import Derived.OpenShut
import Derived.ShutString
import Derived.ChangeOld
import Derived.Below
import Derived.SizedLaws
set_option linter.unusedVariables false
set_option linter.unusedSimpArgs false
namespace Go.Proofs.YtkmdclfkmmlloaaGreatDoor
open Go Go.ChangeShapes Go.WideShapes Go.ChangeAt Go.RowKit

section
variable {H : Type} {enc : TypeId × Value → H} {P : Program} {W : World} {sp : Nat → Bool}

end
end Go.Proofs.YtkmdclfkmmlloaaGreatDoor
