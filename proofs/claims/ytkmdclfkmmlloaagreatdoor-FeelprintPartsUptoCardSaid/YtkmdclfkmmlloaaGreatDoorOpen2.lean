/- How arguments are read, further: an array of two texts. Over any program. -/
import Derived.Test.YtkmdclfkmmlloaaGreatDoorOpen
import Derived.Lib.SmallJoins
set_option linter.unusedVariables false
set_option linter.unusedSimpArgs false
namespace Go.Proofs.YtkmdclfkmmlloaaGreatDoor
open Go Go.ChangeShapes Go.WideShapes Go.ChangeAt Go.RowKit

section
variable {H : Type} {enc : TypeId × Value → H} {P : Program} {W : World}

end
end Go.Proofs.YtkmdclfkmmlloaaGreatDoor
