/- Layer 1: contracts of the functions that ask of a number which kind of name's character it is. -/
import Derived.Test.YtabplemabcahgaaDoorUtfA
set_option linter.unusedVariables false
set_option linter.unusedSimpArgs false
namespace Go.Proofs.YtabplemabcahgaaDoor.Utf
open Go Go.Proofs.YtabplemabcahgaaDoor Go.RowKit

end Go.Proofs.YtabplemabcahgaaDoor.Utf
