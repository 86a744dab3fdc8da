/- Layer 4: the document's examples. -/
import Derived.Test.YthodmdfbahkflaaGreatDoorTkE
import Derived.Test.YthodmdfbahkflaaGreatDoorTkF
set_option linter.unusedVariables false
set_option linter.unusedSimpArgs false
namespace Go.Proofs.YthodmdfbahkflaaGreatDoor.Tok
open Go Go.Proofs.YthodmdfbahkflaaGreatDoor Go.Proofs.YthodmdfbahkflaaGreatDoor.Utf Go.Proofs.YthodmdfbahkflaaGreatDoor.Names Go.Proofs.YthodmdfbahkflaaGreatDoor.Ent Go.RowKit
set_option maxRecDepth 100000

theorem FitM.alloc {w : World} (h : FitM w) (o : Obj) : FitM (w.alloc o) := h.below (ba (b0 w) o)
end Go.Proofs.YthodmdfbahkflaaGreatDoor.Tok
