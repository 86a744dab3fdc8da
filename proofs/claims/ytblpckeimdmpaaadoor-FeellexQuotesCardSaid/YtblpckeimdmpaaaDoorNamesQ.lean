/- Layer 2: contracts of the document's own answers: the keywords. -/
import Derived.Test.YtblpckeimdmpaaaDoorNamesR
set_option linter.unusedVariables false
set_option linter.unusedSimpArgs false
namespace Go.Proofs.YtblpckeimdmpaaaDoor.Names
open Go Go.Proofs.YtblpckeimdmpaaaDoor Go.Proofs.YtblpckeimdmpaaaDoor.Utf Go.RowKit
set_option maxRecDepth 100000

theorem underS : Tryd.prog.underlying 72 = some (.slice 9) := Tryd.underlying72
theorem sizeS (W : World) : (sizeOf 9).run Tryd.prog W = .ok 1 W := Tryd.sizeOf9 W

theorem text_beq (a b : List UInt8) : ((text a).toList == (text b).toList) = decide (a = b) := by
  rw [text_list, text_list, Bool.eq_iff_iff]; simp

/-! the word -/
end Go.Proofs.YtblpckeimdmpaaaDoor.Names
