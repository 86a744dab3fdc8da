/- Layer 4: contract of the document's own Same. -/
import Derived.Test.YthodmdfbahkflaaGreatDoorTkB
import Derived.Test.YthodmdfbahkflaaGreatDoorPk4
import Derived.Deep.LoopGhost
import Derived.Deep.QuietTactic
import Derived.BigQuiet
set_option linter.unusedVariables false
set_option linter.unusedSimpArgs false
namespace Go.Proofs.YthodmdfbahkflaaGreatDoor.Tok
open Go Go.Proofs.YthodmdfbahkflaaGreatDoor Go.Proofs.YthodmdfbahkflaaGreatDoor.Utf Go.Proofs.YthodmdfbahkflaaGreatDoor.Names Go.Proofs.YthodmdfbahkflaaGreatDoor.Ent Go.RowKit
set_option maxRecDepth 100000

theorem text_eq (a b : List UInt8) : ((text a).toList == (text b).toList) = decide (a = b) := by
  rw [Names.text_list, Names.text_list]
  by_cases h : a = b
  · rw [decide_eq_true h, beq_iff_eq]; exact h
  · rw [decide_eq_false h, beq_eq_false_iff_ne]; exact h

theorem undPs : Tryz.prog.underlying 43 = some (.slice 73) := Tryz.underlying43
theorem sizT (W : World) : (sizeOf 45).run Tryz.prog W = .ok 4 W := Tryz.sizeOf45 W
theorem sizP (W : World) : (sizeOf 73).run Tryz.prog W = .ok 3 W := Tryz.sizeOf73 W

end Go.Proofs.YthodmdfbahkflaaGreatDoor.Tok
