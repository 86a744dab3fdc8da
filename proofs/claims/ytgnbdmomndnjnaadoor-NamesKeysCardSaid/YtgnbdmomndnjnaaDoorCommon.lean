/- What all statements of this seat have in common: the program's closed facts, the library's tables, a world for the witness. -/
import Derived.Test.YtgnbdmomndnjnaaDoorUtfC
import Derived.Test.YtgnbdmomndnjnaaDoorOpen
import Derived.Deep.DeepHandedRow
import Derived.Deep.DeepLaidRun
import Derived.Lib.LaidU8
import Derived.PinnedBridge
import Derived.Test.YtgnbdmomndnjnaaDoorRows
set_option linter.unusedVariables false
set_option linter.unusedSimpArgs false
namespace Go.Proofs.YtgnbdmomndnjnaaDoor
open Go Go.RowKit

theorem own : ownKnob Tryd.prog.godebug = none := by kernel_rfl
theorem laidOut : laidOutB Tryd.prog = true := by kernel_rfl

/-- A block of cells, filled. -/
def fill (l : List Value) : Obj → Obj
  | .cells _ t frozen => .cells l.toArray t frozen
  | o => o
/-- A world in which the two tables hold what their text lays. -/
noncomputable def laidWorld (os : Os) : World :=
  let w := World.holding Tryd.prog os ⟨#[], #[], []⟩
  let h := w.heap.modify 1 (fill (Pinned.utf8FirstZ.map fun (n : Nat) => Value.int .u8 n))
  { w with heap := h.modify 2 (fill (((List.range 16).flatMap fun i => [Lib.accLo i, Lib.accHi i]).map fun (n : Nat) => Value.int .u8 n)) }
end Go.Proofs.YtgnbdmomndnjnaaDoor
