/- What all statements of this seat have in common: the program's closed facts, the library's tables, a world for the witness. -/
import Derived.Test.YtlinmeafofmmoaaGreatDoorUtfC
import Derived.Test.YtlinmeafofmmoaaGreatDoorOpen
import Derived.Deep.DeepHandedRow
import Derived.Deep.DeepLaidRun
import Derived.Lib.LaidU8
import Derived.PinnedBridge
import Derived.Test.YtlinmeafofmmoaaGreatDoorRows
set_option linter.unusedVariables false
set_option linter.unusedSimpArgs false
namespace Go.Proofs.YtlinmeafofmmoaaGreatDoor
open Go Go.RowKit

theorem own : ownKnob Tryz.prog.godebug = none := by kernel_rfl
theorem laidOut : laidOutB Tryz.prog = true := by kernel_rfl

theorem u8extra : U8Extra Tryz.prog Tryz.lays260_ren := ⟨by kernel_rfl, by kernel_rfl, by kernel_rfl, by kernel_rfl, by kernel_rfl, by kernel_rfl, by kernel_rfl⟩
theorem accept_eq : (Rows.laid_unicode_utf8_acceptRanges : DataW Unit) = Lib.acceptData := by kernel_rfl
theorem first_eq : Rows.laid_unicode_utf8_first = Lib.firstData := Pinned.utf8First_eq
theorem tabs_of_reads {W : World} (h3 : Lib.VarReads Tryz.prog W "unicode/utf8.first" Rows.laid_unicode_utf8_first) (h4 : Lib.VarReads Tryz.prog W "unicode/utf8.acceptRanges" Rows.laid_unicode_utf8_acceptRanges) : Utf.Tabs W := by
  rw [first_eq] at h3
  rw [accept_eq] at h4
  exact utf8Tabs_of_reads Tryz.lays260 u8extra h3 h4

/-- A block of cells, filled. -/
def fill (l : List Value) : Obj → Obj
  | .cells _ t frozen => .cells l.toArray t frozen
  | o => o
/-- A world in which the two tables hold what their text lays. -/
noncomputable def laidWorld (os : Os) : World :=
  let w := World.holding Tryz.prog os ⟨#[], #[], []⟩
  let h := w.heap.modify 1 (fill (Pinned.utf8FirstZ.map fun (n : Nat) => Value.int .u8 n))
  { w with heap := h.modify 2 (fill (((List.range 16).flatMap fun i => [Lib.accLo i, Lib.accHi i]).map fun (n : Nat) => Value.int .u8 n)) }
end Go.Proofs.YtlinmeafofmmoaaGreatDoor
