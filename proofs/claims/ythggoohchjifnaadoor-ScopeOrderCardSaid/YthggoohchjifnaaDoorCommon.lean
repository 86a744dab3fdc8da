/- What all statements of this seat have in common: the program's closed facts, the library's tables, a world for the witness. -/
import Derived.Test.YthggoohchjifnaaDoorUtfC
import Derived.Test.YthggoohchjifnaaDoorOpen
import Derived.Deep.DeepHandedRow
import Derived.Deep.DeepLaidRun
import Derived.Lib.LaidU8
import Derived.PinnedBridge
import Derived.Test.YthggoohchjifnaaDoorRows
set_option linter.unusedVariables false
set_option linter.unusedSimpArgs false
namespace Go.Proofs.YthggoohchjifnaaDoor
open Go Go.RowKit

theorem own : ownKnob Tryd.prog.godebug = none := by kernel_rfl
theorem laidOut : laidOutB Tryd.prog = true := by kernel_rfl

theorem u8extra : U8Extra Tryd.prog Tryd.lays260_ren := ⟨by kernel_rfl, by kernel_rfl, by kernel_rfl, by kernel_rfl, by kernel_rfl, by kernel_rfl, by kernel_rfl⟩
theorem accept_eq : (Rows.laid_unicode_utf8_acceptRanges : DataW Unit) = Lib.acceptData := by kernel_rfl
theorem first_eq : Rows.laid_unicode_utf8_first = Lib.firstData := Pinned.utf8First_eq
theorem tabs_of_reads {W : World} (h3 : Lib.VarReads Tryd.prog W "unicode/utf8.first" Rows.laid_unicode_utf8_first) (h4 : Lib.VarReads Tryd.prog W "unicode/utf8.acceptRanges" Rows.laid_unicode_utf8_acceptRanges) : Utf.Tabs W := by
  rw [first_eq] at h3
  rw [accept_eq] at h4
  exact utf8Tabs_of_reads Tryd.lays260 u8extra h3 h4

/-- A block of cells, filled. -/
def fill (l : List Value) : Obj → Obj
  | .cells _ t frozen => .cells l.toArray t frozen
  | o => o
/-- A world in which the two tables hold what their text lays. -/
noncomputable def laidWorld (os : Os) : World :=
  let w := World.holding Tryd.prog os ⟨#[], #[], []⟩
  let h := w.heap.modify 0 (fill (Pinned.utf8FirstZ.map fun (n : Nat) => Value.int .u8 n))
  { w with heap := h.modify 1 (fill (((List.range 16).flatMap fun i => [Lib.accLo i, Lib.accHi i]).map fun (n : Nat) => Value.int .u8 n)) }
end Go.Proofs.YthggoohchjifnaaDoor
