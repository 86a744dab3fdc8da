/- What all statements of a seat have in common that also reads the variable of the library's searches: it holds some number. -/
import Derived.Test.YtlinmeafofmmoaaGreatDoorCommonE
import Derived.Test.YtlinmeafofmmoaaGreatDoorTkB
import Derived.Shelf.Vars
set_option linter.unusedVariables false
set_option linter.unusedSimpArgs false
namespace Go.Proofs.YtlinmeafofmmoaaGreatDoor
open Go Go.RowKit

theorem maxl_of_shape {W : World} (h : W.ShapedOpen Tryz.prog) : Tok.MaxL W :=
  cell_of_shapedOpen_int (zero := #[.int .i64 0]) (t := 3) h (of_decide_eq_true (by kernel_rfl)) (by kernel_rfl) rfl (by kernel_rfl) (by kernel_rfl) Tryz.underlying3
end Go.Proofs.YtlinmeafofmmoaaGreatDoor
