/- What all statements of this seat have in common: the program's closed facts, the library's tables, a world for the witness. | What all statements of a seat have in common that lists the library's tables and its errors: what they ask of the world; a world for the witness. | What all statements of a seat have in common that also reads the variable of the library's searches: it holds some number. -/
import Derived.Test.YthodmdfbahkflaaGreatDoorPk2
import Derived.Deep.DeepHandedRow
import Derived.Deep.DeepLaidRun
import Derived.Lib.LaidU8
import Derived.PinnedBridge
import Derived.Test.YthodmdfbahkflaaGreatDoorRows
import Derived.Test.YthodmdfbahkflaaGreatDoorPk3
import Derived.LaidLaws
import Derived.Test.YthodmdfbahkflaaGreatDoorTkB
import Derived.Shelf.Vars
set_option linter.unusedVariables false
set_option linter.unusedSimpArgs false
namespace Go.Proofs.YthodmdfbahkflaaGreatDoor
open Go Go.RowKit

theorem own : ownKnob Tryz.prog.godebug = none := by kernel_rfl
theorem laidOut : laidOutB Tryz.prog = true := by kernel_rfl

theorem u8extra : U8Extra Tryz.prog Tryz.lays260_ren := ⟨by kernel_rfl, by kernel_rfl, by kernel_rfl, by kernel_rfl, by kernel_rfl, by kernel_rfl, by kernel_rfl⟩
theorem accept_eq : (Rows.laid_unicode_utf8_acceptRanges : DataW Unit) = Lib.acceptData := by kernel_rfl
theorem first_eq : Rows.laid_unicode_utf8_first = Lib.firstData := Pinned.utf8First_eq
theorem tabs_of_reads {W : World} (h3 : Lib.VarReads Tryz.prog W "unicode/utf8.first" Rows.laid_unicode_utf8_first) (h4 : Lib.VarReads Tryz.prog W "unicode/utf8.acceptRanges" Rows.laid_unicode_utf8_acceptRanges) : Utf.Tabs W := by
  rw [first_eq] at h3
  rw [accept_eq] at h4
  exact utf8Tabs_of_reads Tryz.lays260 u8extra h3 h4

/-- A block of cells, filled. -/
def fill (l : List Value) : Obj → Obj
  | .cells _ t frozen => .cells l.toArray t frozen
  | o => o
/-- A world in which the two tables hold what their text lays. -/
noncomputable def laidWorld (os : Os) : World :=
  let w := World.holding Tryz.prog os ⟨#[], #[], []⟩
  let h := w.heap.modify 1 (fill (Pinned.utf8FirstZ.map fun (n : Nat) => Value.int .u8 n))
  { w with heap := h.modify 2 (fill (((List.range 16).flatMap fun i => [Lib.accLo i, Lib.accHi i]).map fun (n : Nat) => Value.int .u8 n)) }
end Go.Proofs.YthodmdfbahkflaaGreatDoor
namespace Go.Proofs.YthodmdfbahkflaaGreatDoor
open Go Go.RowKit

theorem errs_of_reads {W : World} (h : Lib.VarReads Tryz.prog W "strconv.ErrSyntax" Rows.laid_strconv_ErrSyntax) : Ent.Errs W := by
  obtain ⟨g, t, cs, fuel, p, h1, h2, h3, h4⟩ := h
  have e1 : Tryz.prog.globalNamed "strconv.ErrSyntax" = some 3 := by kernel_rfl
  have hg : 3 = g := Option.some.inj (e1.symm.trans h1)
  subst hg
  have e2 : (Tryz.prog.globals[3]?).map (·.type) = some 91 := by kernel_rfl
  have ht : 91 = t := Option.some.inj (e2.symm.trans h2)
  subst ht
  obtain ⟨_, u, v, hcs, _⟩ := iface_of_trod Tryz.underlying91 h4
  unfold World.var? at h3
  rw [h1] at h3
  simp only [Option.bind_some] at h3
  split at h3
  · rename_i x y z hx
    injection h3 with h3
    subst h3
    refine ⟨.iface u v, ?_, .inr ⟨u, v, rfl⟩⟩
    rw [Lib.cell_of_heap hx]
    have := congrArg (·[0]?) hcs
    simpa using this
  · cases h3

/-- The values that a reading lists. -/
def litsOf : DataW Unit → List Value
  | .agg ds => ds.map fun d => match d with | .lit (.int k n) => .int k n | _ => undef
  | _ => []
/-- A world in which all that is listed holds what its text lays. -/
noncomputable def laidWorldE (os : Os) : World :=
  let w := laidWorld os
  let n := w.heap.size
  let h := w.heap.push (.cells #[.string ⟨#[118, 97, 108, 117, 101, 32, 111, 117, 116, 32, 111, 102, 32, 114, 97, 110, 103, 101]⟩] 202)
  let h := h.push (.cells #[.string ⟨#[105, 110, 118, 97, 108, 105, 100, 32, 115, 121, 110, 116, 97, 120]⟩] 202)
  let h := h.modify 4 (fill [.iface 200 (.pointer (some ⟨n, 0, none⟩))])
  let h := h.modify 3 (fill [.iface 200 (.pointer (some ⟨n + 1, 0, none⟩))])
  let h := h.modify 5 (fill ((List.range 20).map fun (i : Nat) => Value.int .u64 (10 ^ i : Nat)))
  let h := h.modify 6 (fill (litsOf Rows.laid_math_bits_deBruijn32tab))
  let h := h.modify 7 (fill (litsOf Rows.laid_math_bits_deBruijn64tab))
  { w with heap := h }
end Go.Proofs.YthodmdfbahkflaaGreatDoor
namespace Go.Proofs.YthodmdfbahkflaaGreatDoor
open Go Go.RowKit

theorem maxl_of_shape {W : World} (h : W.ShapedOpen Tryz.prog) : Tok.MaxL W :=
  cell_of_shapedOpen_int (zero := #[.int .i64 0]) (t := 3) h (of_decide_eq_true (by kernel_rfl)) (by kernel_rfl) rfl (by kernel_rfl) (by kernel_rfl) Tryz.underlying3
end Go.Proofs.YthodmdfbahkflaaGreatDoor
