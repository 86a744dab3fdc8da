/- What all statements of a seat have in common that lists the library's tables and its errors: what they ask of the world; a world for the witness. -/
import Derived.Test.YtlinmeafofmmoaaGreatDoorCommon
import Derived.Test.YtlinmeafofmmoaaGreatDoorEntM
import Derived.LaidLaws
set_option linter.unusedVariables false
set_option linter.unusedSimpArgs false
namespace Go.Proofs.YtlinmeafofmmoaaGreatDoor
open Go Go.RowKit

theorem errs_of_reads {W : World} (h : Lib.VarReads Tryz.prog W "strconv.ErrSyntax" Rows.laid_strconv_ErrSyntax) : Ent.Errs W := by
  obtain ⟨g, t, cs, fuel, p, h1, h2, h3, h4⟩ := h
  have e1 : Tryz.prog.globalNamed "strconv.ErrSyntax" = some 3 := by kernel_rfl
  have hg : 3 = g := Option.some.inj (e1.symm.trans h1)
  subst hg
  have e2 : (Tryz.prog.globals[3]?).map (·.type) = some 101 := by kernel_rfl
  have ht : 101 = t := Option.some.inj (e2.symm.trans h2)
  subst ht
  obtain ⟨_, u, v, hcs, _⟩ := iface_of_trod Tryz.underlying101 h4
  unfold World.var? at h3
  rw [h1] at h3
  simp only [Option.bind_some] at h3
  split at h3
  · rename_i x y z hx
    injection h3 with h3
    subst h3
    refine ⟨.iface u v, ?_, .inr ⟨u, v, rfl⟩⟩
    rw [Lib.cell_of_heap hx]
    have := congrArg (·[0]?) hcs
    simpa using this
  · cases h3

/-- The values that a reading lists. -/
def litsOf : DataW Unit → List Value
  | .agg ds => ds.map fun d => match d with | .lit (.int k n) => .int k n | _ => undef
  | _ => []
/-- A world in which all that is listed holds what its text lays. -/
noncomputable def laidWorldE (os : Os) : World :=
  let w := laidWorld os
  let n := w.heap.size
  let h := w.heap.push (.cells #[.string ⟨#[118, 97, 108, 117, 101, 32, 111, 117, 116, 32, 111, 102, 32, 114, 97, 110, 103, 101]⟩] 237)
  let h := h.push (.cells #[.string ⟨#[105, 110, 118, 97, 108, 105, 100, 32, 115, 121, 110, 116, 97, 120]⟩] 237)
  let h := h.modify 4 (fill [.iface 235 (.pointer (some ⟨n, 0, none⟩))])
  let h := h.modify 3 (fill [.iface 235 (.pointer (some ⟨n + 1, 0, none⟩))])
  let h := h.modify 5 (fill ((List.range 20).map fun (i : Nat) => Value.int .u64 (10 ^ i : Nat)))
  let h := h.modify 6 (fill (litsOf Rows.laid_math_bits_deBruijn32tab))
  let h := h.modify 7 (fill (litsOf Rows.laid_math_bits_deBruijn64tab))
  { w with heap := h }
end Go.Proofs.YtlinmeafofmmoaaGreatDoor
