/- What all statements of a seat of layer 11 have in common: the program's closed facts; what the listed variables give; a world for the witness. -/
import Derived.Test.YtkmdclfkmmlloaaGreatDoorXbN
import Derived.Test.YtkmdclfkmmlloaaGreatDoorXbG
import Derived.Test.YtkmdclfkmmlloaaGreatDoorOpen
import Derived.Deep.DeepHandedRow
import Derived.Deep.DeepLaidRun
import Derived.Lib.LaidU8
import Derived.LaidLaws
import Derived.LaidHandle
import Derived.Shelf.Vars
import Derived.PinnedBridge
import Derived.Test.YtkmdclfkmmlloaaGreatDoorRows
set_option linter.unusedVariables false
set_option linter.unusedSimpArgs false
namespace Go.Proofs.YtkmdclfkmmlloaaGreatDoor
open Go Go.ChangeShapes Go.WideShapes Go.ChangeAt Go.RowKit

theorem own : ownKnob Tryz.prog.godebug = none := by kernel_rfl
theorem laidOut : laidOutB Tryz.prog = true := by kernel_rfl

theorem err_name : Tryz.prog.globalNamed "errors.errorType" = some 2 := by kernel_rfl
theorem rtype_row : (Tryz.prog.cutTypes.find? (·.1 == "internal/reflectlite.rtype")).map (·.2) = some 235 := by kernel_rfl
theorem types_count : Tryz.prog.types.size + 100 = 393 := by kernel_rfl
theorem error_row : ((List.range (393 - 100)).filter fun t => Tryz.prog.rowNamed t [101, 114, 114, 111, 114]) = [98] := by kernel_rfl
theorem error_handle : typeHandle Tryz.prog 98 = .pointer (some ⟨10, 98, none⟩) := by kernel_rfl
/-- What the condition on errors.errorType gives. -/
theorem errT_of {W : World} (h : handlesMet Tryz.prog [("errors.errorType", Rows.laid_errors_errorType)] W) : Num.ErrT W := by
  obtain ⟨name, u, ty, e1, e2, e3, e4, e5⟩ := h _ (List.mem_singleton.2 rfl)
  have en : name = [101, 114, 114, 111, 114] := (Option.some.inj e1).symm
  subst en
  obtain rfl := Option.some.inj (rtype_row.symm.trans e2)
  have hm : ty ∈ (List.range (393 - 100)).filter fun t => Tryz.prog.rowNamed t [101, 114, 114, 111, 114] := List.mem_filter.2 ⟨List.mem_range.2 (by have := types_count; omega), e4⟩
  rw [error_row] at hm
  obtain rfl := List.mem_singleton.1 hm
  rw [error_handle] at e5
  unfold Num.ErrT
  simpa using World.var?_cell err_name e5 0
theorem maxl_of_shape {W : World} (h : W.ShapedOpen Tryz.prog) : Num.MaxL W :=
  cell_of_shapedOpen_int (zero := #[.int .i64 0]) (t := 3) h (of_decide_eq_true (by kernel_rfl)) (by kernel_rfl) rfl (by kernel_rfl) (by kernel_rfl) Tryz.underlying3

theorem errs_of_reads {W : World} (h : Lib.VarReads Tryz.prog W "strconv.ErrSyntax" Rows.laid_strconv_ErrSyntax) : Fx.Errs W := by
  obtain ⟨g, t, cs, fuel, p, h1, h2, h3, h4⟩ := h
  have e1 : Tryz.prog.globalNamed "strconv.ErrSyntax" = some 3 := by kernel_rfl
  have hg : 3 = g := Option.some.inj (e1.symm.trans h1)
  subst hg
  have e2 : (Tryz.prog.globals[3]?).map (·.type) = some 98 := by kernel_rfl
  have ht : 98 = t := Option.some.inj (e2.symm.trans h2)
  subst ht
  obtain ⟨_, u, v, hcs, _⟩ := iface_of_trod Tryz.underlying98 h4
  unfold World.var? at h3
  rw [h1] at h3
  simp only [Option.bind_some] at h3
  split at h3
  · rename_i x y z hx
    injection h3 with h3
    subst h3
    refine ⟨.iface u v, ?_, .inr ⟨u, v, rfl⟩⟩
    rw [Lib.cell_of_heap hx]
    have := congrArg (·[0]?) hcs
    simpa using this
  · cases h3

/-- An array of texts that reads as a list of them holds them, cell for cell. -/
theorem cells_of_strs {H : Type} {enc : TypeId × Value → H} {P : Program} {w : World} {base : Nat} {sp : Nat → Bool} {held : Bool} {fuel : Nat} {t e : TypeId} {n : Nat} {cs : List Value} {ls : List (List UInt8)} {p : List MemPlace}
    (ht : P.underlying t = some (.array n e)) (he : P.underlying e = some .string) (hce : P.cellsOf e = 1) (hct : P.cellsOf t = n)
    (h : DataW.trod enc P w base sp held fuel t cs = some (.agg (ls.map fun l => .lit (.string l)), p)) : cs = ls.map fun l => Value.string (text l) := by
  obtain ⟨xs, m, _, hx, hlen, hl, hg⟩ := DataW.trod_array ht h
  have hxs : xs.map (·.1) = ls.map fun l => (DataW.lit (.string l) : DataW H) := by
    have := congrArg Prod.fst hx
    simpa using this.symm
  have hll : ls.length = n := by
    have := congrArg List.length hxs
    simp at this
    omega
  rw [hct] at hlen
  apply List.ext_getElem
  · simp; omega
  intro i h1 h2
  have hi : i < n := by omega
  have g := hg i hi
  have hix : i < xs.length := by omega
  have hil : i < ls.length := by omega
  rw [hce, Nat.mul_one, List.drop_eq_getElem_cons h1, List.take_succ_cons, List.take_zero, List.getElem?_eq_getElem hix] at g
  obtain ⟨s, e0, d0, _⟩ := DataW.trod_string he g
  simp only [List.cons.injEq, and_true] at e0
  have hd : xs[i].1 = (DataW.lit (.string ls[i]) : DataW H) := by
    have := congrArg (·[i]?) hxs
    simpa [hix, hil] using this
  rw [d0] at hd
  have hs : s.data.toList = ls[i] := by
    injection hd with hd
    injection hd
  rw [e0, List.getElem_map]
  congr 1
  rw [← hs]
  simp [text]

theorem signs_datum : (Rows.laid_tipstave_feellex_signs : DataW Unit) = .agg (Fx.signsL.map fun l => .lit (.string l)) := by rfl
theorem signs_of_reads {W : World} (h : Lib.VarReads Tryz.prog W "tipstave/feellex.signs" Rows.laid_tipstave_feellex_signs) : Fx.Signs W := by
  obtain ⟨g, t, cs, fuel, p, h1, h2, h3, h4⟩ := h
  have e1 : Tryz.prog.globalNamed "tipstave/feellex.signs" = some 0 := by kernel_rfl
  have hg : 0 = g := Option.some.inj (e1.symm.trans h1)
  subst hg
  have e2 : (Tryz.prog.globals[0]?).map (·.type) = some 103 := by kernel_rfl
  have ht : 103 = t := Option.some.inj (e2.symm.trans h2)
  subst ht
  rw [signs_datum] at h4
  have hc := cells_of_strs Tryz.underlying103 Tryz.underlying9 (by kernel_rfl) (by kernel_rfl) h4
  have hcs : cs = Fx.signV := by
    obtain ⟨l⟩ := cs
    have : l = (Fx.signsL.map fun l => Value.string (text l)) := hc
    rw [this]
    rfl
  subst hcs
  unfold World.var? at h3
  rw [h1] at h3
  simp only [Option.bind_some] at h3
  split at h3
  · rename_i x y z hx
    injection h3 with h3
    subst h3
    exact ⟨_, _, hx⟩
  · cases h3

/-- A block of cells, filled. -/
def fill (l : List Value) : Obj → Obj
  | .cells _ t frozen => .cells l.toArray t frozen
  | o => o
/-- The values that a reading lists. -/
def litsOf : DataW Unit → List Value
  | .agg ds => ds.map fun d => match d with | .lit (.int k n) => .int k n | _ => undef
  | _ => []
/-- A world in which all that is listed holds what its text lays. -/
noncomputable def laidWorldP (os : Os) : World :=
  let w := World.holding Tryz.prog os ⟨#[], #[], []⟩
  let n := w.heap.size
  let h := w.heap.push (.cells #[.string ⟨#[118, 97, 108, 117, 101, 32, 111, 117, 116, 32, 111, 102, 32, 114, 97, 110, 103, 101]⟩] 250)
  let h := h.push (.cells #[.string ⟨#[105, 110, 118, 97, 108, 105, 100, 32, 115, 121, 110, 116, 97, 120]⟩] 250)
  let h := h.modify 4 (fill [.iface 248 (.pointer (some ⟨n, 0, none⟩))])
  let h := h.modify 3 (fill [.iface 248 (.pointer (some ⟨n + 1, 0, none⟩))])
  let h := h.modify 7 (fill ((List.range 20).map fun (i : Nat) => Value.int .u64 (10 ^ i : Nat)))
  let h := h.modify 8 (fill (litsOf Rows.laid_math_bits_deBruijn32tab))
  let h := h.modify 9 (fill (litsOf Rows.laid_math_bits_deBruijn64tab))
  let h := h.modify 0 (fill Fx.signV.toList)
  let h := h.modify 5 (fill (Pinned.utf8FirstZ.map fun (n : Nat) => Value.int .u8 n))
  let h := h.modify 6 (fill (((List.range 16).flatMap fun i => [Lib.accLo i, Lib.accHi i]).map fun (n : Nat) => Value.int .u8 n))
  let h := h.modify 2 (fill [.iface 235 (.agg #[.pointer (some ⟨10, 98, none⟩)])])
  { w with heap := h }
end Go.Proofs.YtkmdclfkmmlloaaGreatDoor
