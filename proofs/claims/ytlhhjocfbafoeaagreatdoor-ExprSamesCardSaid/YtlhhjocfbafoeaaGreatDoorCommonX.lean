/- What all statements of a seat of layer 7 have in common: the program's closed facts; what the listed variables give; a world for the witness; a number as an argument. -/
import Derived.Test.YtlhhjocfbafoeaaGreatDoorXbN
import Derived.Test.YtlhhjocfbafoeaaGreatDoorOpen
import Derived.Deep.DeepHandedRow
import Derived.Deep.DeepLaidRun
import Derived.Lib.LaidU8
import Derived.LaidLaws
import Derived.LaidHandle
import Derived.Shelf.Vars
import Derived.PinnedBridge
import Derived.Test.YtlhhjocfbafoeaaGreatDoorRows
set_option linter.unusedVariables false
set_option linter.unusedSimpArgs false
namespace Go.Proofs.YtlhhjocfbafoeaaGreatDoor
open Go Go.ChangeShapes Go.WideShapes Go.ChangeAt Go.RowKit

theorem own : ownKnob Tryz.prog.godebug = none := by kernel_rfl
theorem laidOut : laidOutB Tryz.prog = true := by kernel_rfl

theorem err_name : Tryz.prog.globalNamed "errors.errorType" = some 0 := by kernel_rfl
theorem rtype_row : (Tryz.prog.cutTypes.find? (·.1 == "internal/reflectlite.rtype")).map (·.2) = some 207 := by kernel_rfl
theorem types_count : Tryz.prog.types.size + 100 = 356 := by kernel_rfl
theorem error_row : ((List.range (356 - 100)).filter fun t => Tryz.prog.rowNamed t [101, 114, 114, 111, 114]) = [138] := by kernel_rfl
theorem error_handle : typeHandle Tryz.prog 138 = .pointer (some ⟨4, 138, none⟩) := by kernel_rfl
/-- What the condition on errors.errorType gives. -/
theorem errT_of {W : World} (h : handlesMet Tryz.prog [("errors.errorType", Rows.laid_errors_errorType)] W) : Num.ErrT W := by
  obtain ⟨name, u, ty, e1, e2, e3, e4, e5⟩ := h _ (List.mem_singleton.2 rfl)
  have en : name = [101, 114, 114, 111, 114] := (Option.some.inj e1).symm
  subst en
  obtain rfl := Option.some.inj (rtype_row.symm.trans e2)
  have hm : ty ∈ (List.range (356 - 100)).filter fun t => Tryz.prog.rowNamed t [101, 114, 114, 111, 114] := List.mem_filter.2 ⟨List.mem_range.2 (by have := types_count; omega), e4⟩
  rw [error_row] at hm
  obtain rfl := List.mem_singleton.1 hm
  rw [error_handle] at e5
  unfold Num.ErrT
  simpa using World.var?_cell err_name e5 0
theorem maxl_of_shape {W : World} (h : W.ShapedOpen Tryz.prog) : Num.MaxL W :=
  cell_of_shapedOpen_int (zero := #[.int .i64 0]) (t := 3) h (of_decide_eq_true (by kernel_rfl)) (by kernel_rfl) rfl (by kernel_rfl) (by kernel_rfl) Tryz.underlying3

/-- A block of cells, filled. -/
def fill (l : List Value) : Obj → Obj
  | .cells _ t frozen => .cells l.toArray t frozen
  | o => o
/-- A world in which all that is listed holds what its text lays. -/
noncomputable def laidWorldN (os : Os) : World :=
  let w := World.holding Tryz.prog os ⟨#[], #[], []⟩
  let h := w.heap.modify 2 (fill (Pinned.utf8FirstZ.map fun (n : Nat) => Value.int .u8 n))
  let h := h.modify 3 (fill (((List.range 16).flatMap fun i => [Lib.accLo i, Lib.accHi i]).map fun (n : Nat) => Value.int .u8 n))
  { w with heap := h.modify 0 (fill [.iface 207 (.agg #[.pointer (some ⟨4, 138, none⟩)])]) }

section
variable {H : Type} {enc : TypeId × Value → H} {W : World}
set_option maxRecDepth 100000 in
/-- A number that came in. -/
theorem open_num {base : Nat} {v : Value} {d : DataW H} {ps : List MemPlace} (hval : Value.okWide Tryz.prog W .any base 109 v) (h : DataW.Trod enc Tryz.prog W 0 (fun _ => true) true 109 v d ps)
    {ts : List TypeId} {ds : List (DataW H)} (hsz : (DataW.weightsEach Tryz.prog ts ds).all (· ≤ reachBytes) = true) (j : Nat) (hts : ts[j]? = some 109) (hds : ds[j]? = some d) :
    ∃ (l : List UInt8) (s : Int), v = Num.numZ l s ∧ l.length ≤ 140737488351232 := by
  have hv : ∃ cs, v = .agg cs := by
    simp only [Value.okWide, Tryz.underlying109] at hval
    obtain ⟨cs, h1, _⟩ := hval
    exact ⟨cs, h1⟩
  obtain ⟨cs, rfl⟩ := hv
  obtain ⟨fuel, hf⟩ := h
  have c2 : Tryz.prog.cellsOf 109 = 2 := by kernel_rfl
  have cS : Tryz.prog.cellsOf 9 = 1 := by kernel_rfl
  have cI : Tryz.prog.cellsOf 3 = 1 := by kernel_rfl
  obtain ⟨ys, k, _, hy, hcl, hyl, hg⟩ := DataW.trod_struct Tryz.underlying109 hf
  rw [c2] at hcl
  obtain ⟨cl⟩ := cs
  match ys, hyl, cl, hcl with
  | [y0, y1], _, [v0, v1], _ =>
    have h0 := hg 0 _ rfl
    have h1 := hg 1 _ rfl
    simp [cS, cI, Value.cells] at h0 h1
    obtain ⟨s0, e0, d0, _⟩ := DataW.trod_string Tryz.underlying9 h0
    obtain ⟨s1, e1, d1, w1⟩ := DataW.trod_int Tryz.underlying3 h1
    simp only [List.cons.injEq, and_true] at e0 e1
    subst e0 e1 d0 d1
    have hd : d = .agg [.lit (.string s0.data.toList), .lit (.int .i64 s1)] := by simpa using congrArg Prod.fst hy
    subst hd
    have big := fun n hn => List.all_eq_true.1 hsz n (DataW.weights_mem_each hts hds n hn)
    have b0 := big s0.data.toList.length (by simp [DataW.weights, DataW.weightsAll, DataW.weightsEach, Tryz.underlying109, Tryz.underlying9])
    exact ⟨s0.data.toList, s1, by unfold Num.numZ; simp [text], of_decide_eq_true b0⟩
end
end Go.Proofs.YtlhhjocfbafoeaaGreatDoor
