/- The statement ScopeNone: the call returns true, whatever it is given, and leaves its arguments as they were. On the condition that the two tables of the library hold what their text lays (tied to that text by the given card). -/
import Derived.Test.YthggoohchjifnaaDoorCards
import Derived.Test.YthggoohchjifnaaDoorTie
import Derived.Test.YthggoohchjifnaaDoorCommon
import Derived.Test.YthggoohchjifnaaDoorScQ
set_option linter.unusedVariables false
set_option linter.unusedSimpArgs false
namespace Go.Proofs.YthggoohchjifnaaDoor.lawScopeNone
open Go Go.Proofs.YthggoohchjifnaaDoor Go.ChangeShapes Go.WideShapes Go.ChangeAt Go.RowKit


theorem laid_met (os : Os) : laidMet Tryd.prog Rows.scopeNoneRow.laid ((laidWorld os).forCall (fun _ _ => 0) ⟨#[], #[Value.slice none 0 0, Value.string ByteArray.empty], []⟩).memory :=
  laidMet_of_run3 8 (by kernel_rfl) (by kernel_rfl) (by kernel_rfl)
theorem reads (os : Os) {H : Type} (enc : TypeId × Value → H) : ∃ places, DataW.whole enc Tryd.prog ((laidWorld os).forCall (fun _ _ => 0) ⟨#[], #[Value.slice none 0 0, Value.string ByteArray.empty], []⟩).memory Tryd.f5.params.toList Rows.scopeNoneSpec.vars false (#[Value.slice none 0 0, Value.string ByteArray.empty] : Array Value).toList 8 = some ([DataW.nil, DataW.lit (.string [])], [], places) :=
  ⟨[], by kernel_rfl⟩

theorem plain (f : FuncId) (fn : Func) (hf : Tryd.pinned.checked.prog.funcNamed "tipstave/tipstavelaw09.ScopeNone" = some f) (hfn : Tryd.pinned.checked.prog.funcs[f]? = some fn) :
    false = Tryd.pinned.checked.prog.looks [] ∧ ∀ (j : Nat) t, fn.params[j]? = some t → Tryd.pinned.checked.prog.wantsStandIn t = false := by
  obtain rfl : f = 5 := Option.some.inj ((show Tryd.prog.funcNamed "tipstave/tipstavelaw09.ScopeNone" = some 5 by kernel_rfl).symm.trans hf) |>.symm
  obtain rfl : fn = Tryd.f5 := (Option.some.inj (Tryd.func5.symm.trans hfn)).symm
  refine ⟨by kernel_rfl, fun j t ht => ?_⟩
  rw [Tryd.params5] at ht
  have hm := Array.mem_of_getElem? ht
  simp only [List.mem_toArray, List.mem_cons, List.mem_nil_iff, or_false] at hm
  rcases hm with rfl | rfl
  · exact (show Tryd.prog.wantsStandIn 22 = false by kernel_rfl)
  · exact (show Tryd.prog.wantsStandIn 9 = false by kernel_rfl)

end Go.Proofs.YthggoohchjifnaaDoor.lawScopeNone
