/- Layer 1: the document's examples hold. -/
import Derived.Test.YthggoohchjifnaaDoorUtfG
set_option linter.unusedVariables false
set_option linter.unusedSimpArgs false
namespace Go.Proofs.YthggoohchjifnaaDoor.Utf
open Go Go.Proofs.YthggoohchjifnaaDoor Go.RowKit
set_option maxRecDepth 100000

theorem Check_eq (v : Value) (l : List UInt8) (w : World) (hv : Bytes w v l) (k : Nat) (E : Int) (hk : check l = k) (hE : checkE l = E) :
    Calls Tryd.prog 90 #[v] w fun e w' => e = .returned (.tuple #[.int .i64 k, .int .i64 E]) ∧ Below w.heap.size w w' := by
  subst hk; subst hE; exact Check_any v l w hv
theorem Tabs.alloc {w : World} (h : Tabs w) (o : Obj) : Tabs (w.alloc o) := h.below ((Below.refl w.heap.size w).alloc (Nat.le_refl _) o) (Nat.le_refl _)

theorem kinds_first (c : Int) (h : first c = true) : next c = true ∧ fine c = true := by
  refine ⟨(next_iff c).2 (.inl h), ?_⟩
  rw [first_iff] at h; rw [fine_iff]; rw [fine_iff] at h; omega
theorem kinds_next (c : Int) (h : next c = true) : part c = true ∧ fine c = true := by
  refine ⟨(part_iff c).2 (.inl h), ?_⟩
  rcases (next_iff c).1 h with h | h
  · exact (kinds_first c h).2
  · rw [fine_iff]; omega
theorem kinds_space (c : Int) (h : space c = true) : part c = false ∧ fine c = true := by
  rw [space_iff] at h
  refine ⟨?_, by rw [fine_iff]; omega⟩
  rw [← Bool.not_eq_true, part_iff, next_iff, first_iff]; omega

end Go.Proofs.YthggoohchjifnaaDoor.Utf
