/- Layer 2: the iterator of SplitSeq: it tells the pieces between blanks. -/
import Derived.Test.YtblpckeimdmpaaaGreatDoorNamesS
import Derived.Test.YtblpckeimdmpaaaGreatDoorNamesMath2
import Derived.Test.YtblpckeimdmpaaaGreatDoorRange
import Derived.RangeFuncBox
import Derived.RangeFuncWrites
import Derived.Shelf.Abstract
import Derived.Shelf.AbstractIn
import Derived.Shelf.RegionOpen
import Derived.OwnWalkIn
import Derived.TacticsInMore
import Derived.LoopNIn
import Derived.LoopIn
set_option linter.unusedVariables false
set_option linter.unusedSimpArgs false
namespace Go.Proofs.YtblpckeimdmpaaaGreatDoor.Names
open Go Go.Proofs.YtblpckeimdmpaaaGreatDoor Go.Proofs.YtblpckeimdmpaaaGreatDoor.Utf Go.RowKit Go.Shelf
set_option maxRecDepth 100000
attribute [local go_sem] Oper.semAt_some

/-- The steps that the iterator takes between two rounds: it writes its own variable. -/
def Turns (b : Nat) (A B : World) : Prop := A.grownBy B (some b) ∧ ∃ v, Boxed A b 9 v
theorem Turns.others {b : Nat} {A B : World} (h : Turns b A B) : KeepsOthers A B := by
  obtain ⟨hg, v, hv⟩ := h
  refine KeepsOthers.of_grownBy hg fun j o e ho => ?_
  cases e
  rw [show A.heap[b]? = _ from hv] at ho
  cases ho
  rfl

/-- What the iterator has captured: its text, the blank, and 0. -/
structure Holds (W : World) (b : Nat) (r : List UInt8) : Prop where
  txt : Boxed W b 9 (.string (text r))
  sep : Boxed W (b + 1) 9 (.string ⟨#[32]⟩)
  sav : Boxed W (b + 2) 3 (.int .i64 0)
theorem Holds.below {W W' : World} {b B : Nat} {r : List UInt8} (h : Holds W b r) (hb : Below B W W') (hB : b + 3 ≤ B) : Holds W' b r :=
  ⟨(hb.block b (by omega)).trans h.txt, (hb.block (b + 1) (by omega)).trans h.sep, (hb.block (b + 2) (by omega)).trans h.sav⟩
theorem Holds.set {W : World} {b : Nat} {r : List UInt8} (h : Holds W b r) (r' : List UInt8) : Holds (W.setCell ⟨b, 0, none⟩ (.string (text r'))) b r' :=
  ⟨h.txt.set _, h.sep.other (by omega) _, h.sav.other (by omega) _⟩

/-- What the iterator has captured stays. -/
def Three (b : Nat) (A B : World) : Prop := ∀ j, b ≤ j → j < b + 3 → B.heap[j]? = A.heap[j]?
theorem Three.trans {b : Nat} {A B C : World} (h : Three b A B) (k : Three b B C) : Three b A C := fun j h1 h2 => (k j h1 h2).trans (h j h1 h2)
theorem Three.put {b : Nat} (W : World) (l : Nat) (o : Obj) (hl : b + 3 ≤ l) : Three b W (W.putObj l o) := fun j h1 h2 => World.putObj_heap_other (by omega)
theorem Three.below {b B : Nat} {W W' : World} (h : Below B W W') (hB : b + 3 ≤ B) : Three b W W' := fun j h1 h2 => h.block j (by omega)
theorem Holds.three {W W' : World} {b : Nat} {r : List UInt8} (h : Holds W b r) (hb : Three b W W') : Holds W' b r :=
  ⟨(hb b (by omega) (by omega)).trans h.txt, (hb (b + 1) (by omega) (by omega)).trans h.sep, (hb (b + 2) (by omega) (by omega)).trans h.sav⟩

/-- How much of the text is left. -/
def leftOf (b : Nat) (W : World) : Nat := match W.cell? ⟨b, 0, none⟩ with | some (.string s) => s.size | _ => 0
theorem Holds.left {W : World} {b : Nat} {r : List UInt8} (h : Holds W b r) : leftOf b W = r.length := by
  unfold leftOf; rw [h.txt.cell]; exact text_size r
theorem drop_head {α : Type} {xs ys : List α} {k : Nat} {x : α} (h : xs.drop k = x :: ys) : xs[k]? = some x ∧ xs.drop (k + 1) = ys := by
  constructor
  · have := congrArg (fun z => z[0]?) h
    simpa using this
  · rw [← List.drop_drop, h]; rfl

end Go.Proofs.YtblpckeimdmpaaaGreatDoor.Names
