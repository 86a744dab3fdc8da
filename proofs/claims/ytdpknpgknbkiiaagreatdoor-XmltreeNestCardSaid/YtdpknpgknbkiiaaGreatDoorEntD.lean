/- Layer 3: contract of the document's own answer on references: reference. -/
import Derived.Test.YtdpknpgknbkiiaaGreatDoorEntC
import Derived.Deep.RegionWith
set_option linter.unusedVariables false
set_option linter.unusedSimpArgs false
namespace Go.Proofs.YtdpknpgknbkiiaaGreatDoor.Ent
open Go Go.Proofs.YtdpknpgknbkiiaaGreatDoor Go.Proofs.YtdpknpgknbkiiaaGreatDoor.Utf Go.RowKit
set_option maxRecDepth 100000

/-- A reference that is a name, whole; and its character. -/
def nm (k : Nat) : List UInt8 := 38 :: ((nameds.getD k ([], 0)).1 ++ [59])
def ch (k : Nat) : Nat := (nameds.getD k ([], 0)).2
/-- The first k names aren't there. -/
def referFrom (k : Nat) (l : List UInt8) : Nat × Nat :=
  match (nameds.drop k).find? (fun p => pre (38 :: (p.1 ++ [59])) l) with
  | some p => (p.2, p.1.length + 2)
  | none => if pre [38, 35, 120] l = true then up 3 (numb 16 6 (l.drop 3)) else if pre [38, 35] l = true then up 2 (numb 10 7 (l.drop 2)) else (0, 0)
theorem from_zero (l : List UInt8) : refer l = referFrom 0 l := rfl
theorem drop_named (k : Nat) (hk : k < 5) : nameds.drop k = nameds.getD k ([], 0) :: nameds.drop (k + 1) := by
  rcases (by omega : k = 0 ∨ k = 1 ∨ k = 2 ∨ k = 3 ∨ k = 4) with rfl | rfl | rfl | rfl | rfl <;> rfl
theorem from_hit {k : Nat} {l : List UInt8} (hk : k < 5) (h : pre (nm k) l = true) : referFrom k l = (ch k, (nm k).length) := by
  unfold referFrom
  rw [drop_named k hk, List.find?_cons]
  unfold nm at h ⊢
  rw [h]
  simp [ch]
theorem from_miss {k : Nat} {l : List UInt8} (hk : k < 5) (h : pre (nm k) l = false) : referFrom k l = referFrom (k + 1) l := by
  unfold referFrom
  rw [drop_named k hk, List.find?_cons]
  unfold nm at h
  rw [h]
theorem from_end (l : List UInt8) : referFrom 5 l = if pre [38, 35, 120] l = true then up 3 (numb 16 6 (l.drop 3)) else if pre [38, 35] l = true then up 2 (numb 10 7 (l.drop 2)) else (0, 0) := rfl

theorem nm_len (k : Nat) (hk : k < 5) : (nm k).length ≤ 1000000000 := by
  rcases (by omega : k = 0 ∨ k = 1 ∨ k = 2 ∨ k = 3 ∨ k = 4) with rfl | rfl | rfl | rfl | rfl <;> decide

end Go.Proofs.YtdpknpgknbkiiaaGreatDoor.Ent
