/- Layer 3: the document's examples; the walks of EntityTells and EntityEscapes. -/
import Derived.Test.YtdpknpgknbkiiaaGreatDoorEntI
import Derived.Test.YtdpknpgknbkiiaaGreatDoorEntK
import Derived.Test.YtdpknpgknbkiiaaGreatDoorEntL
import Derived.Test.YtdpknpgknbkiiaaGreatDoorEntMath2
set_option linter.unusedVariables false
set_option linter.unusedSimpArgs false
namespace Go.Proofs.YtdpknpgknbkiiaaGreatDoor.Ent
open Go Go.Proofs.YtdpknpgknbkiiaaGreatDoor Go.Proofs.YtdpknpgknbkiiaaGreatDoor.Utf Go.RowKit
set_option maxRecDepth 100000

/-- What all statements ask of the world: the library's tables, and its error. -/
def Fit (w : World) : Prop := Tabs w ∧ Errs w
theorem Fit.below {w w' : World} (h : Fit w) (hb : Below w.heap.size w w') : Fit w' := ⟨h.1.below hb (Nat.le_refl _), h.2.below hb (Nat.le_refl _)⟩

theorem Text_eq (l : List UInt8) (hl : l.length ≤ 1000000) (x : List UInt8) (n k : Nat) (h : tell false l = (x, n, k)) (a : ByteArray) (ha : a = text l) (w : World) (hw : Fit w) :
    Calls Tryz.prog 50 #[.string a] w fun e w' => e = .returned (.tuple #[.string (text x), .int .i64 n, .int .i64 k]) ∧ Below w.heap.size w w' := by
  subst ha
  have := Text_any l hl w hw.1 hw.2
  rw [h] at this; exact this
theorem Value_eq (l : List UInt8) (hl : l.length ≤ 1000000) (x : List UInt8) (n k : Nat) (h : tell true l = (x, n, k)) (a : ByteArray) (ha : a = text l) (w : World) (hw : Fit w) :
    Calls Tryz.prog 110 #[.string a] w fun e w' => e = .returned (.tuple #[.string (text x), .int .i64 n, .int .i64 k]) ∧ Below w.heap.size w w' := by
  subst ha
  have := Value_any l hl w hw.1 hw.2
  rw [h] at this; exact this

end Go.Proofs.YtdpknpgknbkiiaaGreatDoor.Ent
