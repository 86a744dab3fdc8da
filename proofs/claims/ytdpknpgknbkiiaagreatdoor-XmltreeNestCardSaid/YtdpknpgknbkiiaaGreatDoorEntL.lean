/- Layer 3: contract of the document's own answer: Escape. -/
import Derived.Test.YtdpknpgknbkiiaaGreatDoorEntF
import Derived.Test.YtdpknpgknbkiiaaGreatDoorEntJ
import Derived.Test.YtdpknpgknbkiiaaGreatDoorConv
set_option linter.unusedVariables false
set_option linter.unusedSimpArgs false
namespace Go.Proofs.YtdpknpgknbkiiaaGreatDoor.Ent
open Go Go.Proofs.YtdpknpgknbkiiaaGreatDoor Go.Proofs.YtdpknpgknbkiiaaGreatDoor.Utf Go.Proofs.YtdpknpgknbkiiaaGreatDoor.Names Go.RowKit
set_option maxRecDepth 100000

theorem esc_snoc (v : Bool) (l : List UInt8) (k : Nat) (hk : k < l.length) : esc v (l.take (k + 1)) = esc v (l.take k) ++ escB v l[k] := by
  rw [List.take_succ_eq_append_getElem hk, esc_append]; simp [esc]
theorem byte_ne {b : UInt8} {n : UInt8} (h : ¬ b = n) : ¬ b.toNat = n.toNat := fun e => h (UInt8.toNat_inj.1 e)

/-- The document's own answer, as values. -/
def rescV (v : Bool) (l : List UInt8) : Value := if check l = l.length then .tuple #[.string (text (esc v l)), .bool true] else .tuple #[.string (text []), .bool false]

end Go.Proofs.YtdpknpgknbkiiaaGreatDoor.Ent
