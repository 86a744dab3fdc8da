/- Layer 1: contracts of the document's own answers: low, Rune, Check. -/
import Derived.Test.YtdpknpgknbkiiaaGreatDoorUtfE
set_option linter.unusedVariables false
set_option linter.unusedSimpArgs false
namespace Go.Proofs.YtdpknpgknbkiiaaGreatDoor.Utf
open Go Go.Proofs.YtdpknpgknbkiiaaGreatDoor Go.RowKit

/-- The lower six bits of bytes, together; -1: one of them isn't from 128 to 191. -/
def lowV : Int → List UInt8 → Int
  | n, [] => n
  | n, b :: r => if b.toNat / 64 = 2 then lowV (64 * n + (b.toNat - 128)) r else -1
theorem lowV_at (n : Int) (l : List UInt8) (k : Nat) (hk : k < l.length) : lowV n (l.drop k) = if l[k].toNat / 64 = 2 then lowV (64 * n + (l[k].toNat - 128)) (l.drop (k + 1)) else -1 := by
  rw [List.drop_eq_getElem_cons hk, lowV]

def LowRel (l : List UInt8) (k : Nat) (m : Int) : Prop := k ≤ l.length ∧ lowV m (l.drop k) = lowV 0 l ∧ 0 ≤ m ∧ (k = 0 → m = 0) ∧ (k = 1 → m < 64) ∧ (k = 2 → m < 4096) ∧ (k = 3 → m < 262144)

end Go.Proofs.YtdpknpgknbkiiaaGreatDoor.Utf
