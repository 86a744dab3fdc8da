/- Layer 3: contract of the document's own answer: Tell. -/
import Derived.Test.YtdpknpgknbkiiaaGreatDoorEntD
import Derived.Test.YtdpknpgknbkiiaaGreatDoorConv
import Derived.Test.YtdpknpgknbkiiaaGreatDoorApp
set_option linter.unusedVariables false
set_option linter.unusedSimpArgs false
namespace Go.Proofs.YtdpknpgknbkiiaaGreatDoor.Ent
open Go Go.Proofs.YtdpknpgknbkiiaaGreatDoor Go.Proofs.YtdpknpgknbkiiaaGreatDoor.Utf Go.RowKit
set_option maxRecDepth 100000

theorem info8' : (Tryz.prog.info? 5).map (fun i => (i.zero, i.size, i.bytes)) = some (some (.int .u8 0), 1, 1) := by kernel_rfl

/-- What is told, as values. -/
def tellV (r : List UInt8 × Nat × Nat) : Value := .tuple #[.string (text r.1), .int .i64 r.2.1, .int .i64 r.2.2]

theorem rune_at (c : Nat) (h : c < 128) (hf : fine (c : Int) = true) (r : List UInt8) : rune (UInt8.ofNat c :: r) = (c, 1) := by
  have := rune_enc c hf r
  rw [enc_low h] at this
  exact this
theorem rune_crlf {m : List UInt8} (h : pre [13, 10] m = true) : rune m = (13, 1) := by
  obtain ⟨r, rfl⟩ := (pre_iff _ _).1 h
  exact rune_at 13 (by omega) (by decide) (10 :: r)

theorem item_bad {v : Bool} {m : List UInt8} (h : (rune m).2 = 0) : item v m = (0, 0, 4) := by unfold item; rw [if_pos h]
theorem item_lt {v : Bool} {m : List UInt8} (h0 : ¬ (rune m).2 = 0) (h : (rune m).1 = 60) : item v m = (0, 0, 5) := by unfold item; rw [if_neg h0, if_pos h]
theorem item_amp_no {v : Bool} {m : List UInt8} (h0 : ¬ (rune m).2 = 0) (h1 : ¬ (rune m).1 = 60) (h : (rune m).1 = 38) (hr : (refer m).2 = 0) : item v m = (0, 0, 5) := by unfold item; rw [if_neg h0, if_neg h1, if_pos h, if_pos hr]
theorem item_amp {v : Bool} {m : List UInt8} (h0 : ¬ (rune m).2 = 0) (h1 : ¬ (rune m).1 = 60) (h : (rune m).1 = 38) (hr : ¬ (refer m).2 = 0) : item v m = ((refer m).1, (refer m).2, 0) := by unfold item; rw [if_neg h0, if_neg h1, if_pos h, if_neg hr]
theorem item_own {v : Bool} {m : List UInt8} (h0 : ¬ (rune m).2 = 0) (h1 : ¬ (rune m).1 = 60) (h : ¬ (rune m).1 = 38) (hp : pre [13, 10] m = false) : item v m = (itself v (rune m).1, (rune m).2, 0) := by
  unfold item; rw [if_neg h0, if_neg h1, if_neg h, hp]; rfl
theorem item_crlf {v : Bool} {m : List UInt8} (hp : pre [13, 10] m = true) : item v m = (itself v 13, 2, 0) := by
  have e := rune_crlf hp
  unfold item; rw [e, if_neg (by decide), if_neg (by decide), if_neg (by decide), hp]; rfl

end Go.Proofs.YtdpknpgknbkiiaaGreatDoor.Ent
