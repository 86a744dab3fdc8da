/- Layer 1: contracts of the functions that ask of a number which kind of character it is. -/
import Derived.Test.YtdpknpgknbkiiaaGreatDoorChecked
import Derived.Test.YtdpknpgknbkiiaaGreatDoorUtfMath
import Derived.WalkKit
import Derived.WalkSpells
import Derived.WalkLawsBesides
set_option linter.unusedVariables false
set_option linter.unusedSimpArgs false
namespace Go.Proofs.YtdpknpgknbkiiaaGreatDoor.Utf
open Go Go.Proofs.YtdpknpgknbkiiaaGreatDoor Go.RowKit

theorem ret_bool {a b : Bool} (h : a = b) : Ending.returned (.bool a) = .returned (.bool b) := by rw [h]

set_option maxHeartbeats 400000 in
theorem within_any (c a b : Int) (w : World) :
    Calls Tryz.prog 58 #[.int .i64 c, .int .i64 a, .int .i64 b] w fun e w' => e = .returned (.bool (decide (a ≤ c ∧ c ≤ b))) ∧ w = w' := by
  go_enter Tryz.func58, Tryz.ntmps58
  go_wp2
  all_goals go_ret
  all_goals exact ⟨ret_bool (by simp; try omega), rfl⟩

set_option maxHeartbeats 1000000 in
theorem Fine_any (c : Int) (w : World) :
    Calls Tryz.prog 37 #[.int .i64 c] w fun e w' => e = .returned (.bool (fine c)) ∧ w = w' := by
  go_enter Tryz.func37, Tryz.ntmps37
  go_wp2
  all_goals go_ret
  all_goals exact ⟨ret_bool (by rw [Bool.eq_iff_iff, fine_iff]; simp; try omega), rfl⟩

set_option maxHeartbeats 1000000 in
theorem Space_any (c : Int) (w : World) :
    Calls Tryz.prog 38 #[.int .i64 c] w fun e w' => e = .returned (.bool (space c)) ∧ w = w' := by
  go_enter Tryz.func38, Tryz.ntmps38
  go_wp2
  all_goals go_ret
  all_goals exact ⟨ret_bool (by rw [Bool.eq_iff_iff, space_iff]; simp; try omega), rfl⟩

set_option maxHeartbeats 1000000 in
theorem letter_any (c : Int) (w : World) :
    Calls Tryz.prog 107 #[.int .i64 c] w fun e w' => e = .returned (.bool (first c)) ∧ w = w' := by
  go_enter Tryz.func107, Tryz.ntmps107
  go_wp2_with (first
    | (go_at_call 58; refine (within_any _ _ _ _).mono ?_; rintro e w' ⟨rfl, rfl⟩)
    | (go_at_call 37; refine (Fine_any _ _).mono ?_; rintro e w' ⟨rfl, rfl⟩))
  all_goals go_ret
  all_goals exact ⟨ret_bool (by rw [Bool.eq_iff_iff, first_iff]; cases hf : fine c <;> simp_all <;> try omega), rfl⟩

end Go.Proofs.YtdpknpgknbkiiaaGreatDoor.Utf
