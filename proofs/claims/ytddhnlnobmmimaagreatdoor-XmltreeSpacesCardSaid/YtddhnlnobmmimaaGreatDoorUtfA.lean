/- Layer 1: contracts of the functions that ask of a number which kind of character it is. -/
import Derived.Test.YtddhnlnobmmimaaGreatDoorChecked
import Derived.Test.YtddhnlnobmmimaaGreatDoorUtfMath
import Derived.WalkKit
import Derived.WalkSpells
import Derived.WalkLawsBesides
set_option linter.unusedVariables false
set_option linter.unusedSimpArgs false
namespace Go.Proofs.YtddhnlnobmmimaaGreatDoor.Utf
open Go Go.Proofs.YtddhnlnobmmimaaGreatDoor Go.RowKit

theorem ret_bool {a b : Bool} (h : a = b) : Ending.returned (.bool a) = .returned (.bool b) := by rw [h]

set_option maxHeartbeats 400000 in
theorem within_any (c a b : Int) (w : World) :
    Calls Tryz.prog 165 #[.int .i64 c, .int .i64 a, .int .i64 b] w fun e w' => e = .returned (.bool (decide (a ≤ c ∧ c ≤ b))) ∧ w = w' := by
  go_enter Tryz.func165, Tryz.ntmps165
  go_wp2
  all_goals go_ret
  all_goals exact ⟨ret_bool (by simp; try omega), rfl⟩

set_option maxHeartbeats 1000000 in
theorem Fine_any (c : Int) (w : World) :
    Calls Tryz.prog 129 #[.int .i64 c] w fun e w' => e = .returned (.bool (fine c)) ∧ w = w' := by
  go_enter Tryz.func129, Tryz.ntmps129
  go_wp2
  all_goals go_ret
  all_goals exact ⟨ret_bool (by rw [Bool.eq_iff_iff, fine_iff]; simp; try omega), rfl⟩

set_option maxHeartbeats 1000000 in
theorem RFine_any (c : Int) (w : World) :
    Calls Tryz.prog 143 #[.int .i64 c] w fun e w' => e = .returned (.bool (fine c)) ∧ w = w' := by
  go_enter Tryz.func143, Tryz.ntmps143
  go_wp2
  all_goals go_ret
  all_goals exact ⟨ret_bool (by rw [Bool.eq_iff_iff, fine_iff]; simp; try omega), rfl⟩

set_option maxHeartbeats 1000000 in
theorem Space_any (c : Int) (w : World) :
    Calls Tryz.prog 130 #[.int .i64 c] w fun e w' => e = .returned (.bool (space c)) ∧ w = w' := by
  go_enter Tryz.func130, Tryz.ntmps130
  go_wp2
  all_goals go_ret
  all_goals exact ⟨ret_bool (by rw [Bool.eq_iff_iff, space_iff]; simp; try omega), rfl⟩

theorem RSpace_any (c : Int) (w : World) :
    Calls Tryz.prog 27 #[.int .i64 c] w fun e w' => e = .returned (.bool (space c)) ∧ w = w' := by
  go_enter Tryz.func27, Tryz.ntmps27
  go_wp2
  all_goals go_ret
  all_goals exact ⟨ret_bool (by rw [Bool.eq_iff_iff, space_iff]; simp; try omega), rfl⟩

set_option maxHeartbeats 1000000 in
theorem letter_any (c : Int) (w : World) :
    Calls Tryz.prog 183 #[.int .i64 c] w fun e w' => e = .returned (.bool (first c)) ∧ w = w' := by
  go_enter Tryz.func183, Tryz.ntmps183
  go_wp2_with (first
    | (go_at_call 165; refine (within_any _ _ _ _).mono ?_; rintro e w' ⟨rfl, rfl⟩)
    | (go_at_call 129; refine (Fine_any _ _).mono ?_; rintro e w' ⟨rfl, rfl⟩))
  all_goals go_ret
  all_goals exact ⟨ret_bool (by rw [Bool.eq_iff_iff, first_iff]; cases hf : fine c <;> simp_all <;> try omega), rfl⟩

end Go.Proofs.YtddhnlnobmmimaaGreatDoor.Utf
