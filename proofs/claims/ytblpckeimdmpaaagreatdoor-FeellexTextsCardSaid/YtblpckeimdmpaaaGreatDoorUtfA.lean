/- Layer 1: contracts of the functions that ask of a number which kind of character it is. -/
import Derived.Test.YtblpckeimdmpaaaGreatDoorChecked
import Derived.Test.YtblpckeimdmpaaaGreatDoorUtfMath
import Derived.WalkKit
import Derived.WalkSpells
import Derived.WalkLawsBesides
set_option linter.unusedVariables false
set_option linter.unusedSimpArgs false
namespace Go.Proofs.YtblpckeimdmpaaaGreatDoor.Utf
open Go Go.Proofs.YtblpckeimdmpaaaGreatDoor Go.RowKit

theorem ret_bool {a b : Bool} (h : a = b) : Ending.returned (.bool a) = .returned (.bool b) := by rw [h]

set_option maxHeartbeats 400000 in
theorem within_any (c a b : Int) (w : World) :
    Calls Tryz.prog 76 #[.int .i64 c, .int .i64 a, .int .i64 b] w fun e w' => e = .returned (.bool (decide (a ≤ c ∧ c ≤ b))) ∧ w = w' := by
  go_enter Tryz.func76, Tryz.ntmps76
  go_wp2
  all_goals go_ret
  all_goals exact ⟨ret_bool (by simp; try omega), rfl⟩

set_option maxHeartbeats 1000000 in
theorem Fine_any (c : Int) (w : World) :
    Calls Tryz.prog 61 #[.int .i64 c] w fun e w' => e = .returned (.bool (fine c)) ∧ w = w' := by
  go_enter Tryz.func61, Tryz.ntmps61
  go_wp2
  all_goals go_ret
  all_goals exact ⟨ret_bool (by rw [Bool.eq_iff_iff, fine_iff]; simp; try omega), rfl⟩

set_option maxHeartbeats 1000000 in
theorem RFine_any (c : Int) (w : World) :
    Calls Tryz.prog 49 #[.int .i64 c] w fun e w' => e = .returned (.bool (fine c)) ∧ w = w' := by
  go_enter Tryz.func49, Tryz.ntmps49
  go_wp2
  all_goals go_ret
  all_goals exact ⟨ret_bool (by rw [Bool.eq_iff_iff, fine_iff]; simp; try omega), rfl⟩

set_option maxHeartbeats 1000000 in
theorem Space_any (c : Int) (w : World) :
    Calls Tryz.prog 16 #[.int .i64 c] w fun e w' => e = .returned (.bool (space c)) ∧ w = w' := by
  go_enter Tryz.func16, Tryz.ntmps16
  go_wp2
  all_goals go_ret
  all_goals exact ⟨ret_bool (by rw [Bool.eq_iff_iff, space_iff]; simp; try omega), rfl⟩

theorem RSpace_any (c : Int) (w : World) :
    Calls Tryz.prog 19 #[.int .i64 c] w fun e w' => e = .returned (.bool (space c)) ∧ w = w' := by
  go_enter Tryz.func19, Tryz.ntmps19
  go_wp2
  all_goals go_ret
  all_goals exact ⟨ret_bool (by rw [Bool.eq_iff_iff, space_iff]; simp; try omega), rfl⟩

set_option maxHeartbeats 1000000 in
theorem letter_any (c : Int) (w : World) :
    Calls Tryz.prog 65 #[.int .i64 c] w fun e w' => e = .returned (.bool (first c)) ∧ w = w' := by
  go_enter Tryz.func65, Tryz.ntmps65
  go_wp2_with (first
    | (go_at_call 76; refine (within_any _ _ _ _).mono ?_; rintro e w' ⟨rfl, rfl⟩)
    | (go_at_call 61; refine (Fine_any _ _).mono ?_; rintro e w' ⟨rfl, rfl⟩))
  all_goals go_ret
  all_goals exact ⟨ret_bool (by rw [Bool.eq_iff_iff, first_iff]; cases hf : fine c <;> simp_all <;> try omega), rfl⟩

end Go.Proofs.YtblpckeimdmpaaaGreatDoor.Utf
