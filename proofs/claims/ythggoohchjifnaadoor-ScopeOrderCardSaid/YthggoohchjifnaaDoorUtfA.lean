/- Layer 1: contracts of the functions that ask of a number which kind of character it is. -/
import Derived.Test.YthggoohchjifnaaDoorChecked
import Derived.Test.YthggoohchjifnaaDoorUtfMath
import Derived.WalkKit
import Derived.WalkSpells
import Derived.WalkLawsBesides
set_option linter.unusedVariables false
set_option linter.unusedSimpArgs false
namespace Go.Proofs.YthggoohchjifnaaDoor.Utf
open Go Go.Proofs.YthggoohchjifnaaDoor Go.RowKit

theorem ret_bool {a b : Bool} (h : a = b) : Ending.returned (.bool a) = .returned (.bool b) := by rw [h]

set_option maxHeartbeats 400000 in
theorem within_any (c a b : Int) (w : World) :
    Calls Tryd.prog 96 #[.int .i64 c, .int .i64 a, .int .i64 b] w fun e w' => e = .returned (.bool (decide (a ≤ c ∧ c ≤ b))) ∧ w = w' := by
  go_enter Tryd.func96, Tryd.ntmps96
  go_wp2
  all_goals go_ret
  all_goals exact ⟨ret_bool (by simp; try omega), rfl⟩

set_option maxHeartbeats 1000000 in
theorem Fine_any (c : Int) (w : World) :
    Calls Tryd.prog 97 #[.int .i64 c] w fun e w' => e = .returned (.bool (fine c)) ∧ w = w' := by
  go_enter Tryd.func97, Tryd.ntmps97
  go_wp2
  all_goals go_ret
  all_goals exact ⟨ret_bool (by rw [Bool.eq_iff_iff, fine_iff]; simp; try omega), rfl⟩

set_option maxHeartbeats 1000000 in
theorem RFine_any (c : Int) (w : World) :
    Calls Tryd.prog 70 #[.int .i64 c] w fun e w' => e = .returned (.bool (fine c)) ∧ w = w' := by
  go_enter Tryd.func70, Tryd.ntmps70
  go_wp2
  all_goals go_ret
  all_goals exact ⟨ret_bool (by rw [Bool.eq_iff_iff, fine_iff]; simp; try omega), rfl⟩

set_option maxHeartbeats 1000000 in
theorem letter_any (c : Int) (w : World) :
    Calls Tryd.prog 91 #[.int .i64 c] w fun e w' => e = .returned (.bool (first c)) ∧ w = w' := by
  go_enter Tryd.func91, Tryd.ntmps91
  go_wp2_with (first
    | (go_at_call 96; refine (within_any _ _ _ _).mono ?_; rintro e w' ⟨rfl, rfl⟩)
    | (go_at_call 97; refine (Fine_any _ _).mono ?_; rintro e w' ⟨rfl, rfl⟩))
  all_goals go_ret
  all_goals exact ⟨ret_bool (by rw [Bool.eq_iff_iff, first_iff]; cases hf : fine c <;> simp_all <;> try omega), rfl⟩

end Go.Proofs.YthggoohchjifnaaDoor.Utf
