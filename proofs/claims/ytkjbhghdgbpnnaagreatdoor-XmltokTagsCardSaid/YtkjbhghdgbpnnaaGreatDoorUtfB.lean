/- Layer 1: contracts of the functions that ask of a number which kind of name's character it is. -/
import Derived.Test.YtkjbhghdgbpnnaaGreatDoorUtfA
set_option linter.unusedVariables false
set_option linter.unusedSimpArgs false
namespace Go.Proofs.YtkjbhghdgbpnnaaGreatDoor.Utf
open Go Go.Proofs.YtkjbhghdgbpnnaaGreatDoor Go.RowKit

theorem digit_any (c : Int) (w : World) :
    Calls Tryz.prog 110 #[.int .i64 c] w fun e w' => e = .returned (.bool (decide (48 ≤ c ∧ c ≤ 57))) ∧ w = w' := by
  go_enter Tryz.func110, Tryz.ntmps110
  go_wp2_with (go_at_call 69; refine (within_any _ _ _ _).mono ?_; rintro e w' ⟨rfl, rfl⟩)
  all_goals go_ret
  all_goals exact ⟨ret_bool (by simp), rfl⟩

theorem Start_any (c : Int) (w : World) :
    Calls Tryz.prog 93 #[.int .i64 c] w fun e w' => e = .returned (.bool (first c)) ∧ w = w' := by
  go_enter Tryz.func93, Tryz.ntmps93
  go_wp2_with (go_at_call 109; refine (letter_any _ _).mono ?_; rintro e w' ⟨rfl, rfl⟩)
  all_goals go_ret
  all_goals exact ⟨rfl, rfl⟩

theorem Part_any (c : Int) (w : World) :
    Calls Tryz.prog 94 #[.int .i64 c] w fun e w' => e = .returned (.bool (part c)) ∧ w = w' := by
  go_enter Tryz.func94, Tryz.ntmps94
  go_wp2_with (first
    | (go_at_call 109; refine (letter_any _ _).mono ?_; rintro e w' ⟨rfl, rfl⟩)
    | (go_at_call 110; refine (digit_any _ _).mono ?_; rintro e w' ⟨rfl, rfl⟩))
  all_goals go_ret
  all_goals exact ⟨ret_bool (by rw [Bool.eq_iff_iff, part_iff, next_iff]; cases hf : first c <;> simp_all <;> try omega), rfl⟩

set_option maxHeartbeats 1000000 in
theorem RFirst_any (c : Int) (w : World) :
    Calls Tryz.prog 66 #[.int .i64 c] w fun e w' => e = .returned (.bool (first c)) ∧ w = w' := by
  go_enter Tryz.func66, Tryz.ntmps66
  go_wp2_with (go_at_call 86; refine (RFine_any _ _).mono ?_; rintro e w' ⟨rfl, rfl⟩)
  all_goals go_ret
  all_goals exact ⟨ret_bool (by rw [Bool.eq_iff_iff, first_iff]; cases hf : fine c <;> simp_all <;> try omega), rfl⟩

theorem RNext_any (c : Int) (w : World) :
    Calls Tryz.prog 88 #[.int .i64 c] w fun e w' => e = .returned (.bool (next c)) ∧ w = w' := by
  go_enter Tryz.func88, Tryz.ntmps88
  go_wp2_with (go_at_call 66; refine (RFirst_any _ _).mono ?_; rintro e w' ⟨rfl, rfl⟩)
  all_goals go_ret
  all_goals exact ⟨ret_bool (by rw [Bool.eq_iff_iff, next_iff]; cases hf : first c <;> simp_all <;> try omega), rfl⟩

theorem RPart_any (c : Int) (w : World) :
    Calls Tryz.prog 67 #[.int .i64 c] w fun e w' => e = .returned (.bool (part c)) ∧ w = w' := by
  go_enter Tryz.func67, Tryz.ntmps67
  go_wp2_with (go_at_call 88; refine (RNext_any _ _).mono ?_; rintro e w' ⟨rfl, rfl⟩)
  all_goals go_ret
  all_goals exact ⟨ret_bool (by rw [Bool.eq_iff_iff, part_iff]; cases hf : next c <;> simp_all <;> try omega), rfl⟩

end Go.Proofs.YtkjbhghdgbpnnaaGreatDoor.Utf
