/- Layer 1: contracts of the functions that ask of a number which kind of name's character it is. -/
import Derived.Test.YtblpckeimdmpaaaGreatDoorUtfA
set_option linter.unusedVariables false
set_option linter.unusedSimpArgs false
namespace Go.Proofs.YtblpckeimdmpaaaGreatDoor.Utf
open Go Go.Proofs.YtblpckeimdmpaaaGreatDoor Go.RowKit

theorem digit_any (c : Int) (w : World) :
    Calls Tryz.prog 66 #[.int .i64 c] w fun e w' => e = .returned (.bool (decide (48 ≤ c ∧ c ≤ 57))) ∧ w = w' := by
  go_enter Tryz.func66, Tryz.ntmps66
  go_wp2_with (go_at_call 76; refine (within_any _ _ _ _).mono ?_; rintro e w' ⟨rfl, rfl⟩)
  all_goals go_ret
  all_goals exact ⟨ret_bool (by simp), rfl⟩

theorem First_any (c : Int) (w : World) :
    Calls Tryz.prog 37 #[.int .i64 c] w fun e w' => e = .returned (.bool (first c)) ∧ w = w' := by
  go_enter Tryz.func37, Tryz.ntmps37
  go_wp2_with (go_at_call 65; refine (letter_any _ _).mono ?_; rintro e w' ⟨rfl, rfl⟩)
  all_goals go_ret
  all_goals exact ⟨rfl, rfl⟩

theorem Next_any (c : Int) (w : World) :
    Calls Tryz.prog 40 #[.int .i64 c] w fun e w' => e = .returned (.bool (next c)) ∧ w = w' := by
  go_enter Tryz.func40, Tryz.ntmps40
  go_wp2_with (first
    | (go_at_call 65; refine (letter_any _ _).mono ?_; rintro e w' ⟨rfl, rfl⟩)
    | (go_at_call 66; refine (digit_any _ _).mono ?_; rintro e w' ⟨rfl, rfl⟩))
  all_goals go_ret
  all_goals exact ⟨ret_bool (by rw [Bool.eq_iff_iff, next_iff]; cases hf : first c <;> simp_all), rfl⟩

set_option maxHeartbeats 1000000 in
theorem RFirst_any (c : Int) (w : World) :
    Calls Tryz.prog 46 #[.int .i64 c] w fun e w' => e = .returned (.bool (first c)) ∧ w = w' := by
  go_enter Tryz.func46, Tryz.ntmps46
  go_wp2_with (go_at_call 49; refine (RFine_any _ _).mono ?_; rintro e w' ⟨rfl, rfl⟩)
  all_goals go_ret
  all_goals exact ⟨ret_bool (by rw [Bool.eq_iff_iff, first_iff]; cases hf : fine c <;> simp_all <;> try omega), rfl⟩

theorem RNext_any (c : Int) (w : World) :
    Calls Tryz.prog 45 #[.int .i64 c] w fun e w' => e = .returned (.bool (next c)) ∧ w = w' := by
  go_enter Tryz.func45, Tryz.ntmps45
  go_wp2_with (go_at_call 46; refine (RFirst_any _ _).mono ?_; rintro e w' ⟨rfl, rfl⟩)
  all_goals go_ret
  all_goals exact ⟨ret_bool (by rw [Bool.eq_iff_iff, next_iff]; cases hf : first c <;> simp_all <;> try omega), rfl⟩

end Go.Proofs.YtblpckeimdmpaaaGreatDoor.Utf
