/- Layer 1: contracts of the functions that ask of a number which kind of name's character it is. -/
import Derived.Test.YtdpknpgknbkiiaaGreatDoorUtfA
set_option linter.unusedVariables false
set_option linter.unusedSimpArgs false
namespace Go.Proofs.YtdpknpgknbkiiaaGreatDoor.Utf
open Go Go.Proofs.YtdpknpgknbkiiaaGreatDoor Go.RowKit

theorem digit_any (c : Int) (w : World) :
    Calls Tryz.prog 108 #[.int .i64 c] w fun e w' => e = .returned (.bool (decide (48 ≤ c ∧ c ≤ 57))) ∧ w = w' := by
  go_enter Tryz.func108, Tryz.ntmps108
  go_wp2_with (go_at_call 58; refine (within_any _ _ _ _).mono ?_; rintro e w' ⟨rfl, rfl⟩)
  all_goals go_ret
  all_goals exact ⟨ret_bool (by simp), rfl⟩

theorem Start_any (c : Int) (w : World) :
    Calls Tryz.prog 87 #[.int .i64 c] w fun e w' => e = .returned (.bool (first c)) ∧ w = w' := by
  go_enter Tryz.func87, Tryz.ntmps87
  go_wp2_with (go_at_call 107; refine (letter_any _ _).mono ?_; rintro e w' ⟨rfl, rfl⟩)
  all_goals go_ret
  all_goals exact ⟨rfl, rfl⟩

theorem Part_any (c : Int) (w : World) :
    Calls Tryz.prog 88 #[.int .i64 c] w fun e w' => e = .returned (.bool (part c)) ∧ w = w' := by
  go_enter Tryz.func88, Tryz.ntmps88
  go_wp2_with (first
    | (go_at_call 107; refine (letter_any _ _).mono ?_; rintro e w' ⟨rfl, rfl⟩)
    | (go_at_call 108; refine (digit_any _ _).mono ?_; rintro e w' ⟨rfl, rfl⟩))
  all_goals go_ret
  all_goals exact ⟨ret_bool (by rw [Bool.eq_iff_iff, part_iff, next_iff]; cases hf : first c <;> simp_all <;> try omega), rfl⟩

end Go.Proofs.YtdpknpgknbkiiaaGreatDoor.Utf
