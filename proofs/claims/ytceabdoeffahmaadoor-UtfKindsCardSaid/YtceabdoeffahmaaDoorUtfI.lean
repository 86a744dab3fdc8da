/- Layer 1: the walks of the statements UtfKinds and UtfChars. -/
import Derived.Test.YtceabdoeffahmaaDoorUtfH
set_option linter.unusedVariables false
set_option linter.unusedSimpArgs false
namespace Go.Proofs.YtceabdoeffahmaaDoor.Utf
open Go Go.Proofs.YtceabdoeffahmaaDoor Go.RowKit
set_option maxRecDepth 100000

def bit (b : Bool) (n : Int) : Int := if b = true then n else 0
/-- How many kinds the first k numbers are of. -/
def cnt : Nat → Int
  | 0 => 0
  | k + 1 => cnt k + bit (first k) 1 + bit (next k) 100 + bit (space k) 10000
theorem bit_le (b : Bool) (n : Int) (h : 0 ≤ n) : 0 ≤ bit b n ∧ bit b n ≤ n := by unfold bit; split <;> omega
theorem cnt_le : ∀ k, 0 ≤ cnt k ∧ cnt k ≤ 10101 * k
  | 0 => by simp [cnt]
  | k + 1 => by
    have := cnt_le k
    have a := bit_le (first k) 1 (by omega)
    have b := bit_le (next k) 100 (by omega)
    have c := bit_le (space k) 10000 (by omega)
    rw [cnt]; omega
theorem cnt_all : cnt 128 = 46353 := by decide

set_option maxHeartbeats 2000000 in
theorem UtfKinds_walk (c : Int) (w : World) (hT : Tabs w) :
    Calls Tryd.prog 7 #[.int .i64 c] w fun e w' => e = .returned (.bool true) ∧ Below w.heap.size w w' := by
  have key : (first c = true ∧ next c = true ∧ part c = true ∧ fine c = true ∧ space c = false) ∨ (first c = false ∧ next c = true ∧ part c = true ∧ fine c = true ∧ space c = false) ∨
      (first c = false ∧ next c = false ∧ part c = false ∧ fine c = true ∧ space c = true) ∨ (first c = false ∧ next c = false ∧ space c = false) := by
    have h1 := kinds_first c
    have h2 := kinds_next c
    have h3 := kinds_space c
    revert h1 h2 h3
    cases first c <;> cases next c <;> cases space c <;> cases part c <;> cases fine c <;> simp
  have loop : ∀ (first3 : Bool), True := fun _ => trivial
  rcases key with ⟨h1, h2, h3, h4, h5⟩ | ⟨h1, h2, h3, h4, h5⟩ | ⟨h1, h2, h3, h4, h5⟩ | ⟨h1, h2, h5⟩
  all_goals
    go_enter Tryd.func7, Tryd.ntmps7
    go_wp2_with (first
      | (go_at_call 19; refine (First_any _ _).mono ?_; rintro e w' ⟨rfl, rfl⟩)
      | (go_at_call 21; refine (Next_any _ _).mono ?_; rintro e w' ⟨rfl, rfl⟩)
      | (go_at_call 23; refine (Start_any _ _).mono ?_; rintro e w' ⟨rfl, rfl⟩)
      | (go_at_call 24; refine (Part_any _ _).mono ?_; rintro e w' ⟨rfl, rfl⟩)
      | (go_at_call 17; refine (Space_any _ _).mono ?_; rintro e w' ⟨rfl, rfl⟩)
      | (go_at_call 16; refine (Fine_any _ _).mono ?_; rintro e w' ⟨rfl, rfl⟩))
  all_goals
    go_loop [3, 48] (fun n x => ∃ k : Nat, k ≤ 128 ∧ x = .int .i64 k ∧ n = .int .i64 (cnt k)) (fun _ x => 128 - (intOf x).toNat)
    case atStart => exact ⟨0, by omega, rfl, rfl⟩
    case round =>
      obtain ⟨k, hk, rfl, rfl⟩ := hrel
      by_cases hlt : k < 128
      · have hb := cnt_le k
        have hs : Hid (cnt (k + 1) = cnt k + bit (first k) 1 + bit (next k) 100 + bit (space k) 10000) := rfl
        have hkk : Hid (k < 128) := hlt
        go_wp2_with (first
          | (go_at_call 19; refine (First_any _ _).mono ?_; rintro e w' ⟨rfl, rfl⟩)
          | (go_at_call 21; refine (Next_any _ _).mono ?_; rintro e w' ⟨rfl, rfl⟩)
          | (go_at_call 17; refine (Space_any _ _).mono ?_; rintro e w' ⟨rfl, rfl⟩))
        all_goals
          go_round
          case rel => exact ⟨k + 1, by have := hkk.out; omega, by go_num, by rw [hs.out]; simp only [bit, *, if_true, if_false, Bool.false_eq_true, Int.add_zero]⟩
          case measure => have := hkk.out; simp [intOf]; omega
      · have e : k = 128 := by omega
        subst e
        have hc := cnt_all
        go_wp2_with (go_at_call 12; refine (alive_any _ hT).mono ?_; rintro e w' ⟨rfl, hb⟩)
        go_ret
        exact ⟨rfl, hb⟩

end Go.Proofs.YtceabdoeffahmaaDoor.Utf
