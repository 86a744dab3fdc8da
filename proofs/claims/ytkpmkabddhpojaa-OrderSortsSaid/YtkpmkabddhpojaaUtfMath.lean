/- Plain mathematics of layer 1: which numbers are characters, and kinds of them. No program in it. -/
set_option linter.unusedVariables false
set_option linter.unusedSimpArgs false
namespace Go.Proofs.Ytkpmkabddhpojaa.Utf

def fine (c : Int) : Bool := decide (c = 9 ∨ c = 10 ∨ c = 13 ∨ (32 ≤ c ∧ c ≤ 55295) ∨ (57344 ≤ c ∧ c ≤ 65533) ∨ (65536 ≤ c ∧ c ≤ 1114111))
def space (c : Int) : Bool := decide (c = 9 ∨ c = 10 ∨ c = 13 ∨ c = 32)
def first (c : Int) : Bool := decide ((65 ≤ c ∧ c ≤ 90) ∨ (97 ≤ c ∧ c ≤ 122) ∨ c = 95 ∨ (192 ≤ c ∧ c ≠ 215 ∧ c ≠ 247 ∧ fine c = true))
def next (c : Int) : Bool := decide (first c = true ∨ (48 ≤ c ∧ c ≤ 57))
def part (c : Int) : Bool := decide (next c = true ∨ c = 45 ∨ c = 46 ∨ c = 183)

theorem fine_iff (c : Int) : fine c = true ↔ (c = 9 ∨ c = 10 ∨ c = 13 ∨ (32 ≤ c ∧ c ≤ 55295) ∨ (57344 ≤ c ∧ c ≤ 65533) ∨ (65536 ≤ c ∧ c ≤ 1114111)) := by simp only [fine, decide_eq_true_eq]
theorem space_iff (c : Int) : space c = true ↔ (c = 9 ∨ c = 10 ∨ c = 13 ∨ c = 32) := by simp only [space, decide_eq_true_eq]
theorem first_iff (c : Int) : first c = true ↔ ((65 ≤ c ∧ c ≤ 90) ∨ (97 ≤ c ∧ c ≤ 122) ∨ c = 95 ∨ (192 ≤ c ∧ c ≠ 215 ∧ c ≠ 247 ∧ fine c = true)) := by simp only [first, decide_eq_true_eq]
theorem next_iff (c : Int) : next c = true ↔ (first c = true ∨ (48 ≤ c ∧ c ≤ 57)) := by simp only [next, decide_eq_true_eq]
theorem part_iff (c : Int) : part c = true ↔ (next c = true ∨ c = 45 ∨ c = 46 ∨ c = 183) := by simp only [part, decide_eq_true_eq]

end Go.Proofs.Ytkpmkabddhpojaa.Utf
