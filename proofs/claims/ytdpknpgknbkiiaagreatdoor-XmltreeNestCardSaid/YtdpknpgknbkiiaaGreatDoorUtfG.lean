/- Layer 1: contracts of the document's own answers: Rune, Check. -/
import Derived.Test.YtdpknpgknbkiiaaGreatDoorUtfF
set_option linter.unusedVariables false
set_option linter.unusedSimpArgs false
namespace Go.Proofs.YtdpknpgknbkiiaaGreatDoor.Utf
open Go Go.Proofs.YtdpknpgknbkiiaaGreatDoor Go.RowKit
set_option maxRecDepth 100000

theorem lowV_neg : ∀ (l : List UInt8) (n : Int), 0 ≤ n → (lowV n l < 0 ↔ ∃ b ∈ l, b.toNat / 64 ≠ 2)
  | [], n, h => by simp [lowV]; exact h
  | b :: r, n, h => by
    have hb := UInt8.toNat_lt b
    rw [lowV]
    by_cases e : b.toNat / 64 = 2
    · rw [if_pos e, lowV_neg r _ (by omega)]
      simp [e]
    · rw [if_neg e]
      simp [e]


/-- What Rune tells, in its own steps: of n bytes, the first one from base on. -/
structure Big (l : List UInt8) (n base p : Nat) : Prop where
  short : l.length < n → rune l = (0, 0)
  wrong : n ≤ l.length → lowV 0 ((l.drop 1).take (n - 1)) < 0 → rune l = (0, 0)
  right : n ≤ l.length → 0 ≤ lowV 0 ((l.drop 1).take (n - 1)) → ∃ x : Nat, (x : Int) = ((nth l 0 - base : Nat) : Int) * (p : Int) + lowV 0 ((l.drop 1).take (n - 1)) ∧ rune l = chk x n

theorem big2 (l : List UInt8) (h : 192 ≤ nth l 0 ∧ nth l 0 < 224) : Big l 2 192 64 := by
  have e : l.length ≠ 0 := by
    intro e; have : l = [] := List.eq_nil_of_length_eq_zero e
    subst this; simp [nth] at h
  have er : rune l = (if 2 ≤ l.length ∧ nth l 1 / 64 = 2 then chk ((nth l 0 - 192) * 64 + (nth l 1 - 128)) 2 else (0, 0)) := by
    unfold rune runeN; rw [if_neg e, if_neg (by omega), if_neg (by omega), if_pos (by omega)]
  refine ⟨fun hs => by rw [er, if_neg (by omega)], fun hl hw => ?_, fun hl hw => ?_⟩
  all_goals
    have e1 : (l.drop 1).take (2 - 1) = [l[1]] := by
      rw [List.drop_eq_getElem_cons (by omega)]; rfl
    rw [e1] at hw
  · rw [lowV_neg _ _ (by omega)] at hw
    simp at hw
    rw [nth_get (by omega)] at hw
    rw [er, if_neg (by omega)]
  · have h1 := nth_get (l := l) (i := 1) (by omega)
    by_cases c1 : l[1].toNat / 64 = 2
    · refine ⟨_, ?_, by rw [er, if_pos ⟨hl, by rw [← h1]; exact c1⟩]⟩
      rw [e1, lowV, if_pos c1, lowV, ← h1]
      have := UInt8.toNat_lt l[1]
      omega
    · rw [lowV, if_neg c1] at hw; omega

theorem big3 (l : List UInt8) (h : 224 ≤ nth l 0 ∧ nth l 0 < 240) : Big l 3 224 4096 := by
  have e : l.length ≠ 0 := by
    intro e; have : l = [] := List.eq_nil_of_length_eq_zero e
    subst this; simp [nth] at h
  have er : rune l = (if 3 ≤ l.length ∧ nth l 1 / 64 = 2 ∧ nth l 2 / 64 = 2 then chk ((nth l 0 - 224) * 4096 + (nth l 1 - 128) * 64 + (nth l 2 - 128)) 3 else (0, 0)) := by
    unfold rune runeN; rw [if_neg e, if_neg (by omega), if_neg (by omega), if_neg (by omega), if_pos (by omega)]
  refine ⟨fun hs => by rw [er, if_neg (by omega)], fun hl hw => ?_, fun hl hw => ?_⟩
  all_goals
    have e1 : (l.drop 1).take (3 - 1) = [l[1], l[2]] := by
      rw [List.drop_eq_getElem_cons (by omega), List.drop_eq_getElem_cons (by omega)]; rfl
    rw [e1] at hw
  · rw [lowV_neg _ _ (by omega)] at hw
    simp at hw
    rw [nth_get (by omega), nth_get (by omega)] at hw
    rw [er, if_neg (by omega)]
  · have h1 := nth_get (l := l) (i := 1) (by omega)
    have h2 := nth_get (l := l) (i := 2) (by omega)
    by_cases c1 : l[1].toNat / 64 = 2
    · by_cases c2 : l[2].toNat / 64 = 2
      · refine ⟨_, ?_, by rw [er, if_pos ⟨hl, by rw [← h1]; exact c1, by rw [← h2]; exact c2⟩]⟩
        rw [e1, lowV, if_pos c1, lowV, if_pos c2, lowV, ← h1, ← h2]
        have := UInt8.toNat_lt l[1]
        have := UInt8.toNat_lt l[2]
        generalize l[1].toNat = a1 at *
        generalize l[2].toNat = a2 at *
        omega
      · rw [lowV, if_pos c1, lowV, if_neg c2] at hw; omega
    · rw [lowV, if_neg c1] at hw; omega

theorem four_eq (K a b c d : Nat) (hb : 128 ≤ b) (hc : 128 ≤ c) (hd : 128 ≤ d) :
    ((a * K + (b - 128) * 4096 + (c - 128) * 64 + (d - 128) : Nat) : Int) = (a : Int) * (K : Int) + (64 * (64 * (64 * 0 + ((b : Int) - 128)) + ((c : Int) - 128)) + ((d : Int) - 128)) := by
  have e1 : ((b - 128 : Nat) : Int) = (b : Int) - 128 := by omega
  have e2 : ((c - 128 : Nat) : Int) = (c : Int) - 128 := by omega
  have e3 : ((d - 128 : Nat) : Int) = (d : Int) - 128 := by omega
  rw [Int.natCast_add, Int.natCast_add, Int.natCast_add, Int.natCast_mul, Int.natCast_mul, Int.natCast_mul, e1, e2, e3]
  generalize (a : Int) * (K : Int) = z
  omega

def k18 : Nat := 262144
theorem val4_eq (a b c d : Nat) : val4 a b c d = (a - 240) * k18 + (b - 128) * 4096 + (c - 128) * 64 + (d - 128) := by unfold val4 k18; rfl

theorem big4 (l : List UInt8) (h : 240 ≤ nth l 0 ∧ nth l 0 < 248) : Big l 4 240 k18 := by
  have e : l.length ≠ 0 := by
    intro e; have : l = [] := List.eq_nil_of_length_eq_zero e
    subst this; simp [nth] at h
  have er : rune l = (if 4 ≤ l.length ∧ nth l 1 / 64 = 2 ∧ nth l 2 / 64 = 2 ∧ nth l 3 / 64 = 2 then chk (val4 (nth l 0) (nth l 1) (nth l 2) (nth l 3)) 4 else (0, 0)) := by
    unfold rune runeN; rw [if_neg e, if_neg (by omega), if_neg (by omega), if_neg (by omega), if_neg (by omega), if_pos (by omega)]
  refine ⟨fun hs => by rw [er, if_neg (by omega)], fun hl hw => ?_, fun hl hw => ?_⟩
  all_goals
    have e1 : (l.drop 1).take (4 - 1) = [l[1], l[2], l[3]] := by
      rw [List.drop_eq_getElem_cons (by omega), List.drop_eq_getElem_cons (by omega), List.drop_eq_getElem_cons (by omega)]; rfl
    rw [e1] at hw
  · rw [lowV_neg _ _ (by omega)] at hw
    simp at hw
    rw [nth_get (by omega), nth_get (by omega), nth_get (by omega)] at hw
    rw [er, if_neg (by omega)]
  · have h1 := nth_get (l := l) (i := 1) (by omega)
    have h2 := nth_get (l := l) (i := 2) (by omega)
    have h3 := nth_get (l := l) (i := 3) (by omega)
    by_cases c1 : l[1].toNat / 64 = 2
    · by_cases c2 : l[2].toNat / 64 = 2
      · by_cases c3 : l[3].toNat / 64 = 2
        · refine ⟨_, ?_, by rw [er, if_pos ⟨hl, by rw [← h1]; exact c1, by rw [← h2]; exact c2, by rw [← h3]; exact c3⟩]⟩
          rw [e1, lowV, if_pos c1, lowV, if_pos c2, lowV, if_pos c3, lowV, ← h1, ← h2, ← h3, val4_eq]
          exact four_eq _ _ _ _ _ (by omega) (by omega) (by omega)
        · rw [lowV, if_pos c1, lowV, if_pos c2, lowV, if_neg c3] at hw; omega
      · rw [lowV, if_pos c1, lowV, if_neg c2] at hw; omega
    · rw [lowV, if_neg c1] at hw; omega

theorem lowV_lt' : ∀ (l : List UInt8) (n : Int) (B : Int), 0 ≤ n → n < B → 1 ≤ B → lowV n l < B * 64 ^ l.length
  | [], n, B, h, h', _ => by simpa [lowV] using h'
  | b :: r, n, B, h, h', hB => by
    have hb := UInt8.toNat_lt b
    rw [lowV]
    by_cases e : b.toNat / 64 = 2
    · rw [if_pos e]
      have := lowV_lt' r (64 * n + (b.toNat - 128)) (B * 64) (by omega) (by omega) (by omega)
      rw [List.length_cons, Int.pow_succ, show B * (64 ^ r.length * 64) = B * 64 * 64 ^ r.length from by rw [Int.mul_comm (64 ^ r.length) 64, Int.mul_assoc]]
      exact this
    · rw [if_neg e]
      have : 0 < B * 64 ^ (b :: r).length := Int.mul_pos (by omega) (Int.pow_pos (by omega))
      omega
theorem lowV_lt (l : List UInt8) (h : l.length ≤ 3) : lowV 0 l < 262144 := by
  have := lowV_lt' l 0 1 (by omega) (by omega) (by omega)
  rcases (by omega : l.length = 0 ∨ l.length = 1 ∨ l.length = 2 ∨ l.length = 3) with e | e | e | e <;> rw [e] at this <;> simp at this <;> omega

/-- The top's value behind k - 1 rounds. -/
def TopRel (n k : Nat) (t m : Int) : Prop := 1 ≤ k ∧ k ≤ n ∧ 0 ≤ m ∧ (k = 1 → m = t) ∧ (k = 2 → m = 64 * t) ∧ (k = 3 → m = 4096 * t) ∧ (k = 4 → m = 262144 * t)

def pairV (r : Nat × Nat) : Value := .tuple #[.int .i64 r.1, .int .i64 r.2]
theorem ret_chk {x n : Nat} (h : fine (x : Int) = true) (hw : width x = n) : chk x n = (x, n) := chk_fine h hw

end Go.Proofs.YtdpknpgknbkiiaaGreatDoor.Utf
