/- Plain mathematics of layer 1: which numbers are characters, and kinds of them. No program in it. | Plain mathematics of layer 1: the character that bytes begin with, by the document; that the language's way of reading tells the same. | Layer 1: contracts of the functions that ask of a number which kind of character it is. | Layer 1: contracts of the functions that ask of a number which kind of name's character it is. | Layer 1: contracts of Rune, Check and Put. | Layer 1: contract of Check. | Layer 1: contracts of Put, and of the document's own answers. | Layer 1: contracts of the document's own answers: low, Rune, Check. | Layer 1: contracts of the document's own answers: Rune, Check. | Layer 1: the document's examples hold. | Plain mathematics of layer 1: what is put is read; where bytes aren't right. -/
import Derived.Lib.DecodeN
import Derived.Test.YtkmdclfkmmlloaaGreatDoorRow
import Derived.Test.YtkmdclfkmmlloaaGreatDoorChecked
import Derived.WalkKit
import Derived.WalkSpells
import Derived.WalkLawsBesides
import Derived.Test.YtkmdclfkmmlloaaGreatDoorShelf
import Derived.Outline
import Derived.Lib.RuneBytes
set_option linter.unusedVariables false
set_option linter.unusedSimpArgs false
namespace Go.Proofs.YtkmdclfkmmlloaaGreatDoor.Utf

def fine (c : Int) : Bool := decide (c = 9 ∨ c = 10 ∨ c = 13 ∨ (32 ≤ c ∧ c ≤ 55295) ∨ (57344 ≤ c ∧ c ≤ 65533) ∨ (65536 ≤ c ∧ c ≤ 1114111))
def space (c : Int) : Bool := decide (c = 9 ∨ c = 10 ∨ c = 13 ∨ c = 32)
def first (c : Int) : Bool := decide ((65 ≤ c ∧ c ≤ 90) ∨ (97 ≤ c ∧ c ≤ 122) ∨ c = 95 ∨ (192 ≤ c ∧ c ≠ 215 ∧ c ≠ 247 ∧ fine c = true))
def next (c : Int) : Bool := decide (first c = true ∨ (48 ≤ c ∧ c ≤ 57))
def part (c : Int) : Bool := decide (next c = true ∨ c = 45 ∨ c = 46 ∨ c = 183)

theorem fine_iff (c : Int) : fine c = true ↔ (c = 9 ∨ c = 10 ∨ c = 13 ∨ (32 ≤ c ∧ c ≤ 55295) ∨ (57344 ≤ c ∧ c ≤ 65533) ∨ (65536 ≤ c ∧ c ≤ 1114111)) := by simp only [fine, decide_eq_true_eq]
theorem space_iff (c : Int) : space c = true ↔ (c = 9 ∨ c = 10 ∨ c = 13 ∨ c = 32) := by simp only [space, decide_eq_true_eq]
theorem first_iff (c : Int) : first c = true ↔ ((65 ≤ c ∧ c ≤ 90) ∨ (97 ≤ c ∧ c ≤ 122) ∨ c = 95 ∨ (192 ≤ c ∧ c ≠ 215 ∧ c ≠ 247 ∧ fine c = true)) := by simp only [first, decide_eq_true_eq]
theorem next_iff (c : Int) : next c = true ↔ (first c = true ∨ (48 ≤ c ∧ c ≤ 57)) := by simp only [next, decide_eq_true_eq]
end Go.Proofs.YtkmdclfkmmlloaaGreatDoor.Utf
namespace Go.Proofs.YtkmdclfkmmlloaaGreatDoor.Utf
open Go Go.Proofs.YtkmdclfkmmlloaaGreatDoor
set_option maxRecDepth 100000

/-- How many bytes a character has. -/
def width (c : Nat) : Nat := if c < 128 then 1 else if c < 2048 then 2 else if c < 65536 then 3 else 4

/-- A character of k bytes that may be, or none. -/
def chk (c k : Nat) : Nat × Nat := if fine (c : Int) = true ∧ width c = k then (c, k) else (0, 0)

def val4 (b0 b1 b2 b3 : Nat) : Nat := (b0 - 240) * 262144 + (b1 - 128) * 4096 + (b2 - 128) * 64 + (b3 - 128)

/-- The character that n bytes begin with, of which the first are b0 to b3: and how many bytes it has; none: 0, 0. -/
def runeN (n b0 b1 b2 b3 : Nat) : Nat × Nat :=
  if n = 0 then (0, 0)
  else if b0 < 128 then chk b0 1
  else if b0 < 192 then (0, 0)
  else if b0 < 224 then (if 2 ≤ n ∧ b1 / 64 = 2 then chk ((b0 - 192) * 64 + (b1 - 128)) 2 else (0, 0))
  else if b0 < 240 then (if 3 ≤ n ∧ b1 / 64 = 2 ∧ b2 / 64 = 2 then chk ((b0 - 224) * 4096 + (b1 - 128) * 64 + (b2 - 128)) 3 else (0, 0))
  else if b0 < 248 then (if 4 ≤ n ∧ b1 / 64 = 2 ∧ b2 / 64 = 2 ∧ b3 / 64 = 2 then chk (val4 b0 b1 b2 b3) 4 else (0, 0))
  else (0, 0)

/-- What the program makes of what the language tells: 65533 only of its own bytes. -/
def fin (n b0 b1 b2 : Nat) (d : Nat × Nat) : Nat × Nat :=
  if d.1 = 65533 then (if 3 ≤ n ∧ b0 = 239 ∧ b1 = 191 ∧ b2 = 189 then d else (0, 0))
  else if fine (d.1 : Int) = true then d else (0, 0)
def goN (n b0 b1 b2 b3 : Nat) : Nat × Nat := fin n b0 b1 b2 (Go.Lib.decodeN n b0 b1 b2 b3)

theorem chk_fine {c k : Nat} (h : fine (c : Int) = true) (hw : width c = k) : chk c k = (c, k) := by unfold chk; rw [if_pos ⟨h, hw⟩]
theorem chk_not {c k : Nat} (h : ¬ (fine (c : Int) = true ∧ width c = k)) : chk c k = (0, 0) := by unfold chk; rw [if_neg h]
theorem nfine_iff (c : Nat) : fine (c : Int) = true ↔ (c = 9 ∨ c = 10 ∨ c = 13 ∨ (32 ≤ c ∧ c ≤ 55295) ∨ (57344 ≤ c ∧ c ≤ 65533) ∨ (65536 ≤ c ∧ c ≤ 1114111)) := by rw [fine_iff]; omega

theorem fin_bad {n b0 b1 b2 k : Nat} (h : ¬ (3 ≤ n ∧ b0 = 239 ∧ b1 = 191 ∧ b2 = 189)) : fin n b0 b1 b2 (65533, k) = (0, 0) := by
  unfold fin; simp only [if_true]; rw [if_neg h]
theorem fin_own {n b0 b1 b2 x k : Nat} (h : x = 65533 → 3 ≤ n ∧ b0 = 239 ∧ b1 = 191 ∧ b2 = 189) (hw : fine (x : Int) = true → width x = k) : fin n b0 b1 b2 (x, k) = chk x k := by
  unfold fin
  simp only
  by_cases hx : x = 65533
  · rw [if_pos hx, if_pos (h hx)]
    have hf : fine (x : Int) = true := by rw [nfine_iff]; omega
    rw [chk_fine hf (hw hf)]
  · rw [if_neg hx]
    by_cases hf : fine (x : Int) = true
    · rw [if_pos hf, chk_fine hf (hw hf)]
    · rw [if_neg hf, chk_not (fun e => hf e.1)]

theorem dec_bad {n b0 b1 b2 b3 : Nat} (h0 : 128 ≤ b0) (h1 : ¬ (b0 / 32 = 6 ∧ (1 < n ∧ b1 / 64 = 2))) (h2 : ¬ (b0 / 16 = 14 ∧ (1 < n ∧ b1 / 64 = 2) ∧ (2 < n ∧ b2 / 64 = 2)))
    (h3 : ¬ (b0 / 8 = 30 ∧ (1 < n ∧ b1 / 64 = 2) ∧ (2 < n ∧ b2 / 64 = 2) ∧ (3 < n ∧ b3 / 64 = 2))) : Go.Lib.decodeN n b0 b1 b2 b3 = (65533, 1) := by
  unfold Go.Lib.decodeN
  rw [if_neg (by omega : ¬ b0 < 128), if_neg h1, if_neg h2, if_neg h3]
theorem dec_two {n b0 b1 b2 b3 x : Nat} (h0 : 128 ≤ b0) (h1 : b0 / 32 = 6 ∧ (1 < n ∧ b1 / 64 = 2)) (hx : b0 % 32 * 64 + b1 % 64 = x) :
    Go.Lib.decodeN n b0 b1 b2 b3 = if x ≥ 128 then (x, 2) else (65533, 1) := by
  unfold Go.Lib.decodeN
  rw [if_neg (by omega : ¬ b0 < 128), if_pos h1, hx]
theorem dec_three {n b0 b1 b2 b3 x : Nat} (h0 : 128 ≤ b0) (h1 : ¬ (b0 / 32 = 6 ∧ (1 < n ∧ b1 / 64 = 2))) (h2 : b0 / 16 = 14 ∧ (1 < n ∧ b1 / 64 = 2) ∧ (2 < n ∧ b2 / 64 = 2)) (hx : b0 % 16 * 4096 + b1 % 64 * 64 + b2 % 64 = x) :
    Go.Lib.decodeN n b0 b1 b2 b3 = if x ≥ 2048 ∧ (x < 55296 ∨ (57344 ≤ x ∧ x ≤ 1114111)) then (x, 3) else (65533, 1) := by
  unfold Go.Lib.decodeN
  rw [if_neg (by omega : ¬ b0 < 128), if_neg h1, if_pos h2, hx]
theorem dec_four {n b0 b1 b2 b3 x : Nat} (h0 : 128 ≤ b0) (h1 : ¬ (b0 / 32 = 6 ∧ (1 < n ∧ b1 / 64 = 2))) (h2 : ¬ (b0 / 16 = 14 ∧ (1 < n ∧ b1 / 64 = 2) ∧ (2 < n ∧ b2 / 64 = 2)))
    (h3 : b0 / 8 = 30 ∧ (1 < n ∧ b1 / 64 = 2) ∧ (2 < n ∧ b2 / 64 = 2) ∧ (3 < n ∧ b3 / 64 = 2)) (hx : b0 % 8 * 262144 + b1 % 64 * 4096 + b2 % 64 * 64 + b3 % 64 = x) :
    Go.Lib.decodeN n b0 b1 b2 b3 = if x ≥ 65536 ∧ (x < 55296 ∨ (57344 ≤ x ∧ x ≤ 1114111)) then (x, 4) else (65533, 1) := by
  unfold Go.Lib.decodeN
  rw [if_neg (by omega : ¬ b0 < 128), if_neg h1, if_neg h2, if_pos h3, hx]

theorem width_two {x : Nat} (h : 128 ≤ x) (h' : x < 2048) : width x = 2 := by unfold width; rw [if_neg (by omega), if_pos h']
theorem width_three {x : Nat} (h : 2048 ≤ x) (h' : x < 65536) : width x = 3 := by unfold width; rw [if_neg (by omega), if_neg (by omega), if_pos h']
theorem width_four {x : Nat} (h : 65536 ≤ x) : width x = 4 := by unfold width; rw [if_neg (by omega), if_neg (by omega), if_neg (by omega)]
theorem width_one {x : Nat} (h : x < 128) : width x = 1 := by unfold width; rw [if_pos h]
theorem width_iff (x : Nat) : (width x = 1 ↔ x < 128) ∧ (width x = 2 ↔ 128 ≤ x ∧ x < 2048) ∧ (width x = 3 ↔ 2048 ≤ x ∧ x < 65536) ∧ (width x = 4 ↔ 65536 ≤ x) := by
  rcases (by omega : x < 128 ∨ (128 ≤ x ∧ x < 2048) ∨ (2048 ≤ x ∧ x < 65536) ∨ 65536 ≤ x) with h | ⟨h, h'⟩ | ⟨h, h'⟩ | h
  · rw [width_one h]; omega
  · rw [width_two h h']; omega
  · rw [width_three h h']; omega
  · rw [width_four h]; omega

theorem go_eq (n b0 b1 b2 b3 : Nat) (hn : 1 ≤ n) (h0 : b0 < 256) (h1 : b1 < 256) (h2 : b2 < 256) (h3 : b3 < 256) : goN n b0 b1 b2 b3 = runeN n b0 b1 b2 b3 := by
  unfold goN runeN
  rw [if_neg (by omega : ¬ n = 0)]
  by_cases c0 : b0 < 128
  · rw [if_pos c0]
    have : Go.Lib.decodeN n b0 b1 b2 b3 = (b0, 1) := by unfold Go.Lib.decodeN; rw [if_pos c0]
    rw [this, fin_own (by omega) (fun _ => width_one c0)]
  · rw [if_neg c0]
    by_cases c1 : b0 < 192
    · rw [if_pos c1, dec_bad (by omega) (by omega) (by omega) (by omega), fin_bad (by omega)]
    · rw [if_neg c1]
      by_cases c2 : b0 < 224
      · rw [if_pos c2]
        by_cases e : 2 ≤ n ∧ b1 / 64 = 2
        · obtain ⟨x, hx⟩ : ∃ x, b0 % 32 * 64 + b1 % 64 = x := ⟨_, rfl⟩
          rw [if_pos e, show (b0 - 192) * 64 + (b1 - 128) = x from by omega, dec_two (x := x) (by omega) (by omega) hx]
          by_cases k : x ≥ 128
          · rw [if_pos k, fin_own (by omega) (fun _ => width_two k (by omega))]
          · rw [if_neg k, fin_bad (by omega), chk_not (fun e => by have := (width_iff x).2.1; omega)]
        · rw [if_neg e, dec_bad (by omega) (by omega) (by omega) (by omega), fin_bad (by omega)]
      · rw [if_neg c2]
        by_cases c3 : b0 < 240
        · rw [if_pos c3]
          by_cases e : 3 ≤ n ∧ b1 / 64 = 2 ∧ b2 / 64 = 2
          · obtain ⟨x, hx⟩ : ∃ x, b0 % 16 * 4096 + b1 % 64 * 64 + b2 % 64 = x := ⟨_, rfl⟩
            rw [if_pos e, show (b0 - 224) * 4096 + (b1 - 128) * 64 + (b2 - 128) = x from by omega, dec_three (x := x) (by omega) (by omega) (by omega) hx]
            by_cases k : x ≥ 2048 ∧ (x < 55296 ∨ (57344 ≤ x ∧ x ≤ 1114111))
            · rw [if_pos k, fin_own (by omega) (fun _ => width_three k.1 (by omega))]
            · rw [if_neg k, fin_bad (by omega), chk_not (fun e => by have := (width_iff x).2.2.1; have := (nfine_iff x).1 e.1; omega)]
          · rw [if_neg e, dec_bad (by omega) (by omega) (by omega) (by omega), fin_bad (by omega)]
        · rw [if_neg c3]
          by_cases c4 : b0 < 248
          · rw [if_pos c4]
            by_cases e : 4 ≤ n ∧ b1 / 64 = 2 ∧ b2 / 64 = 2 ∧ b3 / 64 = 2
            · obtain ⟨x, hx⟩ : ∃ x, b0 % 8 * 262144 + b1 % 64 * 4096 + b2 % 64 * 64 + b3 % 64 = x := ⟨_, rfl⟩
              have e0 : b0 - 240 = b0 % 8 := by clear hx; omega
              have e1 : b1 - 128 = b1 % 64 := by clear hx; omega
              have e2 : b2 - 128 = b2 % 64 := by clear hx; omega
              have e3 : b3 - 128 = b3 % 64 := by clear hx; omega
              have hy : val4 b0 b1 b2 b3 = x := by unfold val4; rw [e0, e1, e2, e3]; exact hx
              rw [if_pos e, hy, dec_four (x := x) (by omega) (by omega) (by omega) (by omega) hx]
              by_cases k : x ≥ 65536 ∧ (x < 55296 ∨ (57344 ≤ x ∧ x ≤ 1114111))
              · rw [if_pos k, fin_own (by omega) (fun _ => width_four k.1)]
              · rw [if_neg k, fin_bad (by omega), chk_not (fun e => by have := (width_iff x).2.2.2; have := (nfine_iff x).1 e.1; omega)]
            · rw [if_neg e, dec_bad (by omega) (by omega) (by omega) (by omega), fin_bad (by omega)]
          · rw [if_neg c4, dec_bad (by omega) (by omega) (by omega) (by omega), fin_bad (by omega)]

/-- The same of a list of bytes. -/
def rune (l : List UInt8) : Nat × Nat := runeN l.length (nth l 0) (nth l 1) (nth l 2) (nth l 3)

theorem chk_cases (c k : Nat) : chk c k = (0, 0) ∨ (chk c k = (c, k) ∧ fine (c : Int) = true ∧ width c = k) := by
  unfold chk; split
  · rename_i h; exact .inr ⟨rfl, h.1, h.2⟩
  · exact .inl rfl

/-- Just the first four bytes play a part. -/
theorem runeN_le (n m b0 b1 b2 b3 : Nat) (h : n = m ∨ (4 ≤ n ∧ 4 ≤ m)) : runeN n b0 b1 b2 b3 = runeN m b0 b1 b2 b3 := by
  rcases h with rfl | ⟨h1, h2⟩
  · rfl
  · unfold runeN
    have e0 : (n = 0) = (m = 0) := by simp; omega
    have e2 : (2 ≤ n) = (2 ≤ m) := by simp; omega
    have e3 : (3 ≤ n) = (3 ≤ m) := by simp; omega
    have e4 : (4 ≤ n) = (4 ≤ m) := by simp; omega
    simp only [e0, e2, e3, e4]

/-- A character that is there may be, has as many bytes as its number asks, and these are there. -/
theorem runeN_some (n b0 b1 b2 b3 c k : Nat) (h : runeN n b0 b1 b2 b3 = (c, k)) (hk : k ≠ 0) : fine (c : Int) = true ∧ width c = k ∧ k ≤ n ∧ 1 ≤ k ∧ k ≤ 4 := by
  have key : ∀ x j, j ≤ n → 1 ≤ j → j ≤ 4 → chk x j = (c, k) → fine (c : Int) = true ∧ width c = k ∧ k ≤ n ∧ 1 ≤ k ∧ k ≤ 4 := by
    intro x j h1 h2 h3 h4
    rcases chk_cases x j with e | ⟨e, e1, e2⟩
    · rw [e] at h4; cases h4; exact absurd rfl hk
    · rw [e] at h4; cases h4; exact ⟨e1, e2, h1, h2, h3⟩
  have no : ((0 : Nat), (0 : Nat)) = (c, k) → False := by intro e; cases e; exact hk rfl
  unfold runeN at h
  split at h
  · exact (no h).elim
  · split at h
    · exact key _ 1 (by omega) (by omega) (by omega) h
    · split at h
      · exact (no h).elim
      · split at h
        · split at h
          · exact key _ 2 (by omega) (by omega) (by omega) h
          · exact (no h).elim
        · split at h
          · split at h
            · exact key _ 3 (by omega) (by omega) (by omega) h
            · exact (no h).elim
          · split at h
            · split at h
              · exact key _ 4 (by omega) (by omega) (by omega) h
              · exact (no h).elim
            · exact (no h).elim
theorem runeN_none (n b0 b1 b2 b3 : Nat) (h : (runeN n b0 b1 b2 b3).2 = 0) : runeN n b0 b1 b2 b3 = (0, 0) := by
  have key : ∀ x j, 1 ≤ j → (chk x j).2 = 0 → chk x j = (0, 0) := by
    intro x j hj hx
    rcases chk_cases x j with e | ⟨e, _⟩
    · exact e
    · rw [e] at hx; simp at hx; omega
  revert h
  unfold runeN
  repeat' split
  all_goals intro h
  all_goals first | rfl | exact key _ _ (by omega) h

theorem rune_some {l : List UInt8} {c k : Nat} (h : rune l = (c, k)) (hk : k ≠ 0) : fine (c : Int) = true ∧ width c = k ∧ k ≤ l.length ∧ 1 ≤ k ∧ k ≤ 4 := runeN_some _ _ _ _ _ _ _ h hk
theorem rune_none {l : List UInt8} (h : (rune l).2 = 0) : rune l = (0, 0) := runeN_none _ _ _ _ _ h
theorem rune_le (l : List UInt8) : (rune l).2 ≤ l.length ∧ (rune l).2 ≤ 4 := by
  by_cases h : (rune l).2 = 0
  · omega
  · have := rune_some (l := l) (c := (rune l).1) (k := (rune l).2) rfl h
    omega

/-- The first place at which a character should begin and none does; how many bytes there are, if there is none. -/
def checkF : Nat → List UInt8 → Nat
  | 0, _ => 0
  | f + 1, l => if (rune l).2 = 0 then 0 else (rune l).2 + checkF f (l.drop (rune l).2)
def check (l : List UInt8) : Nat := checkF l.length l

theorem checkF_eq : ∀ (f g : Nat) (l : List UInt8), l.length ≤ f → l.length ≤ g → checkF f l = checkF g l
  | 0, g, l, h, _ => by
    have : l = [] := List.eq_nil_of_length_eq_zero (by omega)
    subst this
    cases g <;> simp [checkF, rune, runeN]
  | f + 1, 0, l, _, h => by
    have : l = [] := List.eq_nil_of_length_eq_zero (by omega)
    subst this
    simp [checkF, rune, runeN]
  | f + 1, g + 1, l, h, h' => by
    unfold checkF
    split
    · rfl
    · rename_i hk
      have := rune_le l
      rw [checkF_eq f g (l.drop (rune l).2) (by simp; omega) (by simp; omega)]
theorem check_nil : check [] = 0 := rfl
theorem check_stop {l : List UInt8} (h : (rune l).2 = 0) : check l = 0 := by
  unfold check
  cases hl : l.length with
  | zero => rfl
  | succ n => simp [checkF, h]
theorem check_step {l : List UInt8} (h : (rune l).2 ≠ 0) : check l = (rune l).2 + check (l.drop (rune l).2) := by
  have h1 := rune_le l
  unfold check
  cases hl : l.length with
  | zero => omega
  | succ n =>
    rw [checkF, if_neg h]
    rw [checkF_eq n (l.drop (rune l).2).length _ (by simp; omega) (by simp)]
theorem check_le (l : List UInt8) : check l ≤ l.length := by
  generalize hn : l.length = n
  induction n using Nat.strongRecOn generalizing l with
  | _ n ih =>
    by_cases h : (rune l).2 = 0
    · rw [check_stop h]; omega
    · rw [check_step h]
      have h1 := rune_le l
      have := ih (l.drop (rune l).2).length (by simp; omega) _ rfl
      simp at this; omega
end Go.Proofs.YtkmdclfkmmlloaaGreatDoor.Utf
namespace Go.Proofs.YtkmdclfkmmlloaaGreatDoor.Utf
open Go Go.Proofs.YtkmdclfkmmlloaaGreatDoor Go.RowKit

theorem ret_bool {a b : Bool} (h : a = b) : Ending.returned (.bool a) = .returned (.bool b) := by rw [h]

set_option maxHeartbeats 400000 in
theorem within_any (c a b : Int) (w : World) :
    Calls Tryz.prog 112 #[.int .i64 c, .int .i64 a, .int .i64 b] w fun e w' => e = .returned (.bool (decide (a ≤ c ∧ c ≤ b))) ∧ w = w' := by
  go_enter Tryz.func112, Tryz.ntmps112
  go_wp2
  all_goals go_ret
  all_goals exact ⟨ret_bool (by simp; try omega), rfl⟩

set_option maxHeartbeats 1000000 in
theorem Fine_any (c : Int) (w : World) :
    Calls Tryz.prog 71 #[.int .i64 c] w fun e w' => e = .returned (.bool (fine c)) ∧ w = w' := by
  go_enter Tryz.func71, Tryz.ntmps71
  go_wp2
  all_goals go_ret
  all_goals exact ⟨ret_bool (by rw [Bool.eq_iff_iff, fine_iff]; simp; try omega), rfl⟩

set_option maxHeartbeats 1000000 in
theorem RFine_any (c : Int) (w : World) :
    Calls Tryz.prog 125 #[.int .i64 c] w fun e w' => e = .returned (.bool (fine c)) ∧ w = w' := by
  go_enter Tryz.func125, Tryz.ntmps125
  go_wp2
  all_goals go_ret
  all_goals exact ⟨ret_bool (by rw [Bool.eq_iff_iff, fine_iff]; simp; try omega), rfl⟩

set_option maxHeartbeats 1000000 in
theorem Space_any (c : Int) (w : World) :
    Calls Tryz.prog 27 #[.int .i64 c] w fun e w' => e = .returned (.bool (space c)) ∧ w = w' := by
  go_enter Tryz.func27, Tryz.ntmps27
  go_wp2
  all_goals go_ret
  all_goals exact ⟨ret_bool (by rw [Bool.eq_iff_iff, space_iff]; simp; try omega), rfl⟩

set_option maxHeartbeats 1000000 in
theorem letter_any (c : Int) (w : World) :
    Calls Tryz.prog 76 #[.int .i64 c] w fun e w' => e = .returned (.bool (first c)) ∧ w = w' := by
  go_enter Tryz.func76, Tryz.ntmps76
  go_wp2_with (first
    | (go_at_call 112; refine (within_any _ _ _ _).mono ?_; rintro e w' ⟨rfl, rfl⟩)
    | (go_at_call 71; refine (Fine_any _ _).mono ?_; rintro e w' ⟨rfl, rfl⟩))
  all_goals go_ret
  all_goals exact ⟨ret_bool (by rw [Bool.eq_iff_iff, first_iff]; cases hf : fine c <;> simp_all <;> try omega), rfl⟩

end Go.Proofs.YtkmdclfkmmlloaaGreatDoor.Utf
namespace Go.Proofs.YtkmdclfkmmlloaaGreatDoor.Utf
open Go Go.Proofs.YtkmdclfkmmlloaaGreatDoor Go.RowKit

theorem digit_any (c : Int) (w : World) :
    Calls Tryz.prog 77 #[.int .i64 c] w fun e w' => e = .returned (.bool (decide (48 ≤ c ∧ c ≤ 57))) ∧ w = w' := by
  go_enter Tryz.func77, Tryz.ntmps77
  go_wp2_with (go_at_call 112; refine (within_any _ _ _ _).mono ?_; rintro e w' ⟨rfl, rfl⟩)
  all_goals go_ret
  all_goals exact ⟨ret_bool (by simp), rfl⟩

theorem First_any (c : Int) (w : World) :
    Calls Tryz.prog 37 #[.int .i64 c] w fun e w' => e = .returned (.bool (first c)) ∧ w = w' := by
  go_enter Tryz.func37, Tryz.ntmps37
  go_wp2_with (go_at_call 76; refine (letter_any _ _).mono ?_; rintro e w' ⟨rfl, rfl⟩)
  all_goals go_ret
  all_goals exact ⟨rfl, rfl⟩

theorem Next_any (c : Int) (w : World) :
    Calls Tryz.prog 40 #[.int .i64 c] w fun e w' => e = .returned (.bool (next c)) ∧ w = w' := by
  go_enter Tryz.func40, Tryz.ntmps40
  go_wp2_with (first
    | (go_at_call 76; refine (letter_any _ _).mono ?_; rintro e w' ⟨rfl, rfl⟩)
    | (go_at_call 77; refine (digit_any _ _).mono ?_; rintro e w' ⟨rfl, rfl⟩))
  all_goals go_ret
  all_goals exact ⟨ret_bool (by rw [Bool.eq_iff_iff, next_iff]; cases hf : first c <;> simp_all), rfl⟩

set_option maxHeartbeats 1000000 in
theorem RFirst_any (c : Int) (w : World) :
    Calls Tryz.prog 150 #[.int .i64 c] w fun e w' => e = .returned (.bool (first c)) ∧ w = w' := by
  go_enter Tryz.func150, Tryz.ntmps150
  go_wp2_with (go_at_call 125; refine (RFine_any _ _).mono ?_; rintro e w' ⟨rfl, rfl⟩)
  all_goals go_ret
  all_goals exact ⟨ret_bool (by rw [Bool.eq_iff_iff, first_iff]; cases hf : fine c <;> simp_all <;> try omega), rfl⟩

theorem RNext_any (c : Int) (w : World) :
    Calls Tryz.prog 152 #[.int .i64 c] w fun e w' => e = .returned (.bool (next c)) ∧ w = w' := by
  go_enter Tryz.func152, Tryz.ntmps152
  go_wp2_with (go_at_call 150; refine (RFirst_any _ _).mono ?_; rintro e w' ⟨rfl, rfl⟩)
  all_goals go_ret
  all_goals exact ⟨ret_bool (by rw [Bool.eq_iff_iff, next_iff]; cases hf : first c <;> simp_all <;> try omega), rfl⟩

end Go.Proofs.YtkmdclfkmmlloaaGreatDoor.Utf
namespace Go.Proofs.YtkmdclfkmmlloaaGreatDoor.Utf
open Go Go.Proofs.YtkmdclfkmmlloaaGreatDoor Go.RowKit

theorem under9 : Tryz.prog.underlying 9 = some .string := Tryz.underlying9
theorem underB : Tryz.prog.underlying 53 = some (.slice 5) := Tryz.underlying53
theorem under8 : Tryz.prog.underlying 5 = some (.int .u8) := Tryz.underlying5
theorem size8 (W : World) : (sizeOf 5).run Tryz.prog W = .ok 1 W := Tryz.sizeOf5 W

/-- What begins asks. -/
def beg (l : List UInt8) (r : Int) : Bool := if r = 65533 then Lib.hasPrefix l [239, 191, 189] else fine r

theorem begins_any (s : ByteArray) (r : Int) (h0 : 0 ≤ r) (h1 : r ≤ 2147483647) (w : World) :
    Calls Tryz.prog 35 #[.string s, .int .i32 r] w fun e w' => e = .returned (.bool (beg s.data.toList r)) ∧ w = w' := by
  by_cases hr : r = 65533
  · subst hr
    go_enter Tryz.func35, Tryz.ntmps35
    go_wp2_with (first
      | (go_at_call 70; refine (Tryz.strings_HasPrefix _ _ _).mono ?_; rintro e w' ⟨rfl, rfl⟩)
      | (go_at_call 71; refine (Fine_any _ _).mono ?_; rintro e w' ⟨rfl, rfl⟩))
    all_goals go_ret
    all_goals exact ⟨rfl, rfl⟩
  · have hb : (r == 65533) = false := by simpa using hr
    go_enter Tryz.func35, Tryz.ntmps35
    go_wp2_with (first
      | (go_at_call 70; refine (Tryz.strings_HasPrefix _ _ _).mono ?_; rintro e w' ⟨rfl, rfl⟩)
      | (go_at_call 71; refine (Fine_any _ _).mono ?_; rintro e w' ⟨rfl, rfl⟩))
    all_goals go_ret
    all_goals exact ⟨ret_bool (by simp [beg, hr]), rfl⟩


theorem nth_data (s : ByteArray) (i : Nat) : (s.get! i).toNat = nth s.data.toList i := by
  obtain ⟨⟨l⟩⟩ := s
  simp only [nth, ByteArray.get!, List.getD]
  by_cases h : i < l.length
  · simp [h]
  · simp [h]; rfl
theorem nth_drop (l : List UInt8) (a i : Nat) : nth (l.drop a) i = nth l (a + i) := by simp [nth, List.getD]

theorem pre_iff (l : List UInt8) : Lib.hasPrefix l [239, 191, 189] = decide (3 ≤ l.length ∧ nth l 0 = 239 ∧ nth l 1 = 191 ∧ nth l 2 = 189) := by
  rw [Bool.eq_iff_iff, decide_eq_true_eq]
  match l with
  | [] => simp [Lib.hasPrefix, nth]
  | [a] => simp [Lib.hasPrefix, nth, List.isPrefixOf]
  | [a, b] => simp [Lib.hasPrefix, nth, List.isPrefixOf]
  | a :: b :: c :: r =>
    simp only [Lib.hasPrefix, nth, List.isPrefixOf, Bool.and_eq_true, beq_iff_eq, List.length_cons, List.getD_cons_zero, List.getD_cons_succ, Bool.and_true]
    constructor
    · rintro ⟨rfl, rfl, rfl⟩; exact ⟨by omega, rfl, rfl, rfl⟩
    · rintro ⟨_, h1, h2, h3⟩; exact ⟨UInt8.toNat_inj.1 h1.symm, UInt8.toNat_inj.1 h2.symm, UInt8.toNat_inj.1 h3.symm⟩

/-- The language's reading at a place, and what the program asks of it: it is the document's. -/
theorem decode_rune (l : List UInt8) (i : Nat) (hi : i < l.length) :
    ((rune (l.drop i)).2 = 0 ∧ beg (l.drop i) (Utf8.decode (text l) i).1 = false) ∨
    ((rune (l.drop i)).2 ≠ 0 ∧ beg (l.drop i) (Utf8.decode (text l) i).1 = true ∧ Utf8.decode (text l) i = rune (l.drop i)) := by
  rw [Lib.decode_at]
  simp only [nth_data, text_data, text_size]
  have hg := go_eq (l.length - i) (nth l i) (nth l (i + 1)) (nth l (i + 2)) (nth l (i + 3)) (by omega) (nth_lt _ _) (nth_lt _ _) (nth_lt _ _) (nth_lt _ _)
  have hr : rune (l.drop i) = runeN (l.length - i) (nth l i) (nth l (i + 1)) (nth l (i + 2)) (nth l (i + 3)) := by
    simp only [rune, nth_drop, List.length_drop, Nat.add_zero]
  rw [← hg] at hr
  generalize hd : Lib.decodeN (l.length - i) (nth l i) (nth l (i + 1)) (nth l (i + 2)) (nth l (i + 3)) = d at *
  have hk : 1 ≤ d.2 := by
    rw [← hd]; unfold Lib.decodeN
    repeat' split
    all_goals simp
  unfold goN at hr
  rw [hd] at hr
  unfold fin at hr
  unfold beg
  rw [pre_iff]
  simp only [nth_drop, List.length_drop, Nat.add_zero]
  by_cases e : d.1 = 65533
  · rw [if_pos e] at hr
    have e' : ((d.1 : Nat) : Int) = 65533 := by omega
    rw [if_pos e']
    by_cases p : 3 ≤ l.length - i ∧ nth l i = 239 ∧ nth l (i + 1) = 191 ∧ nth l (i + 2) = 189
    · rw [if_pos p] at hr
      exact .inr ⟨by rw [hr]; omega, by simpa using p, hr.symm⟩
    · rw [if_neg p] at hr
      exact .inl ⟨by rw [hr], by simpa using p⟩
  · rw [if_neg e] at hr
    have e' : ¬ ((d.1 : Nat) : Int) = 65533 := by omega
    rw [if_neg e']
    by_cases p : fine (d.1 : Int) = true
    · rw [if_pos p] at hr
      exact .inr ⟨by rw [hr]; omega, p, hr.symm⟩
    · rw [if_neg p] at hr
      exact .inl ⟨by rw [hr], by simpa using p⟩

/-- Just the first four bytes play a part. -/
theorem rune_take (l : List UInt8) (k : Nat) (hk : k = l.length ∨ (4 ≤ k ∧ k ≤ l.length)) : rune (l.take k) = rune l := by
  rcases hk with rfl | ⟨h4, hl⟩
  · rw [List.take_length]
  · have e : ∀ i, i < 4 → nth (l.take k) i = nth l i := by
      intro i hi; simp [nth, List.getD, List.getElem?_take, show i < k by omega]
    unfold rune
    rw [e 0 (by omega), e 1 (by omega), e 2 (by omega), e 3 (by omega)]
    exact runeN_le _ _ _ _ _ _ (.inr ⟨by simp; omega, by omega⟩)


/-- The tables of the language's library hold what their initialisers lay. -/
def Tabs (w : World) : Prop := Lib.Utf8Tabs 5 6 w
theorem Tabs.lt {w : World} (h : Tabs w) : 5 < w.heap.size ∧ 6 < w.heap.size :=
  ⟨World.block_lt_of_cell? _ _ (h.1 0 (by omega)), World.block_lt_of_cell? _ _ (h.2 0 (by omega)).1⟩
theorem Tabs.below {w w' : World} (h : Tabs w) {B : Nat} (hb : Below B w w') (hB : w.heap.size ≤ B) : Tabs w' := by
  have hl := h.lt
  refine ⟨fun c hc => ?_, fun i hi => ⟨?_, ?_⟩⟩
  · rw [hb.cell (p := ⟨_, c, none⟩) (Nat.lt_of_lt_of_le hl.1 hB)]; exact h.1 c hc
  · rw [hb.cell (p := ⟨_, 2 * i, none⟩) (Nat.lt_of_lt_of_le hl.2 hB)]; exact (h.2 i hi).1
  · rw [hb.cell (p := ⟨_, 2 * i + 1, none⟩) (Nat.lt_of_lt_of_le hl.2 hB)]; exact (h.2 i hi).2

end Go.Proofs.YtkmdclfkmmlloaaGreatDoor.Utf
namespace Go.Proofs.YtkmdclfkmmlloaaGreatDoor.Utf
open Go Go.Proofs.YtkmdclfkmmlloaaGreatDoor Go.RowKit

/-- The error that Check answers. -/
def checkE (l : List UInt8) : Int := if check l = l.length then 0 else 4
theorem checkE_ok {l : List UInt8} (h : check l = l.length) : checkE l = 0 := by unfold checkE; rw [if_pos h]
theorem checkE_no {l : List UInt8} (h : check l ≠ l.length) : checkE l = 4 := by unfold checkE; rw [if_neg h]

/-- Ahead of pos all is right. -/
def Upto (l : List UInt8) (pos : Nat) : Prop := pos ≤ l.length ∧ check l = pos + check (l.drop pos)
theorem Upto.start (l : List UInt8) : Upto l 0 := ⟨by omega, by simp⟩
theorem Upto.next {l : List UInt8} {pos : Nat} (h : Upto l pos) (hr : (rune (l.drop pos)).2 ≠ 0) : Upto l (pos + (rune (l.drop pos)).2) := by
  have h1 := rune_le (l.drop pos)
  have h2 := check_step hr
  rw [List.drop_drop] at h2
  simp at h1
  exact ⟨by have := h.1; omega, by rw [h.2, h2]; omega⟩
theorem Upto.stop {l : List UInt8} {pos : Nat} (h : Upto l pos) (hp : pos < l.length) (hr : (rune (l.drop pos)).2 = 0) : check l = pos ∧ checkE l = 4 := by
  have e : check l = pos := by rw [h.2, check_stop hr]; omega
  exact ⟨e, checkE_no (by omega)⟩
theorem Upto.done {l : List UInt8} {pos : Nat} (h : Upto l pos) (hp : ¬ pos < l.length) : check l = l.length ∧ checkE l = 0 := by
  have e : pos = l.length := by have := h.1; omega
  have e2 : check l = l.length := by rw [h.2, e]; simp [check_nil]
  exact ⟨e2, checkE_ok e2⟩

set_option maxHeartbeats 1000000 in
set_option maxRecDepth 100000 in
theorem Check_any (v : Value) (l : List UInt8) (w : World) (hv : Bytes w v l) :
    Calls Tryz.prog 25 #[v] w fun e w' => e = .returned (.tuple #[.int .i64 (check l), .int .i64 (checkE l)]) ∧ Below w.heap.size w w' := by
  have hlen := fun W => hv.len (P := Tryz.prog) 53 3 5 underB W
  have hc := hv.conv (P := Tryz.prog) 53 9 5 underB under8 under9
  have hle := hv.le
  have hsz := text_size l
  have HS := hid hsz
  clear hsz hv
  go_enter Tryz.func25, Tryz.ntmps25
  go_wp2_with fail
  go_loopw [5] (fun _ w' => ∃ pos : Nat, w' = w.iter (text l) pos ∧ Upto l pos) (fun _ w' => l.length - w'.iterPos w.heap.size)
  case atStart => exact ⟨0, rfl, Upto.start l⟩
  case round =>
    obtain ⟨pos, rfl, hu⟩ := hrel
    by_cases hp : pos < l.length
    · have hps : pos < (text l).size := by rw [HS.out]; exact hp
      have hnx : ∀ ty, (Instr.next (.pointer (some ⟨w.heap.size, 0, none⟩)) true ty).run Tryz.prog (w.iter (text l) pos) = _ := fun ty => run_next_any w (text l) pos ty hps
      have hd1 := decode_le (text l) pos
      have hdr := decode_rune l pos hp
      obtain ⟨d, hdd⟩ : ∃ d, Utf8.decode (text l) pos = d := ⟨_, rfl⟩
      rw [hdd] at hdr hd1 hnx
      have hbt := fun w => begins_any (text (l.drop pos)) d.1 (by omega) (by omega) w
      rw [text_data] at hbt
      have CB := hid hbt
      have hx : (text l).extract pos (text l).size = text (l.drop pos) := text_extract l pos
      have HU := hid hu
      have hnn : (0 : Int) ≤ (pos : Int) := by omega
      have hpn : (pos : Int) ≤ ((text l).size : Int) := by omega
      clear hbt hdd hu
      rcases hdr with ⟨z, hb⟩ | ⟨z, hb, hdr⟩
      · rw [hb] at CB
        have Z := hid z
        clear z hb
        go_wp2_with (first
          | (go_at_call 35; refine (CB.out _).mono ?_; rintro e w' ⟨rfl, rfl⟩))
        go_ret2
        have := HU.out.stop hp Z.out
        refine ⟨by rw [this.1, this.2]; rfl, ?_⟩
        exact (Below.refl _ _).alloc (Nat.le_refl _) _
      · rw [hb] at CB
        have Z := hid z
        have ZD := hid hdr
        clear z hb hdr
        go_wp2_with (first
          | (go_at_call 35; refine (CB.out _).mono ?_; rintro e w' ⟨rfl, rfl⟩))
        go_roundw
        case rel => exact ⟨_, rfl, by rw [ZD.out]; exact HU.out.next Z.out⟩
        case measure =>
          have := (rune_some (l := l.drop pos) (c := (rune (l.drop pos)).1) (k := (rune (l.drop pos)).2) rfl Z.out).2.2.2.1
          rw [← ZD.out] at this
          simp
          omega
    · have hps : ¬ pos < (text l).size := by rw [HS.out]; exact hp
      have hnx : ∀ ty, (Instr.next (.pointer (some ⟨w.heap.size, 0, none⟩)) true ty).run Tryz.prog (w.iter (text l) pos) = _ := fun ty => run_next_end w (text l) pos ty hps
      have HU := hid hu
      clear hu
      go_wp2
      go_ret2
      have := HU.out.done hp
      refine ⟨by rw [this.1, this.2]; rfl, ?_⟩
      exact (Below.refl _ _).alloc (Nat.le_refl _) _

end Go.Proofs.YtkmdclfkmmlloaaGreatDoor.Utf
namespace Go.Proofs.YtkmdclfkmmlloaaGreatDoor.Utf
open Go Go.Proofs.YtkmdclfkmmlloaaGreatDoor Go.RowKit

/-- A character's bytes. -/
def enc (c : Int) : List UInt8 := Lib.encodeRune c
theorem cells_enc (c : Int) : Lib.runeCells c = cellsOf (enc c) := (Lib.byteCells_encodeRune c).symm
theorem enc_len (c : Int) : 1 ≤ (enc c).length ∧ (enc c).length ≤ 4 := by
  have h := Lib.runeCells_le c
  rw [Lib.runeCells_length] at h
  exact h

theorem enc_one {c : Int} (h : 0 ≤ c) (h' : c < 128) : cellsOf (enc c) = [.int .u8 c] := by
  rw [← cells_enc, Lib.runeCells, Lib.encodeRuneZ_one h (by omega)]; rfl
theorem enc_two {c : Int} (h : 128 ≤ c) (h' : c < 2048) : cellsOf (enc c) = [.int .u8 (192 + c / 64), .int .u8 (128 + c % 64)] := by
  rw [← cells_enc, Lib.runeCells, Lib.encodeRuneZ_two h (by omega)]; rfl
theorem enc_three {c : Int} (h : 2048 ≤ c) (h' : c < 65536) (hf : fine c = true) : cellsOf (enc c) = [.int .u8 (224 + c / 4096), .int .u8 (128 + c / 64 % 64), .int .u8 (128 + c % 64)] := by
  have := (fine_iff c).1 hf
  rw [← cells_enc, Lib.runeCells, Lib.encodeRuneZ_three (by omega)]; rfl
theorem enc_four {c : Int} (h : 65536 ≤ c) (hf : fine c = true) : cellsOf (enc c) = [.int .u8 (240 + c / 262144), .int .u8 (128 + c / 4096 % 64), .int .u8 (128 + c / 64 % 64), .int .u8 (128 + c % 64)] := by
  have := (fine_iff c).1 hf
  rw [← cells_enc, Lib.runeCells, Lib.encodeRuneZ_four h (by omega)]; rfl
theorem enc_width {c : Nat} (hf : fine (c : Int) = true) : (enc c).length = width c := by
  have hl : (enc c).length = (cellsOf (enc (c : Int))).length := by rw [cellsOf_length]
  rw [hl]
  rcases (by omega : c < 128 ∨ (128 ≤ c ∧ c < 2048) ∨ (2048 ≤ c ∧ c < 65536) ∨ 65536 ≤ c) with h | ⟨h, h'⟩ | ⟨h, h'⟩ | h
  · rw [width_one h, enc_one (by omega) (by omega)]; rfl
  · rw [width_two h h', enc_two (by omega) (by omega)]; rfl
  · rw [width_three h h', enc_three (by omega) (by omega) hf]; rfl
  · rw [width_four h, enc_four (by omega) hf]; rfl

/-- The document's bytes of a character that may be. -/
theorem RPut_any (c : Int) (hf : fine c = true) (w : World) :
    Calls Tryz.prog 126 #[.int .i64 c] w fun e w' => ∃ v', e = .returned v' ∧ Bytes w' v' (enc c) ∧ Below w.heap.size w w' := by
  have hr := (fine_iff c).1 hf
  have h0 : 0 ≤ c := by omega
  have h1 : c ≤ 1114111 := by omega
  clear hr
  have hl : (enc c).length = (cellsOf (enc c)).length := by rw [cellsOf_length]
  rcases (by omega : c < 128 ∨ (128 ≤ c ∧ c < 2048) ∨ (2048 ≤ c ∧ c < 65536) ∨ 65536 ≤ c) with h | ⟨h, h'⟩ | ⟨h, h'⟩ | h
  · have he := enc_one h0 h
    have HE := hid he
    have HL := hid hl
    clear he hl hf
    go_enter Tryz.func126, Tryz.ntmps126
    go_wp2
    go_ret
    refine ⟨_, rfl, ?_, (Below.refl _ _).alloc (Nat.le_refl _) _⟩
    unfold Bytes
    rw [HL.out, HE.out]
    exact Row.ofBuild w _ _ _ rfl (by simp)
  · have he := enc_two h h'
    have HE := hid he
    have HL := hid hl
    clear he hl hf
    go_enter Tryz.func126, Tryz.ntmps126
    go_wp2
    go_ret
    refine ⟨_, rfl, ?_, (Below.refl _ _).alloc (Nat.le_refl _) _⟩
    unfold Bytes
    rw [HL.out, HE.out]
    exact Row.ofBuild w _ _ _ rfl (by simp)
  · have he := enc_three h h' hf
    have HE := hid he
    have HL := hid hl
    clear he hl hf
    go_enter Tryz.func126, Tryz.ntmps126
    go_wp2
    go_ret
    refine ⟨_, rfl, ?_, (Below.refl _ _).alloc (Nat.le_refl _) _⟩
    unfold Bytes
    rw [HL.out, HE.out]
    exact Row.ofBuild w _ _ _ rfl (by simp)
  · have he := enc_four h hf
    have HE := hid he
    have HL := hid hl
    clear he hl hf
    go_enter Tryz.func126, Tryz.ntmps126
    go_wp2
    go_ret
    refine ⟨_, rfl, ?_, (Below.refl _ _).alloc (Nat.le_refl _) _⟩
    unfold Bytes
    rw [HL.out, HE.out]
    exact Row.ofBuild w _ _ _ rfl (by simp)

end Go.Proofs.YtkmdclfkmmlloaaGreatDoor.Utf
namespace Go.Proofs.YtkmdclfkmmlloaaGreatDoor.Utf
open Go Go.Proofs.YtkmdclfkmmlloaaGreatDoor Go.RowKit

/-- The lower six bits of bytes, together; -1: one of them isn't from 128 to 191. -/
def lowV : Int → List UInt8 → Int
  | n, [] => n
  | n, b :: r => if b.toNat / 64 = 2 then lowV (64 * n + (b.toNat - 128)) r else -1
theorem lowV_at (n : Int) (l : List UInt8) (k : Nat) (hk : k < l.length) : lowV n (l.drop k) = if l[k].toNat / 64 = 2 then lowV (64 * n + (l[k].toNat - 128)) (l.drop (k + 1)) else -1 := by
  rw [List.drop_eq_getElem_cons hk, lowV]

def LowRel (l : List UInt8) (k : Nat) (m : Int) : Prop := k ≤ l.length ∧ lowV m (l.drop k) = lowV 0 l ∧ 0 ≤ m ∧ (k = 0 → m = 0) ∧ (k = 1 → m < 64) ∧ (k = 2 → m < 4096) ∧ (k = 3 → m < 262144)

set_option maxHeartbeats 1000000 in
theorem low_any (v : Value) (l : List UInt8) (w : World) (hv : Bytes w v l) (hl : l.length ≤ 3) :
    Calls Tryz.prog 124 #[v] w fun e w' => e = .returned (.int .i64 (lowV 0 l)) ∧ w = w' := by
  have hlen := fun W => hv.len (P := Tryz.prog) 53 3 5 underB W
  go_enter Tryz.func124, Tryz.ntmps124
  go_wp2_with fail
  go_loop [3, 4] (fun n i => ∃ (k : Nat) (m : Int), i = .int .i64 k ∧ n = .int .i64 m ∧ LowRel l k m) (fun _ i => l.length - (intOf i).toNat)
  case atStart => exact ⟨0, 0, rfl, rfl, by unfold LowRel; simp⟩
  case round =>
    obtain ⟨k, m, rfl, rfl, hr⟩ := hrel
    have hk := hr.1
    have hm0 := hr.2.2.1
    have hm1 : m < 262144 := by
      obtain ⟨h1, h2, h3, h4, h5, h6, h7⟩ := hr
      rcases (by omega : k = 0 ∨ k = 1 ∨ k = 2 ∨ k = 3) with e | e | e | e
      · have := h4 e; omega
      · have := h5 e; omega
      · have := h6 e; omega
      · have := h7 e; omega
    have HR := hid hr
    clear hr
    by_cases hlt : k < l.length
    · obtain ⟨b, o, ha, hc⟩ := hv.at k hlt 53 5 underB size8
      have hla := lowV_at m l k hlt
      have hb8 := UInt8.toNat_lt l[k]
      obtain ⟨x, hx⟩ : ∃ x, l[k].toNat = x := ⟨_, rfl⟩
      rw [hx] at hc hla hb8
      have HL := hid hla
      clear hx hla hv
      by_cases hb : x / 64 = 2
      · have t1 : ¬ ((x : Int) < 128) := by omega
        have t2 : ¬ ((191 : Int) < x) := by omega
        go_wp2
        go_round
        case rel =>
          refine ⟨k + 1, _, by go_num, rfl, ?_⟩
          obtain ⟨h1, h2, h3, h4, h5, h6, h7⟩ := HR.out
          have h8 := HL.out
          rw [if_pos hb] at h8
          refine ⟨by omega, ?_, by omega, by omega, fun e => ?_, fun e => ?_, fun e => ?_⟩
          · rw [← h2, h8]
            congr 1
            omega
          · have := h4 (by omega); omega
          · have := h5 (by omega); omega
          · have := h6 (by omega); omega
        case measure => simp [intOf]; omega
      · have t1 : (x : Int) < 128 ∨ (191 : Int) < x := by omega
        rcases t1 with t1 | t1
        · go_wp2
          go_ret
          have h8 := HL.out
          rw [if_neg hb, HR.out.2.1] at h8
          exact ⟨by rw [h8]; rfl, rfl⟩
        · have t2 : ¬ ((x : Int) < 128) := by omega
          go_wp2
          go_ret
          have h8 := HL.out
          rw [if_neg hb, HR.out.2.1] at h8
          exact ⟨by rw [h8]; rfl, rfl⟩
    · go_wp2
      go_ret
      have h8 := HR.out.2.1
      rw [List.drop_of_length_le (by omega), lowV] at h8
      exact ⟨by rw [← h8]; rfl, rfl⟩

end Go.Proofs.YtkmdclfkmmlloaaGreatDoor.Utf
namespace Go.Proofs.YtkmdclfkmmlloaaGreatDoor.Utf
open Go Go.Proofs.YtkmdclfkmmlloaaGreatDoor Go.RowKit
set_option maxRecDepth 100000

theorem lowV_neg : ∀ (l : List UInt8) (n : Int), 0 ≤ n → (lowV n l < 0 ↔ ∃ b ∈ l, b.toNat / 64 ≠ 2)
  | [], n, h => by simp [lowV]; exact h
  | b :: r, n, h => by
    have hb := UInt8.toNat_lt b
    rw [lowV]
    by_cases e : b.toNat / 64 = 2
    · rw [if_pos e, lowV_neg r _ (by omega)]
      simp [e]
    · rw [if_neg e]
      simp [e]


/-- What Rune tells, in its own steps: of n bytes, the first one from base on. -/
structure Big (l : List UInt8) (n base p : Nat) : Prop where
  short : l.length < n → rune l = (0, 0)
  wrong : n ≤ l.length → lowV 0 ((l.drop 1).take (n - 1)) < 0 → rune l = (0, 0)
  right : n ≤ l.length → 0 ≤ lowV 0 ((l.drop 1).take (n - 1)) → ∃ x : Nat, (x : Int) = ((nth l 0 - base : Nat) : Int) * (p : Int) + lowV 0 ((l.drop 1).take (n - 1)) ∧ rune l = chk x n

theorem big2 (l : List UInt8) (h : 192 ≤ nth l 0 ∧ nth l 0 < 224) : Big l 2 192 64 := by
  have e : l.length ≠ 0 := by
    intro e; have : l = [] := List.eq_nil_of_length_eq_zero e
    subst this; simp [nth] at h
  have er : rune l = (if 2 ≤ l.length ∧ nth l 1 / 64 = 2 then chk ((nth l 0 - 192) * 64 + (nth l 1 - 128)) 2 else (0, 0)) := by
    unfold rune runeN; rw [if_neg e, if_neg (by omega), if_neg (by omega), if_pos (by omega)]
  refine ⟨fun hs => by rw [er, if_neg (by omega)], fun hl hw => ?_, fun hl hw => ?_⟩
  all_goals
    have e1 : (l.drop 1).take (2 - 1) = [l[1]] := by
      rw [List.drop_eq_getElem_cons (by omega)]; rfl
    rw [e1] at hw
  · rw [lowV_neg _ _ (by omega)] at hw
    simp at hw
    rw [nth_get (by omega)] at hw
    rw [er, if_neg (by omega)]
  · have h1 := nth_get (l := l) (i := 1) (by omega)
    by_cases c1 : l[1].toNat / 64 = 2
    · refine ⟨_, ?_, by rw [er, if_pos ⟨hl, by rw [← h1]; exact c1⟩]⟩
      rw [e1, lowV, if_pos c1, lowV, ← h1]
      have := UInt8.toNat_lt l[1]
      omega
    · rw [lowV, if_neg c1] at hw; omega

theorem big3 (l : List UInt8) (h : 224 ≤ nth l 0 ∧ nth l 0 < 240) : Big l 3 224 4096 := by
  have e : l.length ≠ 0 := by
    intro e; have : l = [] := List.eq_nil_of_length_eq_zero e
    subst this; simp [nth] at h
  have er : rune l = (if 3 ≤ l.length ∧ nth l 1 / 64 = 2 ∧ nth l 2 / 64 = 2 then chk ((nth l 0 - 224) * 4096 + (nth l 1 - 128) * 64 + (nth l 2 - 128)) 3 else (0, 0)) := by
    unfold rune runeN; rw [if_neg e, if_neg (by omega), if_neg (by omega), if_neg (by omega), if_pos (by omega)]
  refine ⟨fun hs => by rw [er, if_neg (by omega)], fun hl hw => ?_, fun hl hw => ?_⟩
  all_goals
    have e1 : (l.drop 1).take (3 - 1) = [l[1], l[2]] := by
      rw [List.drop_eq_getElem_cons (by omega), List.drop_eq_getElem_cons (by omega)]; rfl
    rw [e1] at hw
  · rw [lowV_neg _ _ (by omega)] at hw
    simp at hw
    rw [nth_get (by omega), nth_get (by omega)] at hw
    rw [er, if_neg (by omega)]
  · have h1 := nth_get (l := l) (i := 1) (by omega)
    have h2 := nth_get (l := l) (i := 2) (by omega)
    by_cases c1 : l[1].toNat / 64 = 2
    · by_cases c2 : l[2].toNat / 64 = 2
      · refine ⟨_, ?_, by rw [er, if_pos ⟨hl, by rw [← h1]; exact c1, by rw [← h2]; exact c2⟩]⟩
        rw [e1, lowV, if_pos c1, lowV, if_pos c2, lowV, ← h1, ← h2]
        have := UInt8.toNat_lt l[1]
        have := UInt8.toNat_lt l[2]
        generalize l[1].toNat = a1 at *
        generalize l[2].toNat = a2 at *
        omega
      · rw [lowV, if_pos c1, lowV, if_neg c2] at hw; omega
    · rw [lowV, if_neg c1] at hw; omega

theorem four_eq (K a b c d : Nat) (hb : 128 ≤ b) (hc : 128 ≤ c) (hd : 128 ≤ d) :
    ((a * K + (b - 128) * 4096 + (c - 128) * 64 + (d - 128) : Nat) : Int) = (a : Int) * (K : Int) + (64 * (64 * (64 * 0 + ((b : Int) - 128)) + ((c : Int) - 128)) + ((d : Int) - 128)) := by
  have e1 : ((b - 128 : Nat) : Int) = (b : Int) - 128 := by omega
  have e2 : ((c - 128 : Nat) : Int) = (c : Int) - 128 := by omega
  have e3 : ((d - 128 : Nat) : Int) = (d : Int) - 128 := by omega
  rw [Int.natCast_add, Int.natCast_add, Int.natCast_add, Int.natCast_mul, Int.natCast_mul, Int.natCast_mul, e1, e2, e3]
  generalize (a : Int) * (K : Int) = z
  omega

def k18 : Nat := 262144
theorem val4_eq (a b c d : Nat) : val4 a b c d = (a - 240) * k18 + (b - 128) * 4096 + (c - 128) * 64 + (d - 128) := by unfold val4 k18; rfl

theorem big4 (l : List UInt8) (h : 240 ≤ nth l 0 ∧ nth l 0 < 248) : Big l 4 240 k18 := by
  have e : l.length ≠ 0 := by
    intro e; have : l = [] := List.eq_nil_of_length_eq_zero e
    subst this; simp [nth] at h
  have er : rune l = (if 4 ≤ l.length ∧ nth l 1 / 64 = 2 ∧ nth l 2 / 64 = 2 ∧ nth l 3 / 64 = 2 then chk (val4 (nth l 0) (nth l 1) (nth l 2) (nth l 3)) 4 else (0, 0)) := by
    unfold rune runeN; rw [if_neg e, if_neg (by omega), if_neg (by omega), if_neg (by omega), if_neg (by omega), if_pos (by omega)]
  refine ⟨fun hs => by rw [er, if_neg (by omega)], fun hl hw => ?_, fun hl hw => ?_⟩
  all_goals
    have e1 : (l.drop 1).take (4 - 1) = [l[1], l[2], l[3]] := by
      rw [List.drop_eq_getElem_cons (by omega), List.drop_eq_getElem_cons (by omega), List.drop_eq_getElem_cons (by omega)]; rfl
    rw [e1] at hw
  · rw [lowV_neg _ _ (by omega)] at hw
    simp at hw
    rw [nth_get (by omega), nth_get (by omega), nth_get (by omega)] at hw
    rw [er, if_neg (by omega)]
  · have h1 := nth_get (l := l) (i := 1) (by omega)
    have h2 := nth_get (l := l) (i := 2) (by omega)
    have h3 := nth_get (l := l) (i := 3) (by omega)
    by_cases c1 : l[1].toNat / 64 = 2
    · by_cases c2 : l[2].toNat / 64 = 2
      · by_cases c3 : l[3].toNat / 64 = 2
        · refine ⟨_, ?_, by rw [er, if_pos ⟨hl, by rw [← h1]; exact c1, by rw [← h2]; exact c2, by rw [← h3]; exact c3⟩]⟩
          rw [e1, lowV, if_pos c1, lowV, if_pos c2, lowV, if_pos c3, lowV, ← h1, ← h2, ← h3, val4_eq]
          exact four_eq _ _ _ _ _ (by omega) (by omega) (by omega)
        · rw [lowV, if_pos c1, lowV, if_pos c2, lowV, if_neg c3] at hw; omega
      · rw [lowV, if_pos c1, lowV, if_neg c2] at hw; omega
    · rw [lowV, if_neg c1] at hw; omega

theorem lowV_lt' : ∀ (l : List UInt8) (n : Int) (B : Int), 0 ≤ n → n < B → 1 ≤ B → lowV n l < B * 64 ^ l.length
  | [], n, B, h, h', _ => by simpa [lowV] using h'
  | b :: r, n, B, h, h', hB => by
    have hb := UInt8.toNat_lt b
    rw [lowV]
    by_cases e : b.toNat / 64 = 2
    · rw [if_pos e]
      have := lowV_lt' r (64 * n + (b.toNat - 128)) (B * 64) (by omega) (by omega) (by omega)
      rw [List.length_cons, Int.pow_succ, show B * (64 ^ r.length * 64) = B * 64 * 64 ^ r.length from by rw [Int.mul_comm (64 ^ r.length) 64, Int.mul_assoc]]
      exact this
    · rw [if_neg e]
      have : 0 < B * 64 ^ (b :: r).length := Int.mul_pos (by omega) (Int.pow_pos (by omega))
      omega
theorem lowV_lt (l : List UInt8) (h : l.length ≤ 3) : lowV 0 l < 262144 := by
  have := lowV_lt' l 0 1 (by omega) (by omega) (by omega)
  rcases (by omega : l.length = 0 ∨ l.length = 1 ∨ l.length = 2 ∨ l.length = 3) with e | e | e | e <;> rw [e] at this <;> simp at this <;> omega

/-- The top's value behind k - 1 rounds. -/
def TopRel (n k : Nat) (t m : Int) : Prop := 1 ≤ k ∧ k ≤ n ∧ 0 ≤ m ∧ (k = 1 → m = t) ∧ (k = 2 → m = 64 * t) ∧ (k = 3 → m = 4096 * t) ∧ (k = 4 → m = 262144 * t)

def pairV (r : Nat × Nat) : Value := .tuple #[.int .i64 r.1, .int .i64 r.2]
theorem RRune_none (v : Value) (w : World) (hv : Bytes w v []) :
    Calls Tryz.prog 85 #[v] w fun e w' => e = .returned (pairV (rune [])) ∧ Below w.heap.size w w' := by
  have hlen := fun W => hv.len (P := Tryz.prog) 53 3 5 underB W
  simp only [List.length_nil] at hlen
  go_enter Tryz.func85, Tryz.ntmps85
  go_wp2
  go_ret2
  exact ⟨rfl, Below.refl _ _⟩

set_option maxHeartbeats 1000000 in
theorem RRune_low (v : Value) (l : List UInt8) (w : World) (hv : Bytes w v l) (hn : 0 < l.length) (hx : nth l 0 < 128) :
    Calls Tryz.prog 85 #[v] w fun e w' => e = .returned (pairV (rune l)) ∧ Below w.heap.size w w' := by
  have hlen := fun W => hv.len (P := Tryz.prog) 53 3 5 underB W
  have hr : rune l = chk (nth l 0) 1 := by unfold rune runeN; rw [if_neg (by omega), if_pos hx]
  obtain ⟨b, o, ha, hc⟩ := hv.atI 0 (by omega) (by omega) 53 5 underB size8
  rw [show (0 : Int).toNat = 0 from rfl] at hc
  have hle := hv.le
  obtain ⟨v', a1, _, _, hv'⟩ := hv.subI 1 1 (by omega) (by omega) (by omega) 53 5 underB size8
  have hlo := low_any v' _ w hv' (by simp)
  have e0 : (1 - 1 : Int).toNat = 0 := rfl
  rw [e0, List.take_zero, lowV] at hlo
  obtain ⟨y, hxx⟩ : ∃ y, nth l 0 = y := ⟨_, rfl⟩
  rw [hxx] at hr hc hx
  have hxx1 : ((l.length : Int) == 0) = false := by rw [beq_eq_false_iff_ne]; omega
  have HR := hid hr
  have HLo := hid hlo
  clear hxx hr hv hv' hlo
  go_enter Tryz.func85, Tryz.ntmps85
  go_wp2_with (go_at_call 124; refine HLo.out.mono ?_; rintro e w' ⟨rfl, rfl⟩)
  go_loop [6, 8] (fun t i => t = .int .i64 y ∧ i = .int .i64 1) (fun _ _ => 0)
  case atStart => exact ⟨rfl, rfl⟩
  case round =>
    obtain ⟨rfl, rfl⟩ := hrel
    by_cases hf : fine (y : Int) = true
    · have hRF := fun W => RFine_any (y : Int) W
      rw [hf] at hRF
      have HF := hid hRF
      have HP := hid (fun W => RPut_any (y : Int) hf W)
      have hwd := enc_width hf
      have HWD := hid hwd
      by_cases hwn : width y = 1
      · have hres := chk_fine hf hwn
        have HRES := hid hres
        have HWN := hid hwn
        clear hRF hf hwd hres hwn
        go_wp2_with (first
          | (go_at_call 125; refine (HF.out _).mono ?_; rintro e w' ⟨rfl, rfl⟩)
          | (go_at_call 126; go_must (refine (HP.out _).mono ?_; rintro e w' ⟨v2, rfl, hb2, hbel⟩; have hl2 := fun W => hb2.len (P := Tryz.prog) 53 3 5 underB W; rw [HWD.out, HWN.out] at hl2; clear hb2)))
        go_ret2
        exact ⟨by rw [HR.out, HRES.out]; rfl, hbel⟩
      · have hres := chk_not (c := y) (k := 1) (fun e => hwn e.2)
        have HRES := hid hres
        have hwb : ((width y : Int) == 1) = false := by rw [beq_eq_false_iff_ne]; omega
        have hwb2 : ((width y : Int) != 1) = true := by rw [bne_iff_ne]; omega
        clear hRF hf hwd hres hwn
        go_wp2_with (first
          | (go_at_call 125; refine (HF.out _).mono ?_; rintro e w' ⟨rfl, rfl⟩)
          | (go_at_call 126; go_must (refine (HP.out _).mono ?_; rintro e w' ⟨v2, rfl, hb2, hbel⟩; have hl2 := fun W => hb2.len (P := Tryz.prog) 53 3 5 underB W; rw [HWD.out] at hl2; clear hb2)))
        go_ret2
        exact ⟨by rw [HR.out, HRES.out]; rfl, hbel⟩
    · have hRF := fun W => RFine_any (y : Int) W
      have hff : fine (y : Int) = false := by simpa using hf
      rw [hff] at hRF
      have HF := hid hRF
      have hres := chk_not (c := y) (k := 1) (fun e => hf e.1)
      have HRES := hid hres
      clear hRF hf hff hres
      go_wp2_with (go_at_call 125; refine (HF.out _).mono ?_; rintro e w' ⟨rfl, rfl⟩)
      go_ret2
      exact ⟨by rw [HR.out, HRES.out]; rfl, Below.refl _ _⟩

set_option maxHeartbeats 2000000 in
theorem RRune_2 (v : Value) (l : List UInt8) (w : World) (hv : Bytes w v l) (hx : 192 ≤ nth l 0 ∧ nth l 0 < 224) :
    Calls Tryz.prog 85 #[v] w fun e w' => e = .returned (pairV (rune l)) ∧ Below w.heap.size w w' := by
  have hlen := fun W => hv.len (P := Tryz.prog) 53 3 5 underB W
  have hB := big2 l hx
  have hn : 0 < l.length := by
    rcases Nat.eq_zero_or_pos l.length with e | e
    · have : l = [] := List.eq_nil_of_length_eq_zero e
      subst this; simp [nth] at hx
    · exact e
  obtain ⟨b, o, ha, hc⟩ := hv.atI 0 (by omega) (by omega) 53 5 underB size8
  rw [show (0 : Int).toNat = 0 from rfl] at hc
  have hle := hv.le
  have hxx1 : ((l.length : Int) == 0) = false := by rw [beq_eq_false_iff_ne]; omega
  by_cases hs : l.length < 2
  · have hr := hB.short hs
    have HR := hid hr
    clear hr hB hv
    generalize nth l 0 = x at *
    go_enter Tryz.func85, Tryz.ntmps85
    go_wp2_with fail
    go_ret2
    exact ⟨by rw [HR.out]; rfl, Below.refl _ _⟩
  · obtain ⟨v', a1, _, _, hv'⟩ := hv.subI 1 2 (by omega) (by omega) (by omega) 53 5 underB size8
    have hlo := low_any v' _ w hv' (by simp; omega)
    rw [show (1 : Int).toNat = 1 from rfl, show (2 - 1 : Int).toNat = 2 - 1 from rfl] at hlo
    have hw := hB.wrong (by omega)
    have hri := hB.right (by omega)
    have hbd := lowV_lt ((l.drop 1).take (2 - 1)) (by simp; omega)
    clear hB hv hv'
    generalize lowV 0 ((l.drop 1).take (2 - 1)) = r at *
    have HLo := hid hlo
    generalize nth l 0 = x at *
    by_cases hr0 : r < 0
    · have hr := hw hr0
      have HR := hid hr
      clear hlo hw hri hr hbd
      go_enter Tryz.func85, Tryz.ntmps85
      go_wp2_with (go_at_call 124; refine HLo.out.mono ?_; rintro e w' ⟨rfl, rfl⟩)
      go_ret2
      exact ⟨by rw [HR.out]; rfl, Below.refl _ _⟩
    · obtain ⟨y, hy, hr⟩ := hri (by omega)
      obtain ⟨z, rfl⟩ : ∃ z, x = 192 + z := ⟨x - 192, by omega⟩
      rw [Nat.add_sub_cancel_left] at hy
      have HR := hid hr
      have HY := hid hy
      have hz : (z : Int) < 32 := by omega
      have hcb : (((192 + z : Nat)) : Int) = 192 + (z : Int) := by omega
      rw [hcb] at hc
      clear hlo hw hri hr hcb hy
      go_enter Tryz.func85, Tryz.ntmps85
      go_wp2_with (go_at_call 124; refine HLo.out.mono ?_; rintro e w' ⟨rfl, rfl⟩)
      go_loop [6, 8] (fun t i => ∃ (k : Nat) (m : Int), i = .int .i64 k ∧ t = .int .i64 m ∧ TopRel 2 k z m) (fun _ i => 2 - (intOf i).toNat)
      case atStart => exact ⟨1, z, rfl, by first | rfl | (simp; omega), by unfold TopRel; omega⟩
      case round =>
        obtain ⟨k, m, rfl, rfl, ht⟩ := hrel
        have HT := hid ht
        have hk1 := ht.1
        have hk2 := ht.2.1
        have hm0 := ht.2.2.1
        have hm1 : m < 8126464 := by unfold TopRel at ht; omega
        by_cases hlt : k < 2
        · clear ht
          go_wp2
          go_round
          case rel => exact ⟨k + 1, _, by go_num, rfl, by have := HT.out; unfold TopRel at *; omega⟩
          case measure => simp [intOf]; omega
        · have hmy : m + r = y := by
            have := HY.out
            unfold TopRel at ht
            omega
          have HM := hid hmy
          clear ht
          by_cases hf : fine (y : Int) = true
          · have hRF := fun W => RFine_any (y : Int) W
            rw [hf] at hRF
            have HF := hid hRF
            have HP := hid (fun W => RPut_any (y : Int) hf W)
            have hwd := enc_width hf
            have HWD := hid hwd
            by_cases hwn : width y = 2
            · have hres := chk_fine hf hwn
              have HRES := hid hres
              have HWN := hid hwn
              clear hRF hf hwd hres hwn
              go_wp2_with (first
                | (go_at_call 125; refine (HF.out _).mono ?_; rintro e w' ⟨rfl, rfl⟩)
                | (go_at_call 126; go_must (refine (HP.out _).mono ?_; rintro e w' ⟨v2, rfl, hb2, hbel⟩; have hl2 := fun W => hb2.len (P := Tryz.prog) 53 3 5 underB W; rw [HWD.out, HWN.out] at hl2; clear hb2)))
              go_ret2
              exact ⟨by rw [HR.out, HRES.out]; rfl, hbel⟩
            · have hres := chk_not (c := y) (k := 2) (fun e => hwn e.2)
              have HRES := hid hres
              have hwb : ((width y : Int) == 2) = false := by rw [beq_eq_false_iff_ne]; omega
              have hwb2 : ((width y : Int) != 2) = true := by rw [bne_iff_ne]; omega
              clear hRF hf hwd hres hwn
              go_wp2_with (first
                | (go_at_call 125; refine (HF.out _).mono ?_; rintro e w' ⟨rfl, rfl⟩)
                | (go_at_call 126; go_must (refine (HP.out _).mono ?_; rintro e w' ⟨v2, rfl, hb2, hbel⟩; have hl2 := fun W => hb2.len (P := Tryz.prog) 53 3 5 underB W; rw [HWD.out] at hl2; clear hb2)))
              go_ret2
              exact ⟨by rw [HR.out, HRES.out]; rfl, hbel⟩
          · have hRF := fun W => RFine_any (y : Int) W
            have hff : fine (y : Int) = false := by simpa using hf
            rw [hff] at hRF
            have HF := hid hRF
            have hres := chk_not (c := y) (k := 2) (fun e => hf e.1)
            have HRES := hid hres
            clear hRF hf hff hres
            go_wp2_with (go_at_call 125; refine (HF.out _).mono ?_; rintro e w' ⟨rfl, rfl⟩)
            go_ret2
            exact ⟨by rw [HR.out, HRES.out]; rfl, Below.refl _ _⟩

set_option maxHeartbeats 2000000 in
theorem RRune_3 (v : Value) (l : List UInt8) (w : World) (hv : Bytes w v l) (hx : 224 ≤ nth l 0 ∧ nth l 0 < 240) :
    Calls Tryz.prog 85 #[v] w fun e w' => e = .returned (pairV (rune l)) ∧ Below w.heap.size w w' := by
  have hlen := fun W => hv.len (P := Tryz.prog) 53 3 5 underB W
  have hB := big3 l hx
  have hn : 0 < l.length := by
    rcases Nat.eq_zero_or_pos l.length with e | e
    · have : l = [] := List.eq_nil_of_length_eq_zero e
      subst this; simp [nth] at hx
    · exact e
  obtain ⟨b, o, ha, hc⟩ := hv.atI 0 (by omega) (by omega) 53 5 underB size8
  rw [show (0 : Int).toNat = 0 from rfl] at hc
  have hle := hv.le
  have hxx1 : ((l.length : Int) == 0) = false := by rw [beq_eq_false_iff_ne]; omega
  by_cases hs : l.length < 3
  · have hr := hB.short hs
    have HR := hid hr
    clear hr hB hv
    generalize nth l 0 = x at *
    go_enter Tryz.func85, Tryz.ntmps85
    go_wp2_with fail
    go_ret2
    exact ⟨by rw [HR.out]; rfl, Below.refl _ _⟩
  · obtain ⟨v', a1, _, _, hv'⟩ := hv.subI 1 3 (by omega) (by omega) (by omega) 53 5 underB size8
    have hlo := low_any v' _ w hv' (by simp; omega)
    rw [show (1 : Int).toNat = 1 from rfl, show (3 - 1 : Int).toNat = 3 - 1 from rfl] at hlo
    have hw := hB.wrong (by omega)
    have hri := hB.right (by omega)
    have hbd := lowV_lt ((l.drop 1).take (3 - 1)) (by simp; omega)
    clear hB hv hv'
    generalize lowV 0 ((l.drop 1).take (3 - 1)) = r at *
    have HLo := hid hlo
    generalize nth l 0 = x at *
    by_cases hr0 : r < 0
    · have hr := hw hr0
      have HR := hid hr
      clear hlo hw hri hr hbd
      go_enter Tryz.func85, Tryz.ntmps85
      go_wp2_with (go_at_call 124; refine HLo.out.mono ?_; rintro e w' ⟨rfl, rfl⟩)
      go_ret2
      exact ⟨by rw [HR.out]; rfl, Below.refl _ _⟩
    · obtain ⟨y, hy, hr⟩ := hri (by omega)
      obtain ⟨z, rfl⟩ : ∃ z, x = 224 + z := ⟨x - 224, by omega⟩
      rw [Nat.add_sub_cancel_left] at hy
      have HR := hid hr
      have HY := hid hy
      have hz : (z : Int) < 16 := by omega
      have hcb : (((224 + z : Nat)) : Int) = 224 + (z : Int) := by omega
      rw [hcb] at hc
      clear hlo hw hri hr hcb hy
      go_enter Tryz.func85, Tryz.ntmps85
      go_wp2_with (go_at_call 124; refine HLo.out.mono ?_; rintro e w' ⟨rfl, rfl⟩)
      go_loop [6, 8] (fun t i => ∃ (k : Nat) (m : Int), i = .int .i64 k ∧ t = .int .i64 m ∧ TopRel 3 k z m) (fun _ i => 3 - (intOf i).toNat)
      case atStart => exact ⟨1, z, rfl, by first | rfl | (simp; omega), by unfold TopRel; omega⟩
      case round =>
        obtain ⟨k, m, rfl, rfl, ht⟩ := hrel
        have HT := hid ht
        have hk1 := ht.1
        have hk2 := ht.2.1
        have hm0 := ht.2.2.1
        have hm1 : m < 8126464 := by unfold TopRel at ht; omega
        by_cases hlt : k < 3
        · clear ht
          go_wp2
          go_round
          case rel => exact ⟨k + 1, _, by go_num, rfl, by have := HT.out; unfold TopRel at *; omega⟩
          case measure => simp [intOf]; omega
        · have hmy : m + r = y := by
            have := HY.out
            unfold TopRel at ht
            omega
          have HM := hid hmy
          clear ht
          by_cases hf : fine (y : Int) = true
          · have hRF := fun W => RFine_any (y : Int) W
            rw [hf] at hRF
            have HF := hid hRF
            have HP := hid (fun W => RPut_any (y : Int) hf W)
            have hwd := enc_width hf
            have HWD := hid hwd
            by_cases hwn : width y = 3
            · have hres := chk_fine hf hwn
              have HRES := hid hres
              have HWN := hid hwn
              clear hRF hf hwd hres hwn
              go_wp2_with (first
                | (go_at_call 125; refine (HF.out _).mono ?_; rintro e w' ⟨rfl, rfl⟩)
                | (go_at_call 126; go_must (refine (HP.out _).mono ?_; rintro e w' ⟨v2, rfl, hb2, hbel⟩; have hl2 := fun W => hb2.len (P := Tryz.prog) 53 3 5 underB W; rw [HWD.out, HWN.out] at hl2; clear hb2)))
              go_ret2
              exact ⟨by rw [HR.out, HRES.out]; rfl, hbel⟩
            · have hres := chk_not (c := y) (k := 3) (fun e => hwn e.2)
              have HRES := hid hres
              have hwb : ((width y : Int) == 3) = false := by rw [beq_eq_false_iff_ne]; omega
              have hwb2 : ((width y : Int) != 3) = true := by rw [bne_iff_ne]; omega
              clear hRF hf hwd hres hwn
              go_wp2_with (first
                | (go_at_call 125; refine (HF.out _).mono ?_; rintro e w' ⟨rfl, rfl⟩)
                | (go_at_call 126; go_must (refine (HP.out _).mono ?_; rintro e w' ⟨v2, rfl, hb2, hbel⟩; have hl2 := fun W => hb2.len (P := Tryz.prog) 53 3 5 underB W; rw [HWD.out] at hl2; clear hb2)))
              go_ret2
              exact ⟨by rw [HR.out, HRES.out]; rfl, hbel⟩
          · have hRF := fun W => RFine_any (y : Int) W
            have hff : fine (y : Int) = false := by simpa using hf
            rw [hff] at hRF
            have HF := hid hRF
            have hres := chk_not (c := y) (k := 3) (fun e => hf e.1)
            have HRES := hid hres
            clear hRF hf hff hres
            go_wp2_with (go_at_call 125; refine (HF.out _).mono ?_; rintro e w' ⟨rfl, rfl⟩)
            go_ret2
            exact ⟨by rw [HR.out, HRES.out]; rfl, Below.refl _ _⟩

set_option maxHeartbeats 2000000 in
theorem RRune_4 (v : Value) (l : List UInt8) (w : World) (hv : Bytes w v l) (hx : 240 ≤ nth l 0 ∧ nth l 0 < 248) :
    Calls Tryz.prog 85 #[v] w fun e w' => e = .returned (pairV (rune l)) ∧ Below w.heap.size w w' := by
  have hlen := fun W => hv.len (P := Tryz.prog) 53 3 5 underB W
  have hB := big4 l hx
  have hn : 0 < l.length := by
    rcases Nat.eq_zero_or_pos l.length with e | e
    · have : l = [] := List.eq_nil_of_length_eq_zero e
      subst this; simp [nth] at hx
    · exact e
  obtain ⟨b, o, ha, hc⟩ := hv.atI 0 (by omega) (by omega) 53 5 underB size8
  rw [show (0 : Int).toNat = 0 from rfl] at hc
  have hle := hv.le
  have hxx1 : ((l.length : Int) == 0) = false := by rw [beq_eq_false_iff_ne]; omega
  by_cases hs : l.length < 4
  · have hr := hB.short hs
    have HR := hid hr
    clear hr hB hv
    generalize nth l 0 = x at *
    go_enter Tryz.func85, Tryz.ntmps85
    go_wp2_with fail
    go_ret2
    exact ⟨by rw [HR.out]; rfl, Below.refl _ _⟩
  · obtain ⟨v', a1, _, _, hv'⟩ := hv.subI 1 4 (by omega) (by omega) (by omega) 53 5 underB size8
    have hlo := low_any v' _ w hv' (by simp; omega)
    rw [show (1 : Int).toNat = 1 from rfl, show (4 - 1 : Int).toNat = 4 - 1 from rfl] at hlo
    have hw := hB.wrong (by omega)
    have hri := hB.right (by omega)
    have hbd := lowV_lt ((l.drop 1).take (4 - 1)) (by simp; omega)
    clear hB hv hv'
    generalize lowV 0 ((l.drop 1).take (4 - 1)) = r at *
    have HLo := hid hlo
    generalize nth l 0 = x at *
    by_cases hr0 : r < 0
    · have hr := hw hr0
      have HR := hid hr
      clear hlo hw hri hr hbd
      go_enter Tryz.func85, Tryz.ntmps85
      go_wp2_with (go_at_call 124; refine HLo.out.mono ?_; rintro e w' ⟨rfl, rfl⟩)
      go_ret2
      exact ⟨by rw [HR.out]; rfl, Below.refl _ _⟩
    · obtain ⟨y, hy, hr⟩ := hri (by omega)
      obtain ⟨z, rfl⟩ : ∃ z, x = 240 + z := ⟨x - 240, by omega⟩
      rw [Nat.add_sub_cancel_left] at hy
      have HR := hid hr
      have HY := hid hy
      have hz : (z : Int) < 8 := by omega
      have hcb : (((240 + z : Nat)) : Int) = 240 + (z : Int) := by omega
      rw [hcb] at hc
      clear hlo hw hri hr hcb hy
      go_enter Tryz.func85, Tryz.ntmps85
      go_wp2_with (go_at_call 124; refine HLo.out.mono ?_; rintro e w' ⟨rfl, rfl⟩)
      go_loop [6, 8] (fun t i => ∃ (k : Nat) (m : Int), i = .int .i64 k ∧ t = .int .i64 m ∧ TopRel 4 k z m) (fun _ i => 4 - (intOf i).toNat)
      case atStart => exact ⟨1, z, rfl, by first | rfl | (simp; omega), by unfold TopRel; omega⟩
      case round =>
        obtain ⟨k, m, rfl, rfl, ht⟩ := hrel
        have HT := hid ht
        have hk1 := ht.1
        have hk2 := ht.2.1
        have hm0 := ht.2.2.1
        have hm1 : m < 8126464 := by unfold TopRel at ht; omega
        by_cases hlt : k < 4
        · clear ht
          go_wp2
          go_round
          case rel => exact ⟨k + 1, _, by go_num, rfl, by have := HT.out; unfold TopRel at *; omega⟩
          case measure => simp [intOf]; omega
        · have hmy : m + r = y := by
            have := HY.out
            unfold TopRel at ht
            unfold k18 at this; omega
          have HM := hid hmy
          clear ht
          by_cases hf : fine (y : Int) = true
          · have hRF := fun W => RFine_any (y : Int) W
            rw [hf] at hRF
            have HF := hid hRF
            have HP := hid (fun W => RPut_any (y : Int) hf W)
            have hwd := enc_width hf
            have HWD := hid hwd
            by_cases hwn : width y = 4
            · have hres := chk_fine hf hwn
              have HRES := hid hres
              have HWN := hid hwn
              clear hRF hf hwd hres hwn
              go_wp2_with (first
                | (go_at_call 125; refine (HF.out _).mono ?_; rintro e w' ⟨rfl, rfl⟩)
                | (go_at_call 126; go_must (refine (HP.out _).mono ?_; rintro e w' ⟨v2, rfl, hb2, hbel⟩; have hl2 := fun W => hb2.len (P := Tryz.prog) 53 3 5 underB W; rw [HWD.out, HWN.out] at hl2; clear hb2)))
              go_ret2
              exact ⟨by rw [HR.out, HRES.out]; rfl, hbel⟩
            · have hres := chk_not (c := y) (k := 4) (fun e => hwn e.2)
              have HRES := hid hres
              have hwb : ((width y : Int) == 4) = false := by rw [beq_eq_false_iff_ne]; omega
              have hwb2 : ((width y : Int) != 4) = true := by rw [bne_iff_ne]; omega
              clear hRF hf hwd hres hwn
              go_wp2_with (first
                | (go_at_call 125; refine (HF.out _).mono ?_; rintro e w' ⟨rfl, rfl⟩)
                | (go_at_call 126; go_must (refine (HP.out _).mono ?_; rintro e w' ⟨v2, rfl, hb2, hbel⟩; have hl2 := fun W => hb2.len (P := Tryz.prog) 53 3 5 underB W; rw [HWD.out] at hl2; clear hb2)))
              go_ret2
              exact ⟨by rw [HR.out, HRES.out]; rfl, hbel⟩
          · have hRF := fun W => RFine_any (y : Int) W
            have hff : fine (y : Int) = false := by simpa using hf
            rw [hff] at hRF
            have HF := hid hRF
            have hres := chk_not (c := y) (k := 4) (fun e => hf e.1)
            have HRES := hid hres
            clear hRF hf hff hres
            go_wp2_with (go_at_call 125; refine (HF.out _).mono ?_; rintro e w' ⟨rfl, rfl⟩)
            go_ret2
            exact ⟨by rw [HR.out, HRES.out]; rfl, Below.refl _ _⟩

theorem RRune_bad (v : Value) (l : List UInt8) (w : World) (hv : Bytes w v l) (hn : 0 < l.length) (hx : (128 ≤ nth l 0 ∧ nth l 0 < 192) ∨ 248 ≤ nth l 0) :
    Calls Tryz.prog 85 #[v] w fun e w' => e = .returned (pairV (rune l)) ∧ Below w.heap.size w w' := by
  have hlen := fun W => hv.len (P := Tryz.prog) 53 3 5 underB W
  have hr : rune l = (0, 0) := by
    unfold rune runeN; rw [if_neg (by omega), if_neg (by omega)]
    rcases hx with h | h
    · rw [if_pos (by omega)]
    · rw [if_neg (by omega), if_neg (by omega), if_neg (by omega), if_neg (by omega)]
  obtain ⟨b, o, ha, hc⟩ := hv.atI 0 (by omega) (by omega) 53 5 underB size8
  rw [show (0 : Int).toNat = 0 from rfl] at hc
  have hxx1 : ((l.length : Int) == 0) = false := by rw [beq_eq_false_iff_ne]; omega
  have HR := hid hr
  have hx8 := nth_lt l 0
  clear hr hv
  generalize nth l 0 = x at *
  rcases hx with h | h
  · go_enter Tryz.func85, Tryz.ntmps85
    go_wp2_with fail
    go_ret2
    exact ⟨by rw [HR.out]; rfl, Below.refl _ _⟩
  · go_enter Tryz.func85, Tryz.ntmps85
    go_wp2_with fail
    go_ret2
    exact ⟨by rw [HR.out]; rfl, Below.refl _ _⟩

/-- The document's answer: the character that bytes begin with. -/
theorem RRune_any (v : Value) (l : List UInt8) (w : World) (hv : Bytes w v l) :
    Calls Tryz.prog 85 #[v] w fun e w' => e = .returned (pairV (rune l)) ∧ Below w.heap.size w w' := by
  rcases Nat.eq_zero_or_pos l.length with e | e
  · have : l = [] := List.eq_nil_of_length_eq_zero e
    subst this; exact RRune_none v w hv
  · rcases (by omega : nth l 0 < 128 ∨ (128 ≤ nth l 0 ∧ nth l 0 < 192) ∨ (192 ≤ nth l 0 ∧ nth l 0 < 224) ∨ (224 ≤ nth l 0 ∧ nth l 0 < 240) ∨ (240 ≤ nth l 0 ∧ nth l 0 < 248) ∨ 248 ≤ nth l 0) with h | h | h | h | h | h
    · exact RRune_low v l w hv e h
    · exact RRune_bad v l w hv e (.inl h)
    · exact RRune_2 v l w hv h
    · exact RRune_3 v l w hv h
    · exact RRune_4 v l w hv h
    · exact RRune_bad v l w hv e (.inr h)

set_option maxHeartbeats 1000000 in
/-- The document's answer: the first place at which a character should begin and none does. -/
theorem RCheck_any (v : Value) (l : List UInt8) (w : World) (hv : Bytes w v l) :
    Calls Tryz.prog 48 #[v] w fun e w' => e = .returned (.int .i64 (check l)) ∧ Below w.heap.size w w' := by
  have hlen := fun W => hv.len (P := Tryz.prog) 53 3 5 underB W
  have hle := hv.le
  go_enter Tryz.func48, Tryz.ntmps48
  go_wp2_with fail
  go_loopw [3] (fun i w' => ∃ pos : Nat, i = .int .i64 pos ∧ Upto l pos ∧ Below w.heap.size w w') (fun i _ => l.length - (intOf i).toNat)
  case atStart => exact ⟨0, rfl, Upto.start l, Below.refl _ _⟩
  case round =>
    obtain ⟨pos, rfl, hu, hbl⟩ := hrel
    by_cases hp : pos < l.length
    · obtain ⟨v', _, a2, _, hv'⟩ := (hv.below hbl (Nat.le_refl _)).subI pos l.length (by omega) (by omega) (by omega) 53 5 underB size8
      have a3 := a2 rfl
      rw [show ((l.length : Int) - (pos : Int)).toNat = (l.drop pos).length from by simp, Int.toNat_natCast, List.take_length] at hv'
      have hR := RRune_any v' _ _ hv'
      unfold pairV at hR
      have hk := rune_le (l.drop pos)
      simp only [List.length_drop] at hk
      have HU := hid hu
      by_cases z : (rune (l.drop pos)).2 = 0
      · have hr0 := rune_none z
        rw [hr0] at hR
        have HR := hid hR
        have Z := hid z
        have HB := hid hbl
        clear hu hv' hr0 z a2 hR hbl hk
        go_wp2_with (go_at_call 85; refine HR.out.mono ?_; rintro e w' ⟨rfl, hb1⟩)
        go_ret
        exact ⟨by rw [(HU.out.stop hp Z.out).1]; rfl, HB.out.trans (hb1.mono HB.out.size)⟩
      · have hz : (((rune (l.drop pos)).2 : Int) == 0) = false := by rw [beq_eq_false_iff_ne]; omega
        have Z := hid z
        have HR := hid hR
        have HB := hid hbl
        have hk1 : 1 ≤ (rune (l.drop pos)).2 := by omega
        have hnx := hu.next z
        have HN := hid hnx
        clear hu hv' z a2 hR hbl hnx
        generalize rune (l.drop pos) = r at *
        go_wp2_with (go_at_call 85; refine HR.out.mono ?_; rintro e w' ⟨rfl, hb1⟩)
        go_roundw
        case rel => exact ⟨pos + r.2, by go_num, HN.out, HB.out.trans (hb1.mono HB.out.size)⟩
        case measure => simp [intOf]; omega
    · have HU := hid hu
      have HB := hid hbl
      clear hu hbl
      go_wp2
      go_ret
      refine ⟨?_, HB.out⟩
      rw [(HU.out.done hp).1]
      have := HU.out.1
      have e : pos = l.length := by omega
      rw [e]; rfl

end Go.Proofs.YtkmdclfkmmlloaaGreatDoor.Utf
namespace Go.Proofs.YtkmdclfkmmlloaaGreatDoor.Utf
open Go Go.Proofs.YtkmdclfkmmlloaaGreatDoor Go.RowKit
set_option maxRecDepth 100000

theorem Tabs.alloc {w : World} (h : Tabs w) (o : Obj) : Tabs (w.alloc o) := h.below ((Below.refl w.heap.size w).alloc (Nat.le_refl _) o) (Nat.le_refl _)

end Go.Proofs.YtkmdclfkmmlloaaGreatDoor.Utf
namespace Go.Proofs.YtkmdclfkmmlloaaGreatDoor.Utf
open Go Go.Proofs.YtkmdclfkmmlloaaGreatDoor Go.RowKit
set_option maxRecDepth 100000

theorem nth_append_left (l m : List UInt8) (i : Nat) (h : i < l.length) : nth (l ++ m) i = nth l i := by simp [nth, List.getD, List.getElem?_append_left h]
theorem nth_take (l : List UInt8) (k i : Nat) (h : i < k) : nth (l.take k) i = nth l i := by simp [nth, List.getD, List.getElem?_take, h]

theorem chk_snd {x j k : Nat} (h : (chk x j).2 = k) (hk : k ≠ 0) : j = k := by
  rcases chk_cases x j with e | ⟨e, _⟩ <;> rw [e] at h
  · exact absurd h.symm hk
  · exact h

/-- A character hangs on its own bytes alone. -/
theorem runeN_own (n m b0 b1 b2 b3 c1 c2 c3 k : Nat) (hk : (runeN n b0 b1 b2 b3).2 = k) (hk0 : k ≠ 0) (hm : k ≤ m) (h1 : 1 < k → b1 = c1) (h2 : 2 < k → b2 = c2) (h3 : 3 < k → b3 = c3) :
    runeN m b0 c1 c2 c3 = runeN n b0 b1 b2 b3 := by
  unfold runeN at hk ⊢
  rw [if_neg (by omega : ¬ m = 0)]
  by_cases e : n = 0
  · rw [if_pos e] at hk; exact absurd hk.symm hk0
  rw [if_neg e] at hk ⊢
  by_cases e0 : b0 < 128
  · rw [if_pos e0, if_pos e0]
  rw [if_neg e0] at hk ⊢
  rw [if_neg e0]
  by_cases e1 : b0 < 192
  · rw [if_pos e1, if_pos e1]
  rw [if_neg e1] at hk ⊢
  rw [if_neg e1]
  by_cases e2 : b0 < 224
  · rw [if_pos e2] at hk ⊢
    rw [if_pos e2]
    by_cases c : 2 ≤ n ∧ b1 / 64 = 2
    · rw [if_pos c] at hk
      have := chk_snd hk hk0
      have hb := h1 (by omega)
      subst hb
      rw [if_pos c, if_pos ⟨by omega, c.2⟩]
    · rw [if_neg c] at hk; exact absurd hk.symm hk0
  rw [if_neg e2] at hk ⊢
  rw [if_neg e2]
  by_cases e3 : b0 < 240
  · rw [if_pos e3] at hk ⊢
    rw [if_pos e3]
    by_cases c : 3 ≤ n ∧ b1 / 64 = 2 ∧ b2 / 64 = 2
    · rw [if_pos c] at hk
      have := chk_snd hk hk0
      have hb := h1 (by omega)
      have hb2 := h2 (by omega)
      subst hb; subst hb2
      rw [if_pos c, if_pos ⟨by omega, c.2⟩]
    · rw [if_neg c] at hk; exact absurd hk.symm hk0
  rw [if_neg e3] at hk ⊢
  rw [if_neg e3]
  by_cases e4 : b0 < 248
  · rw [if_pos e4] at hk ⊢
    rw [if_pos e4]
    by_cases c : 4 ≤ n ∧ b1 / 64 = 2 ∧ b2 / 64 = 2 ∧ b3 / 64 = 2
    · rw [if_pos c] at hk
      have := chk_snd hk hk0
      have hb := h1 (by omega)
      have hb2 := h2 (by omega)
      have hb3 := h3 (by omega)
      subst hb; subst hb2; subst hb3
      rw [if_pos c, if_pos ⟨by omega, c.2⟩]
    · rw [if_neg c] at hk; exact absurd hk.symm hk0
  rw [if_neg e4] at hk; exact absurd hk.symm hk0
theorem rune_own (l m : List UInt8) (k : Nat) (hk : (rune l).2 = k) (hk0 : k ≠ 0) (hm : k ≤ m.length) (h : ∀ i, i < k → nth m i = nth l i) : rune m = rune l := by
  have e := runeN_own l.length m.length (nth l 0) (nth l 1) (nth l 2) (nth l 3) (nth m 1) (nth m 2) (nth m 3) k hk hk0 hm (fun e => (h 1 e).symm) (fun e => (h 2 e).symm) (fun e => (h 3 e).symm)
  unfold rune
  rw [h 0 (by omega)]
  exact e

/-- A character's bytes, one by one. -/
theorem enc_nth (c : Int) (cs : List Int) (h : cellsOf (enc c) = cs.map (Value.int .u8)) : (enc c).length = cs.length ∧ ∀ i, i < cs.length → (nth (enc c) i : Int) = cs.getD i 0 := by
  have hl : (enc c).length = cs.length := by have := congrArg List.length h; simpa [cellsOf] using this
  refine ⟨hl, fun i hi => ?_⟩
  have := congrArg (·[i]?) h
  have hi' : i < (enc c).length := by omega
  simp [cellsOf, hi, hi'] at this
  rw [← nth_get hi', this]
  simp [List.getD, hi]

/-- What is put is read, whatever stands behind it. -/
theorem rune_enc (c : Nat) (hf : fine (c : Int) = true) (m : List UInt8) : rune (enc c ++ m) = (c, (enc c).length) := by
  have hw := enc_width hf
  have hfi := (nfine_iff c).1 hf
  have key : ∀ i, i < (enc (c : Int)).length → nth (enc c ++ m) i = nth (enc c) i := fun i hi => nth_append_left _ _ _ hi
  rcases (by omega : c < 128 ∨ (128 ≤ c ∧ c < 2048) ∨ (2048 ≤ c ∧ c < 65536) ∨ 65536 ≤ c) with h | ⟨h, h'⟩ | ⟨h, h'⟩ | h
  · obtain ⟨hl, hn⟩ := enc_nth c [(c : Int)] (enc_one (by omega) (by omega))
    have h0 := hn 0 (by simp)
    simp at h0 hl
    have k0 := key 0 (by omega)
    unfold rune runeN
    rw [if_neg (by rw [List.length_append]; omega), k0, if_pos (by omega), show nth (enc c) 0 = c from by omega, chk_fine hf (width_one h), hl]
  · obtain ⟨hl, hn⟩ := enc_nth c [192 + (c : Int) / 64, 128 + (c : Int) % 64] (enc_two (by omega) (by omega))
    have h0 := hn 0 (by simp)
    have h1 := hn 1 (by simp)
    simp at h0 h1 hl
    have k0 := key 0 (by omega)
    have k1 := key 1 (by omega)
    unfold rune runeN
    rw [if_neg (by rw [List.length_append]; omega), k0, k1, if_neg (by omega), if_neg (by omega), if_pos (by omega), if_pos ⟨by rw [List.length_append]; omega, by omega⟩,
      show (nth (enc c) 0 - 192) * 64 + (nth (enc c) 1 - 128) = c from by omega, chk_fine hf (width_two h h'), hl]
  · obtain ⟨hl, hn⟩ := enc_nth c [224 + (c : Int) / 4096, 128 + (c : Int) / 64 % 64, 128 + (c : Int) % 64] (enc_three (by omega) (by omega) hf)
    have h0 := hn 0 (by simp)
    have h1 := hn 1 (by simp)
    have h2 := hn 2 (by simp)
    simp at h0 h1 h2 hl
    have k0 := key 0 (by omega)
    have k1 := key 1 (by omega)
    have k2 := key 2 (by omega)
    unfold rune runeN
    rw [if_neg (by rw [List.length_append]; omega), k0, k1, k2, if_neg (by omega), if_neg (by omega), if_neg (by omega), if_pos (by omega), if_pos ⟨by rw [List.length_append]; omega, by omega, by omega⟩,
      show (nth (enc c) 0 - 224) * 4096 + (nth (enc c) 1 - 128) * 64 + (nth (enc c) 2 - 128) = c from by omega, chk_fine hf (width_three h h'), hl]
  · obtain ⟨hl, hn⟩ := enc_nth c [240 + (c : Int) / 262144, 128 + (c : Int) / 4096 % 64, 128 + (c : Int) / 64 % 64, 128 + (c : Int) % 64] (enc_four (by omega) hf)
    have h0 := hn 0 (by simp)
    have h1 := hn 1 (by simp)
    have h2 := hn 2 (by simp)
    have h3 := hn 3 (by simp)
    simp at h0 h1 h2 h3 hl
    have k0 := key 0 (by omega)
    have k1 := key 1 (by omega)
    have k2 := key 2 (by omega)
    have k3 := key 3 (by omega)
    have hv : val4 (nth (enc c) 0) (nth (enc c) 1) (nth (enc c) 2) (nth (enc c) 3) = c := by
      have e0 : nth (enc (c : Int)) 0 - 240 = c / 262144 := by omega
      have e1 : nth (enc (c : Int)) 1 - 128 = c / 4096 % 64 := by omega
      have e2 : nth (enc (c : Int)) 2 - 128 = c / 64 % 64 := by omega
      have e3 : nth (enc (c : Int)) 3 - 128 = c % 64 := by omega
      unfold val4
      rw [e0, e1, e2, e3]
      omega
    unfold rune runeN
    rw [if_neg (by rw [List.length_append]; omega), k0, k1, k2, k3, if_neg (by omega), if_neg (by omega), if_neg (by omega), if_neg (by omega), if_pos (by omega), if_pos ⟨by rw [List.length_append]; omega, by omega, by omega, by omega⟩,
      hv, chk_fine hf (width_four h), hl]

theorem check_enc (c : Nat) (hf : fine (c : Int) = true) (m : List UInt8) : check (enc c ++ m) = (enc c).length + check m := by
  have h := rune_enc c hf m
  have hl := enc_len c
  have h2 : (rune (enc c ++ m)).2 ≠ 0 := by rw [h]; show (enc c).length ≠ 0; omega
  rw [check_step h2, h]
  simp

end Go.Proofs.YtkmdclfkmmlloaaGreatDoor.Utf
