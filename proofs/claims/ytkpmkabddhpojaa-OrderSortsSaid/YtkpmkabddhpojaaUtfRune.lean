/- Plain mathematics of layer 1: the character that bytes begin with, by the document; that the language's way of reading tells the same. -/
import Derived.Lib.DecodeN
import Derived.Test.YtkpmkabddhpojaaUtfMath
import Derived.Test.YtkpmkabddhpojaaRow
set_option linter.unusedVariables false
set_option linter.unusedSimpArgs false
namespace Go.Proofs.Ytkpmkabddhpojaa.Utf
open Go Go.Proofs.Ytkpmkabddhpojaa
set_option maxRecDepth 100000

/-- How many bytes a character has. -/
def width (c : Nat) : Nat := if c < 128 then 1 else if c < 2048 then 2 else if c < 65536 then 3 else 4

/-- A character of k bytes that may be, or none. -/
def chk (c k : Nat) : Nat × Nat := if fine (c : Int) = true ∧ width c = k then (c, k) else (0, 0)

def val4 (b0 b1 b2 b3 : Nat) : Nat := (b0 - 240) * 262144 + (b1 - 128) * 4096 + (b2 - 128) * 64 + (b3 - 128)

/-- The character that n bytes begin with, of which the first are b0 to b3: and how many bytes it has; none: 0, 0. -/
def runeN (n b0 b1 b2 b3 : Nat) : Nat × Nat :=
  if n = 0 then (0, 0)
  else if b0 < 128 then chk b0 1
  else if b0 < 192 then (0, 0)
  else if b0 < 224 then (if 2 ≤ n ∧ b1 / 64 = 2 then chk ((b0 - 192) * 64 + (b1 - 128)) 2 else (0, 0))
  else if b0 < 240 then (if 3 ≤ n ∧ b1 / 64 = 2 ∧ b2 / 64 = 2 then chk ((b0 - 224) * 4096 + (b1 - 128) * 64 + (b2 - 128)) 3 else (0, 0))
  else if b0 < 248 then (if 4 ≤ n ∧ b1 / 64 = 2 ∧ b2 / 64 = 2 ∧ b3 / 64 = 2 then chk (val4 b0 b1 b2 b3) 4 else (0, 0))
  else (0, 0)

/-- What the program makes of what the language tells: 65533 only of its own bytes. -/
def fin (n b0 b1 b2 : Nat) (d : Nat × Nat) : Nat × Nat :=
  if d.1 = 65533 then (if 3 ≤ n ∧ b0 = 239 ∧ b1 = 191 ∧ b2 = 189 then d else (0, 0))
  else if fine (d.1 : Int) = true then d else (0, 0)
def goN (n b0 b1 b2 b3 : Nat) : Nat × Nat := fin n b0 b1 b2 (Go.Lib.decodeN n b0 b1 b2 b3)

theorem chk_fine {c k : Nat} (h : fine (c : Int) = true) (hw : width c = k) : chk c k = (c, k) := by unfold chk; rw [if_pos ⟨h, hw⟩]
theorem chk_not {c k : Nat} (h : ¬ (fine (c : Int) = true ∧ width c = k)) : chk c k = (0, 0) := by unfold chk; rw [if_neg h]
theorem nfine_iff (c : Nat) : fine (c : Int) = true ↔ (c = 9 ∨ c = 10 ∨ c = 13 ∨ (32 ≤ c ∧ c ≤ 55295) ∨ (57344 ≤ c ∧ c ≤ 65533) ∨ (65536 ≤ c ∧ c ≤ 1114111)) := by rw [fine_iff]; omega

theorem fin_bad {n b0 b1 b2 k : Nat} (h : ¬ (3 ≤ n ∧ b0 = 239 ∧ b1 = 191 ∧ b2 = 189)) : fin n b0 b1 b2 (65533, k) = (0, 0) := by
  unfold fin; simp only [if_true]; rw [if_neg h]
theorem fin_own {n b0 b1 b2 x k : Nat} (h : x = 65533 → 3 ≤ n ∧ b0 = 239 ∧ b1 = 191 ∧ b2 = 189) (hw : fine (x : Int) = true → width x = k) : fin n b0 b1 b2 (x, k) = chk x k := by
  unfold fin
  simp only
  by_cases hx : x = 65533
  · rw [if_pos hx, if_pos (h hx)]
    have hf : fine (x : Int) = true := by rw [nfine_iff]; omega
    rw [chk_fine hf (hw hf)]
  · rw [if_neg hx]
    by_cases hf : fine (x : Int) = true
    · rw [if_pos hf, chk_fine hf (hw hf)]
    · rw [if_neg hf, chk_not (fun e => hf e.1)]

theorem dec_bad {n b0 b1 b2 b3 : Nat} (h0 : 128 ≤ b0) (h1 : ¬ (b0 / 32 = 6 ∧ (1 < n ∧ b1 / 64 = 2))) (h2 : ¬ (b0 / 16 = 14 ∧ (1 < n ∧ b1 / 64 = 2) ∧ (2 < n ∧ b2 / 64 = 2)))
    (h3 : ¬ (b0 / 8 = 30 ∧ (1 < n ∧ b1 / 64 = 2) ∧ (2 < n ∧ b2 / 64 = 2) ∧ (3 < n ∧ b3 / 64 = 2))) : Go.Lib.decodeN n b0 b1 b2 b3 = (65533, 1) := by
  unfold Go.Lib.decodeN
  rw [if_neg (by omega : ¬ b0 < 128), if_neg h1, if_neg h2, if_neg h3]
theorem dec_two {n b0 b1 b2 b3 x : Nat} (h0 : 128 ≤ b0) (h1 : b0 / 32 = 6 ∧ (1 < n ∧ b1 / 64 = 2)) (hx : b0 % 32 * 64 + b1 % 64 = x) :
    Go.Lib.decodeN n b0 b1 b2 b3 = if x ≥ 128 then (x, 2) else (65533, 1) := by
  unfold Go.Lib.decodeN
  rw [if_neg (by omega : ¬ b0 < 128), if_pos h1, hx]
theorem dec_three {n b0 b1 b2 b3 x : Nat} (h0 : 128 ≤ b0) (h1 : ¬ (b0 / 32 = 6 ∧ (1 < n ∧ b1 / 64 = 2))) (h2 : b0 / 16 = 14 ∧ (1 < n ∧ b1 / 64 = 2) ∧ (2 < n ∧ b2 / 64 = 2)) (hx : b0 % 16 * 4096 + b1 % 64 * 64 + b2 % 64 = x) :
    Go.Lib.decodeN n b0 b1 b2 b3 = if x ≥ 2048 ∧ (x < 55296 ∨ (57344 ≤ x ∧ x ≤ 1114111)) then (x, 3) else (65533, 1) := by
  unfold Go.Lib.decodeN
  rw [if_neg (by omega : ¬ b0 < 128), if_neg h1, if_pos h2, hx]
theorem dec_four {n b0 b1 b2 b3 x : Nat} (h0 : 128 ≤ b0) (h1 : ¬ (b0 / 32 = 6 ∧ (1 < n ∧ b1 / 64 = 2))) (h2 : ¬ (b0 / 16 = 14 ∧ (1 < n ∧ b1 / 64 = 2) ∧ (2 < n ∧ b2 / 64 = 2)))
    (h3 : b0 / 8 = 30 ∧ (1 < n ∧ b1 / 64 = 2) ∧ (2 < n ∧ b2 / 64 = 2) ∧ (3 < n ∧ b3 / 64 = 2)) (hx : b0 % 8 * 262144 + b1 % 64 * 4096 + b2 % 64 * 64 + b3 % 64 = x) :
    Go.Lib.decodeN n b0 b1 b2 b3 = if x ≥ 65536 ∧ (x < 55296 ∨ (57344 ≤ x ∧ x ≤ 1114111)) then (x, 4) else (65533, 1) := by
  unfold Go.Lib.decodeN
  rw [if_neg (by omega : ¬ b0 < 128), if_neg h1, if_neg h2, if_pos h3, hx]

theorem width_two {x : Nat} (h : 128 ≤ x) (h' : x < 2048) : width x = 2 := by unfold width; rw [if_neg (by omega), if_pos h']
theorem width_three {x : Nat} (h : 2048 ≤ x) (h' : x < 65536) : width x = 3 := by unfold width; rw [if_neg (by omega), if_neg (by omega), if_pos h']
theorem width_four {x : Nat} (h : 65536 ≤ x) : width x = 4 := by unfold width; rw [if_neg (by omega), if_neg (by omega), if_neg (by omega)]
theorem width_one {x : Nat} (h : x < 128) : width x = 1 := by unfold width; rw [if_pos h]
theorem width_iff (x : Nat) : (width x = 1 ↔ x < 128) ∧ (width x = 2 ↔ 128 ≤ x ∧ x < 2048) ∧ (width x = 3 ↔ 2048 ≤ x ∧ x < 65536) ∧ (width x = 4 ↔ 65536 ≤ x) := by
  rcases (by omega : x < 128 ∨ (128 ≤ x ∧ x < 2048) ∨ (2048 ≤ x ∧ x < 65536) ∨ 65536 ≤ x) with h | ⟨h, h'⟩ | ⟨h, h'⟩ | h
  · rw [width_one h]; omega
  · rw [width_two h h']; omega
  · rw [width_three h h']; omega
  · rw [width_four h]; omega

theorem go_eq (n b0 b1 b2 b3 : Nat) (hn : 1 ≤ n) (h0 : b0 < 256) (h1 : b1 < 256) (h2 : b2 < 256) (h3 : b3 < 256) : goN n b0 b1 b2 b3 = runeN n b0 b1 b2 b3 := by
  unfold goN runeN
  rw [if_neg (by omega : ¬ n = 0)]
  by_cases c0 : b0 < 128
  · rw [if_pos c0]
    have : Go.Lib.decodeN n b0 b1 b2 b3 = (b0, 1) := by unfold Go.Lib.decodeN; rw [if_pos c0]
    rw [this, fin_own (by omega) (fun _ => width_one c0)]
  · rw [if_neg c0]
    by_cases c1 : b0 < 192
    · rw [if_pos c1, dec_bad (by omega) (by omega) (by omega) (by omega), fin_bad (by omega)]
    · rw [if_neg c1]
      by_cases c2 : b0 < 224
      · rw [if_pos c2]
        by_cases e : 2 ≤ n ∧ b1 / 64 = 2
        · obtain ⟨x, hx⟩ : ∃ x, b0 % 32 * 64 + b1 % 64 = x := ⟨_, rfl⟩
          rw [if_pos e, show (b0 - 192) * 64 + (b1 - 128) = x from by omega, dec_two (x := x) (by omega) (by omega) hx]
          by_cases k : x ≥ 128
          · rw [if_pos k, fin_own (by omega) (fun _ => width_two k (by omega))]
          · rw [if_neg k, fin_bad (by omega), chk_not (fun e => by have := (width_iff x).2.1; omega)]
        · rw [if_neg e, dec_bad (by omega) (by omega) (by omega) (by omega), fin_bad (by omega)]
      · rw [if_neg c2]
        by_cases c3 : b0 < 240
        · rw [if_pos c3]
          by_cases e : 3 ≤ n ∧ b1 / 64 = 2 ∧ b2 / 64 = 2
          · obtain ⟨x, hx⟩ : ∃ x, b0 % 16 * 4096 + b1 % 64 * 64 + b2 % 64 = x := ⟨_, rfl⟩
            rw [if_pos e, show (b0 - 224) * 4096 + (b1 - 128) * 64 + (b2 - 128) = x from by omega, dec_three (x := x) (by omega) (by omega) (by omega) hx]
            by_cases k : x ≥ 2048 ∧ (x < 55296 ∨ (57344 ≤ x ∧ x ≤ 1114111))
            · rw [if_pos k, fin_own (by omega) (fun _ => width_three k.1 (by omega))]
            · rw [if_neg k, fin_bad (by omega), chk_not (fun e => by have := (width_iff x).2.2.1; have := (nfine_iff x).1 e.1; omega)]
          · rw [if_neg e, dec_bad (by omega) (by omega) (by omega) (by omega), fin_bad (by omega)]
        · rw [if_neg c3]
          by_cases c4 : b0 < 248
          · rw [if_pos c4]
            by_cases e : 4 ≤ n ∧ b1 / 64 = 2 ∧ b2 / 64 = 2 ∧ b3 / 64 = 2
            · obtain ⟨x, hx⟩ : ∃ x, b0 % 8 * 262144 + b1 % 64 * 4096 + b2 % 64 * 64 + b3 % 64 = x := ⟨_, rfl⟩
              have e0 : b0 - 240 = b0 % 8 := by clear hx; omega
              have e1 : b1 - 128 = b1 % 64 := by clear hx; omega
              have e2 : b2 - 128 = b2 % 64 := by clear hx; omega
              have e3 : b3 - 128 = b3 % 64 := by clear hx; omega
              have hy : val4 b0 b1 b2 b3 = x := by unfold val4; rw [e0, e1, e2, e3]; exact hx
              rw [if_pos e, hy, dec_four (x := x) (by omega) (by omega) (by omega) (by omega) hx]
              by_cases k : x ≥ 65536 ∧ (x < 55296 ∨ (57344 ≤ x ∧ x ≤ 1114111))
              · rw [if_pos k, fin_own (by omega) (fun _ => width_four k.1)]
              · rw [if_neg k, fin_bad (by omega), chk_not (fun e => by have := (width_iff x).2.2.2; have := (nfine_iff x).1 e.1; omega)]
            · rw [if_neg e, dec_bad (by omega) (by omega) (by omega) (by omega), fin_bad (by omega)]
          · rw [if_neg c4, dec_bad (by omega) (by omega) (by omega) (by omega), fin_bad (by omega)]

/-- The same of a list of bytes. -/
def rune (l : List UInt8) : Nat × Nat := runeN l.length (nth l 0) (nth l 1) (nth l 2) (nth l 3)

theorem chk_cases (c k : Nat) : chk c k = (0, 0) ∨ (chk c k = (c, k) ∧ fine (c : Int) = true ∧ width c = k) := by
  unfold chk; split
  · rename_i h; exact .inr ⟨rfl, h.1, h.2⟩
  · exact .inl rfl

/-- Just the first four bytes play a part. -/
theorem runeN_le (n m b0 b1 b2 b3 : Nat) (h : n = m ∨ (4 ≤ n ∧ 4 ≤ m)) : runeN n b0 b1 b2 b3 = runeN m b0 b1 b2 b3 := by
  rcases h with rfl | ⟨h1, h2⟩
  · rfl
  · unfold runeN
    have e0 : (n = 0) = (m = 0) := by simp; omega
    have e2 : (2 ≤ n) = (2 ≤ m) := by simp; omega
    have e3 : (3 ≤ n) = (3 ≤ m) := by simp; omega
    have e4 : (4 ≤ n) = (4 ≤ m) := by simp; omega
    simp only [e0, e2, e3, e4]

/-- A character that is there may be, has as many bytes as its number asks, and these are there. -/
theorem runeN_some (n b0 b1 b2 b3 c k : Nat) (h : runeN n b0 b1 b2 b3 = (c, k)) (hk : k ≠ 0) : fine (c : Int) = true ∧ width c = k ∧ k ≤ n ∧ 1 ≤ k ∧ k ≤ 4 := by
  have key : ∀ x j, j ≤ n → 1 ≤ j → j ≤ 4 → chk x j = (c, k) → fine (c : Int) = true ∧ width c = k ∧ k ≤ n ∧ 1 ≤ k ∧ k ≤ 4 := by
    intro x j h1 h2 h3 h4
    rcases chk_cases x j with e | ⟨e, e1, e2⟩
    · rw [e] at h4; cases h4; exact absurd rfl hk
    · rw [e] at h4; cases h4; exact ⟨e1, e2, h1, h2, h3⟩
  have no : ((0 : Nat), (0 : Nat)) = (c, k) → False := by intro e; cases e; exact hk rfl
  unfold runeN at h
  split at h
  · exact (no h).elim
  · split at h
    · exact key _ 1 (by omega) (by omega) (by omega) h
    · split at h
      · exact (no h).elim
      · split at h
        · split at h
          · exact key _ 2 (by omega) (by omega) (by omega) h
          · exact (no h).elim
        · split at h
          · split at h
            · exact key _ 3 (by omega) (by omega) (by omega) h
            · exact (no h).elim
          · split at h
            · split at h
              · exact key _ 4 (by omega) (by omega) (by omega) h
              · exact (no h).elim
            · exact (no h).elim
theorem runeN_none (n b0 b1 b2 b3 : Nat) (h : (runeN n b0 b1 b2 b3).2 = 0) : runeN n b0 b1 b2 b3 = (0, 0) := by
  have key : ∀ x j, 1 ≤ j → (chk x j).2 = 0 → chk x j = (0, 0) := by
    intro x j hj hx
    rcases chk_cases x j with e | ⟨e, _⟩
    · exact e
    · rw [e] at hx; simp at hx; omega
  revert h
  unfold runeN
  repeat' split
  all_goals intro h
  all_goals first | rfl | exact key _ _ (by omega) h

theorem rune_some {l : List UInt8} {c k : Nat} (h : rune l = (c, k)) (hk : k ≠ 0) : fine (c : Int) = true ∧ width c = k ∧ k ≤ l.length ∧ 1 ≤ k ∧ k ≤ 4 := runeN_some _ _ _ _ _ _ _ h hk
theorem rune_none {l : List UInt8} (h : (rune l).2 = 0) : rune l = (0, 0) := runeN_none _ _ _ _ _ h
theorem rune_le (l : List UInt8) : (rune l).2 ≤ l.length ∧ (rune l).2 ≤ 4 := by
  by_cases h : (rune l).2 = 0
  · omega
  · have := rune_some (l := l) (c := (rune l).1) (k := (rune l).2) rfl h
    omega

/-- The first place at which a character should begin and none does; how many bytes there are, if there is none. -/
def checkF : Nat → List UInt8 → Nat
  | 0, _ => 0
  | f + 1, l => if (rune l).2 = 0 then 0 else (rune l).2 + checkF f (l.drop (rune l).2)
def check (l : List UInt8) : Nat := checkF l.length l

theorem checkF_eq : ∀ (f g : Nat) (l : List UInt8), l.length ≤ f → l.length ≤ g → checkF f l = checkF g l
  | 0, g, l, h, _ => by
    have : l = [] := List.eq_nil_of_length_eq_zero (by omega)
    subst this
    cases g <;> simp [checkF, rune, runeN]
  | f + 1, 0, l, _, h => by
    have : l = [] := List.eq_nil_of_length_eq_zero (by omega)
    subst this
    simp [checkF, rune, runeN]
  | f + 1, g + 1, l, h, h' => by
    unfold checkF
    split
    · rfl
    · rename_i hk
      have := rune_le l
      rw [checkF_eq f g (l.drop (rune l).2) (by simp; omega) (by simp; omega)]
theorem check_nil : check [] = 0 := rfl
theorem check_stop {l : List UInt8} (h : (rune l).2 = 0) : check l = 0 := by
  unfold check
  cases hl : l.length with
  | zero => rfl
  | succ n => simp [checkF, h]
theorem check_step {l : List UInt8} (h : (rune l).2 ≠ 0) : check l = (rune l).2 + check (l.drop (rune l).2) := by
  have h1 := rune_le l
  unfold check
  cases hl : l.length with
  | zero => omega
  | succ n =>
    rw [checkF, if_neg h]
    rw [checkF_eq n (l.drop (rune l).2).length _ (by simp; omega) (by simp)]
theorem check_le (l : List UInt8) : check l ≤ l.length := by
  generalize hn : l.length = n
  induction n using Nat.strongRecOn generalizing l with
  | _ n ih =>
    by_cases h : (rune l).2 = 0
    · rw [check_stop h]; omega
    · rw [check_step h]
      have h1 := rune_le l
      have := ih (l.drop (rune l).2).length (by simp; omega) _ rfl
      simp at this; omega
end Go.Proofs.Ytkpmkabddhpojaa.Utf
