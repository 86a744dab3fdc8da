/- Plain mathematics of layer 1: what is put is read; where bytes aren't right. -/
import Derived.Test.YthggoohchjifnaaDoorUtfH
set_option linter.unusedVariables false
set_option linter.unusedSimpArgs false
namespace Go.Proofs.YthggoohchjifnaaDoor.Utf
open Go Go.Proofs.YthggoohchjifnaaDoor Go.RowKit
set_option maxRecDepth 100000

theorem nth_append_left (l m : List UInt8) (i : Nat) (h : i < l.length) : nth (l ++ m) i = nth l i := by simp [nth, List.getD, List.getElem?_append_left h]
theorem nth_take (l : List UInt8) (k i : Nat) (h : i < k) : nth (l.take k) i = nth l i := by simp [nth, List.getD, List.getElem?_take, h]

theorem chk_snd {x j k : Nat} (h : (chk x j).2 = k) (hk : k ≠ 0) : j = k := by
  rcases chk_cases x j with e | ⟨e, _⟩ <;> rw [e] at h
  · exact absurd h.symm hk
  · exact h

/-- A character hangs on its own bytes alone. -/
theorem runeN_own (n m b0 b1 b2 b3 c1 c2 c3 k : Nat) (hk : (runeN n b0 b1 b2 b3).2 = k) (hk0 : k ≠ 0) (hm : k ≤ m) (h1 : 1 < k → b1 = c1) (h2 : 2 < k → b2 = c2) (h3 : 3 < k → b3 = c3) :
    runeN m b0 c1 c2 c3 = runeN n b0 b1 b2 b3 := by
  unfold runeN at hk ⊢
  rw [if_neg (by omega : ¬ m = 0)]
  by_cases e : n = 0
  · rw [if_pos e] at hk; exact absurd hk.symm hk0
  rw [if_neg e] at hk ⊢
  by_cases e0 : b0 < 128
  · rw [if_pos e0, if_pos e0]
  rw [if_neg e0] at hk ⊢
  rw [if_neg e0]
  by_cases e1 : b0 < 192
  · rw [if_pos e1, if_pos e1]
  rw [if_neg e1] at hk ⊢
  rw [if_neg e1]
  by_cases e2 : b0 < 224
  · rw [if_pos e2] at hk ⊢
    rw [if_pos e2]
    by_cases c : 2 ≤ n ∧ b1 / 64 = 2
    · rw [if_pos c] at hk
      have := chk_snd hk hk0
      have hb := h1 (by omega)
      subst hb
      rw [if_pos c, if_pos ⟨by omega, c.2⟩]
    · rw [if_neg c] at hk; exact absurd hk.symm hk0
  rw [if_neg e2] at hk ⊢
  rw [if_neg e2]
  by_cases e3 : b0 < 240
  · rw [if_pos e3] at hk ⊢
    rw [if_pos e3]
    by_cases c : 3 ≤ n ∧ b1 / 64 = 2 ∧ b2 / 64 = 2
    · rw [if_pos c] at hk
      have := chk_snd hk hk0
      have hb := h1 (by omega)
      have hb2 := h2 (by omega)
      subst hb; subst hb2
      rw [if_pos c, if_pos ⟨by omega, c.2⟩]
    · rw [if_neg c] at hk; exact absurd hk.symm hk0
  rw [if_neg e3] at hk ⊢
  rw [if_neg e3]
  by_cases e4 : b0 < 248
  · rw [if_pos e4] at hk ⊢
    rw [if_pos e4]
    by_cases c : 4 ≤ n ∧ b1 / 64 = 2 ∧ b2 / 64 = 2 ∧ b3 / 64 = 2
    · rw [if_pos c] at hk
      have := chk_snd hk hk0
      have hb := h1 (by omega)
      have hb2 := h2 (by omega)
      have hb3 := h3 (by omega)
      subst hb; subst hb2; subst hb3
      rw [if_pos c, if_pos ⟨by omega, c.2⟩]
    · rw [if_neg c] at hk; exact absurd hk.symm hk0
  rw [if_neg e4] at hk; exact absurd hk.symm hk0
theorem rune_own (l m : List UInt8) (k : Nat) (hk : (rune l).2 = k) (hk0 : k ≠ 0) (hm : k ≤ m.length) (h : ∀ i, i < k → nth m i = nth l i) : rune m = rune l := by
  have e := runeN_own l.length m.length (nth l 0) (nth l 1) (nth l 2) (nth l 3) (nth m 1) (nth m 2) (nth m 3) k hk hk0 hm (fun e => (h 1 e).symm) (fun e => (h 2 e).symm) (fun e => (h 3 e).symm)
  unfold rune
  rw [h 0 (by omega)]
  exact e

theorem check_take (l : List UInt8) : check (l.take (check l)) = check l := by
  generalize hn : l.length = n
  induction n using Nat.strongRecOn generalizing l with
  | _ n ih =>
    by_cases h : (rune l).2 = 0
    · rw [check_stop h]; rfl
    · have hl := rune_le l
      obtain ⟨k, hk⟩ : ∃ k, (rune l).2 = k := ⟨_, rfl⟩
      have hs := check_step h
      rw [hk] at hs
      have hcl := check_le l
      have hc2 := check_le (l.drop k)
      have e1 : rune (l.take (check l)) = rune l := rune_own l _ k hk (by omega) (by simp; omega) (fun i hi => nth_take _ _ _ (by omega))
      have h2 : (rune (l.take (check l))).2 ≠ 0 := by rw [e1]; exact h
      have h3 := check_step h2
      rw [e1, hk] at h3
      rw [h3, hs]
      have e2 : (l.take (k + check (l.drop k))).drop k = (l.drop k).take (check (l.drop k)) := by
        rw [List.drop_take]; congr 1; omega
      rw [e2, ih (l.drop k).length (by simp; omega) _ rfl]
theorem check_at (l : List UInt8) : (rune (l.drop (check l))).2 = 0 := by
  generalize hn : l.length = n
  induction n using Nat.strongRecOn generalizing l with
  | _ n ih =>
    by_cases h : (rune l).2 = 0
    · rw [check_stop h]; exact h
    · have hl := rune_le l
      rw [check_step h, ← List.drop_drop]
      exact ih (l.drop (rune l).2).length (by simp; omega) _ rfl

/-- A character's bytes, one by one. -/
theorem enc_nth (c : Int) (cs : List Int) (h : cellsOf (enc c) = cs.map (Value.int .u8)) : (enc c).length = cs.length ∧ ∀ i, i < cs.length → (nth (enc c) i : Int) = cs.getD i 0 := by
  have hl : (enc c).length = cs.length := by have := congrArg List.length h; simpa [cellsOf] using this
  refine ⟨hl, fun i hi => ?_⟩
  have := congrArg (·[i]?) h
  have hi' : i < (enc c).length := by omega
  simp [cellsOf, hi, hi'] at this
  rw [← nth_get hi', this]
  simp [List.getD, hi]

/-- What is put is read, whatever stands behind it. -/
theorem rune_enc (c : Nat) (hf : fine (c : Int) = true) (m : List UInt8) : rune (enc c ++ m) = (c, (enc c).length) := by
  have hw := enc_width hf
  have hfi := (nfine_iff c).1 hf
  have key : ∀ i, i < (enc (c : Int)).length → nth (enc c ++ m) i = nth (enc c) i := fun i hi => nth_append_left _ _ _ hi
  rcases (by omega : c < 128 ∨ (128 ≤ c ∧ c < 2048) ∨ (2048 ≤ c ∧ c < 65536) ∨ 65536 ≤ c) with h | ⟨h, h'⟩ | ⟨h, h'⟩ | h
  · obtain ⟨hl, hn⟩ := enc_nth c [(c : Int)] (enc_one (by omega) (by omega))
    have h0 := hn 0 (by simp)
    simp at h0 hl
    have k0 := key 0 (by omega)
    unfold rune runeN
    rw [if_neg (by rw [List.length_append]; omega), k0, if_pos (by omega), show nth (enc c) 0 = c from by omega, chk_fine hf (width_one h), hl]
  · obtain ⟨hl, hn⟩ := enc_nth c [192 + (c : Int) / 64, 128 + (c : Int) % 64] (enc_two (by omega) (by omega))
    have h0 := hn 0 (by simp)
    have h1 := hn 1 (by simp)
    simp at h0 h1 hl
    have k0 := key 0 (by omega)
    have k1 := key 1 (by omega)
    unfold rune runeN
    rw [if_neg (by rw [List.length_append]; omega), k0, k1, if_neg (by omega), if_neg (by omega), if_pos (by omega), if_pos ⟨by rw [List.length_append]; omega, by omega⟩,
      show (nth (enc c) 0 - 192) * 64 + (nth (enc c) 1 - 128) = c from by omega, chk_fine hf (width_two h h'), hl]
  · obtain ⟨hl, hn⟩ := enc_nth c [224 + (c : Int) / 4096, 128 + (c : Int) / 64 % 64, 128 + (c : Int) % 64] (enc_three (by omega) (by omega) hf)
    have h0 := hn 0 (by simp)
    have h1 := hn 1 (by simp)
    have h2 := hn 2 (by simp)
    simp at h0 h1 h2 hl
    have k0 := key 0 (by omega)
    have k1 := key 1 (by omega)
    have k2 := key 2 (by omega)
    unfold rune runeN
    rw [if_neg (by rw [List.length_append]; omega), k0, k1, k2, if_neg (by omega), if_neg (by omega), if_neg (by omega), if_pos (by omega), if_pos ⟨by rw [List.length_append]; omega, by omega, by omega⟩,
      show (nth (enc c) 0 - 224) * 4096 + (nth (enc c) 1 - 128) * 64 + (nth (enc c) 2 - 128) = c from by omega, chk_fine hf (width_three h h'), hl]
  · obtain ⟨hl, hn⟩ := enc_nth c [240 + (c : Int) / 262144, 128 + (c : Int) / 4096 % 64, 128 + (c : Int) / 64 % 64, 128 + (c : Int) % 64] (enc_four (by omega) hf)
    have h0 := hn 0 (by simp)
    have h1 := hn 1 (by simp)
    have h2 := hn 2 (by simp)
    have h3 := hn 3 (by simp)
    simp at h0 h1 h2 h3 hl
    have k0 := key 0 (by omega)
    have k1 := key 1 (by omega)
    have k2 := key 2 (by omega)
    have k3 := key 3 (by omega)
    have hv : val4 (nth (enc c) 0) (nth (enc c) 1) (nth (enc c) 2) (nth (enc c) 3) = c := by
      have e0 : nth (enc (c : Int)) 0 - 240 = c / 262144 := by omega
      have e1 : nth (enc (c : Int)) 1 - 128 = c / 4096 % 64 := by omega
      have e2 : nth (enc (c : Int)) 2 - 128 = c / 64 % 64 := by omega
      have e3 : nth (enc (c : Int)) 3 - 128 = c % 64 := by omega
      unfold val4
      rw [e0, e1, e2, e3]
      omega
    unfold rune runeN
    rw [if_neg (by rw [List.length_append]; omega), k0, k1, k2, k3, if_neg (by omega), if_neg (by omega), if_neg (by omega), if_neg (by omega), if_pos (by omega), if_pos ⟨by rw [List.length_append]; omega, by omega, by omega, by omega⟩,
      hv, chk_fine hf (width_four h), hl]

theorem check_enc (c : Nat) (hf : fine (c : Int) = true) (m : List UInt8) : check (enc c ++ m) = (enc c).length + check m := by
  have h := rune_enc c hf m
  have hl := enc_len c
  have h2 : (rune (enc c ++ m)).2 ≠ 0 := by rw [h]; show (enc c).length ≠ 0; omega
  rw [check_step h2, h]
  simp

end Go.Proofs.YthggoohchjifnaaDoor.Utf
