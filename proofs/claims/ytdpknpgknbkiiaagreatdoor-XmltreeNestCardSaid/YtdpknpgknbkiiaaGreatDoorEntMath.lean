/- Plain mathematics of layer 3: what a text tells, and escaping it. -/
import Derived.Test.YtdpknpgknbkiiaaGreatDoorEntDig
import Derived.Test.YtdpknpgknbkiiaaGreatDoorUtfL
set_option linter.unusedVariables false
set_option linter.unusedSimpArgs false
namespace Go.Proofs.YtdpknpgknbkiiaaGreatDoor.Ent
open Go Go.Proofs.YtdpknpgknbkiiaaGreatDoor Go.Proofs.YtdpknpgknbkiiaaGreatDoor.Utf
set_option maxRecDepth 100000

theorem list_nth {a b : List UInt8} (hl : a.length = b.length) (h : ∀ i, i < a.length → nth a i = nth b i) : a = b := by
  apply List.ext_getElem hl
  intro i h1 h2
  have := h i h1
  rw [← nth_get h1, ← nth_get h2] at this
  exact UInt8.toNat_inj.1 this

/-- What is read is what is put. -/
theorem rune_take (l : List UInt8) (h : (rune l).2 ≠ 0) : l.take (rune l).2 = enc ((rune l).1 : Int) := by
  have hs := rune_some (l := l) (c := (rune l).1) (k := (rune l).2) rfl h
  obtain ⟨hf, hw, hle, h1, h4⟩ := hs
  have hl := enc_width hf
  have hrl : rune l = runeN l.length (nth l 0) (nth l 1) (nth l 2) (nth l 3) := rfl
  have key : ∀ x j, rune l = chk x j → (rune l).1 = x ∧ (rune l).2 = j := by
    intro x j e
    rcases chk_cases x j with e2 | ⟨e2, _⟩
    · rw [e, e2] at h; exact absurd rfl h
    · rw [e, e2]; exact ⟨rfl, rfl⟩
  have zero : rune l ≠ (0, 0) := fun e => h (by rw [e])
  refine list_nth (by rw [List.length_take, hl, hw]; omega) fun i hi => ?_
  rw [List.length_take] at hi
  rw [nth_take _ _ _ (by omega)]
  have h0 := nth_lt l 0
  have hn1 := nth_lt l 1
  have hn2 := nth_lt l 2
  have hn3 := nth_lt l 3
  generalize hc : (rune l).1 = c at *
  generalize hk : (rune l).2 = k at *
  unfold runeN at hrl
  by_cases e0 : l.length = 0
  · omega
  rw [if_neg e0] at hrl
  by_cases e1 : nth l 0 < 128
  · rw [if_pos e1] at hrl
    obtain ⟨a, b⟩ := key _ _ hrl
    obtain ⟨_, hn⟩ := enc_nth c [(c : Int)] (enc_one (by omega) (by omega))
    have := hn 0 (by simp)
    obtain rfl : i = 0 := by omega
    simp at this; omega
  rw [if_neg e1] at hrl
  by_cases e2 : nth l 0 < 192
  · rw [if_pos e2] at hrl; exact absurd hrl zero
  rw [if_neg e2] at hrl
  by_cases e3 : nth l 0 < 224
  · rw [if_pos e3] at hrl
    by_cases g : 2 ≤ l.length ∧ nth l 1 / 64 = 2
    · rw [if_pos g] at hrl
      obtain ⟨a, b⟩ := key _ _ hrl
      have hwd := (width_iff c).2.1.1 (by omega)
      obtain ⟨_, hn⟩ := enc_nth c [192 + (c : Int) / 64, 128 + (c : Int) % 64] (enc_two (by omega) (by omega))
      have k0 := hn 0 (by simp)
      have k1 := hn 1 (by simp)
      simp at k0 k1
      rcases (by omega : i = 0 ∨ i = 1) with rfl | rfl <;> omega
    · rw [if_neg g] at hrl; exact absurd hrl zero
  rw [if_neg e3] at hrl
  by_cases e4 : nth l 0 < 240
  · rw [if_pos e4] at hrl
    by_cases g : 3 ≤ l.length ∧ nth l 1 / 64 = 2 ∧ nth l 2 / 64 = 2
    · rw [if_pos g] at hrl
      obtain ⟨a, b⟩ := key _ _ hrl
      have hwd := (width_iff c).2.2.1.1 (by omega)
      obtain ⟨_, hn⟩ := enc_nth c [224 + (c : Int) / 4096, 128 + (c : Int) / 64 % 64, 128 + (c : Int) % 64] (enc_three (by omega) (by omega) hf)
      have k0 := hn 0 (by simp)
      have k1 := hn 1 (by simp)
      have k2 := hn 2 (by simp)
      simp at k0 k1 k2
      rcases (by omega : i = 0 ∨ i = 1 ∨ i = 2) with rfl | rfl | rfl <;> omega
    · rw [if_neg g] at hrl; exact absurd hrl zero
  rw [if_neg e4] at hrl
  by_cases e5 : nth l 0 < 248
  · rw [if_pos e5] at hrl
    by_cases g : 4 ≤ l.length ∧ nth l 1 / 64 = 2 ∧ nth l 2 / 64 = 2 ∧ nth l 3 / 64 = 2
    · rw [if_pos g] at hrl
      obtain ⟨a, b⟩ := key _ _ hrl
      have hwd := (width_iff c).2.2.2.1 (by omega)
      obtain ⟨_, hn⟩ := enc_nth c [240 + (c : Int) / 262144, 128 + (c : Int) / 4096 % 64, 128 + (c : Int) / 64 % 64, 128 + (c : Int) % 64] (enc_four (by omega) hf)
      have k0 := hn 0 (by simp)
      have k1 := hn 1 (by simp)
      have k2 := hn 2 (by simp)
      have k3 := hn 3 (by simp)
      simp at k0 k1 k2 k3
      unfold val4 at a
      have t1 : nth l 1 - 128 < 64 := by omega
      have t2 : nth l 2 - 128 < 64 := by omega
      have t3 : nth l 3 - 128 < 64 := by omega
      have t0 : nth l 0 - 240 < 8 := by omega
      have q1 : nth l 1 = 128 + (nth l 1 - 128) := by omega
      have q2 : nth l 2 = 128 + (nth l 2 - 128) := by omega
      have q3 : nth l 3 = 128 + (nth l 3 - 128) := by omega
      have q0 : nth l 0 = 240 + (nth l 0 - 240) := by omega
      generalize nth l 0 - 240 = y0 at *
      generalize nth l 1 - 128 = y1 at *
      generalize nth l 2 - 128 = y2 at *
      generalize nth l 3 - 128 = y3 at *
      rcases (by omega : i = 0 ∨ i = 1 ∨ i = 2 ∨ i = 3) with rfl | rfl | rfl | rfl <;> omega
    · rw [if_neg g] at hrl; exact absurd hrl zero
  rw [if_neg e5] at hrl; exact absurd hrl zero

/-- Right bytes are characters, one behind the other. -/
theorem by_runes {p : List UInt8 → Prop} (h0 : p []) (h1 : ∀ (c : Nat) (l : List UInt8), fine (c : Int) = true → check l = l.length → p l → p (enc (c : Int) ++ l)) :
    ∀ l, check l = l.length → p l := by
  intro l
  generalize hn : l.length = n
  induction n using Nat.strongRecOn generalizing l with
  | _ n ih =>
    intro hc
    by_cases e : l = []
    · subst e; exact h0
    · have hr := rune_le l
      have hne : (rune l).2 ≠ 0 := by
        intro z
        rw [check_stop z] at hc
        exact e (List.eq_nil_of_length_eq_zero (by omega))
      obtain ⟨hf, _, _, _, _⟩ := rune_some (l := l) (c := (rune l).1) (k := (rune l).2) rfl hne
      have hck : check (l.drop (rune l).2) = (l.drop (rune l).2).length := by
        rw [check_step hne] at hc
        simp only [List.length_drop]; omega
      have := h1 (rune l).1 (l.drop (rune l).2) hf hck (ih (l.drop (rune l).2).length (by simp; omega) _ rfl (by simpa using hck))
      rw [← rune_take l hne, List.take_append_drop] at this
      exact this

/-- What a character tells that stands itself. -/
def itself (v : Bool) (c : Nat) : Nat := if v = true then (if c = 9 ∨ c = 10 ∨ c = 13 then 32 else c) else if c = 13 then 10 else c
/-- What stands at the front: the character that it tells, how many bytes it has, what is wrong with it. -/
def item (v : Bool) (l : List UInt8) : Nat × Nat × Nat :=
  if (rune l).2 = 0 then (0, 0, 4)
  else if (rune l).1 = 60 then (0, 0, 5)
  else if (rune l).1 = 38 then (if (refer l).2 = 0 then (0, 0, 5) else ((refer l).1, (refer l).2, 0))
  else (itself v (rune l).1, (if pre [13, 10] l = true then 2 else (rune l).2), 0)
/-- A beginning that tells this, n bytes of it, and what the rest tells. -/
def fin (out : List UInt8) (n : Nat) (r : List UInt8 × Nat × Nat) : List UInt8 × Nat × Nat := (if r.2.2 = 0 then out ++ r.1 else [], n + r.2.1, r.2.2)
def tellF : Nat → Bool → List UInt8 → List UInt8 × Nat × Nat
  | 0, _, _ => ([], 0, 0)
  | f + 1, v, l => if l = [] then ([], 0, 0) else if (item v l).2.2 ≠ 0 then ([], 0, (item v l).2.2) else fin (enc ((item v l).1 : Int)) (item v l).2.1 (tellF f v (l.drop (item v l).2.1))
/-- What a text tells, or where it is wrong, and why. -/
def tell (v : Bool) (l : List UInt8) : List UInt8 × Nat × Nat := tellF l.length v l

theorem itself_fine (v : Bool) (c : Nat) (h : fine (c : Int) = true) : fine (itself v c : Int) = true := by
  unfold itself
  split
  · split
    · decide
    · exact h
  · split
    · decide
    · exact h
theorem item_ok {v : Bool} {l : List UInt8} (h : (item v l).2.2 = 0) : fine ((item v l).1 : Int) = true ∧ 1 ≤ (item v l).2.1 ∧ (item v l).2.1 ≤ l.length := by
  unfold item at h ⊢
  split
  · rename_i e; rw [if_pos e] at h; simp at h
  · rename_i e
    rw [if_neg e] at h
    split
    · rename_i e1; rw [if_pos e1] at h; simp at h
    · rename_i e1
      rw [if_neg e1] at h
      split
      · rename_i e2
        rw [if_pos e2] at h
        split
        · rename_i e3; rw [if_pos e3] at h; simp at h
        · rename_i e3
          have := refer_le l
          exact ⟨(this.2 e3).1, (this.2 e3).2.1, this.1⟩
      · obtain ⟨hf, _, hle, h1, _⟩ := rune_some (l := l) (c := (rune l).1) (k := (rune l).2) rfl e
        refine ⟨itself_fine v _ hf, ?_⟩
        simp only
        split
        · rename_i hp; have := pre_len hp; simp at this; omega
        · omega
theorem item_err (v : Bool) (l : List UInt8) : (item v l).2.2 = 0 ∨ (item v l).2.2 = 4 ∨ (item v l).2.2 = 5 := by
  unfold item
  split
  · simp
  · split
    · simp
    · split
      · split <;> simp
      · simp
theorem tellF_eq : ∀ (f g : Nat) (v : Bool) (l : List UInt8), l.length ≤ f → l.length ≤ g → tellF f v l = tellF g v l
  | 0, 0, v, l, _, _ => rfl
  | 0, g + 1, v, l, h, _ => by
    have : l = [] := List.eq_nil_of_length_eq_zero (by omega)
    subst this; rfl
  | f + 1, 0, v, l, _, h => by
    have : l = [] := List.eq_nil_of_length_eq_zero (by omega)
    subst this; rfl
  | f + 1, g + 1, v, l, h1, h2 => by
    unfold tellF
    by_cases e : l = []
    · rw [if_pos e, if_pos e]
    · rw [if_neg e, if_neg e]
      by_cases z : (item v l).2.2 ≠ 0
      · rw [if_pos z, if_pos z]
      · rw [if_neg z, if_neg z]
        have := item_ok (Classical.not_not.1 z)
        rw [tellF_eq f g v (l.drop (item v l).2.1) (by simp; omega) (by simp; omega)]
theorem tell_nil (v : Bool) : tell v [] = ([], 0, 0) := rfl
theorem tell_bad {v : Bool} {l : List UInt8} (h0 : l ≠ []) (h : (item v l).2.2 ≠ 0) : tell v l = ([], 0, (item v l).2.2) := by
  unfold tell
  cases hl : l.length with
  | zero => exact absurd (List.eq_nil_of_length_eq_zero hl) h0
  | succ n => rw [tellF, if_neg h0, if_pos h]
theorem tell_step {v : Bool} {l : List UInt8} (h : (item v l).2.2 = 0) : tell v l = fin (enc ((item v l).1 : Int)) (item v l).2.1 (tell v (l.drop (item v l).2.1)) := by
  have hi := item_ok h
  have h0 : l ≠ [] := by rintro rfl; simp at hi; omega
  unfold tell
  cases hl : l.length with
  | zero => exact absurd (List.eq_nil_of_length_eq_zero hl) h0
  | succ n =>
    rw [tellF, if_neg h0, if_neg (by rw [h]; simp)]
    rw [tellF_eq n _ v (l.drop (item v l).2.1) (by simp; omega) (Nat.le_refl _)]
theorem fin_fin (o o' : List UInt8) (n n' : Nat) (r : List UInt8 × Nat × Nat) : fin o n (fin o' n' r) = fin (o ++ o') (n + n') r := by
  unfold fin
  simp only
  by_cases e : r.2.2 = 0
  · simp [e, Nat.add_assoc]
  · simp [e, Nat.add_assoc]

/-- What is told is right, as long as nothing is wrong. -/
theorem tell_facts (v : Bool) : ∀ (n : Nat) (l : List UInt8), l.length = n → (tell v l).2.1 ≤ l.length ∧ ((tell v l).2.2 = 0 → (tell v l).2.1 = l.length ∧ check (tell v l).1 = (tell v l).1.length) ∧ ((tell v l).2.2 ≠ 0 → (tell v l).1 = []) ∧ (tell v l).1.length ≤ 4 * l.length := by
  intro n
  induction n using Nat.strongRecOn with
  | _ n ih =>
    intro l hn
    by_cases e : l = []
    · subst e; simp [tell_nil, check_nil]
    · by_cases z : (item v l).2.2 = 0
      · have hk := item_ok z
        have he := enc_len ((item v l).1 : Int)
        have := ih (l.drop (item v l).2.1).length (by simp; omega) _ rfl
        obtain ⟨a, b, c, d⟩ := this
        rw [tell_step z]
        simp only [List.length_drop] at a b d
        unfold fin
        refine ⟨by simp only; omega, fun hz => ?_, fun hz => ?_, ?_⟩
        · simp only at hz
          obtain ⟨b1, b2⟩ := b hz
          refine ⟨by simp only; omega, ?_⟩
          simp only [hz, if_true]
          rw [check_enc _ hk.1, b2, List.length_append]
        · simp only at hz; simp [hz]
        · simp only
          split
          · rw [List.length_append]; omega
          · simp
      · rw [tell_bad e z]
        simp [z]
theorem tell_le (v : Bool) (l : List UInt8) : (tell v l).2.1 ≤ l.length := (tell_facts v _ l rfl).1
theorem tell_right {v : Bool} {l : List UInt8} (h : (tell v l).2.2 = 0) : (tell v l).2.1 = l.length ∧ check (tell v l).1 = (tell v l).1.length := (tell_facts v _ l rfl).2.1 h
theorem tell_none {v : Bool} {l : List UInt8} (h : (tell v l).2.2 ≠ 0) : (tell v l).1 = [] := (tell_facts v _ l rfl).2.2.1 h
theorem tell_short (v : Bool) (l : List UInt8) : (tell v l).1.length ≤ 4 * l.length := (tell_facts v _ l rfl).2.2.2

/-- Ahead of pos this was told. -/
def Told (v : Bool) (l : List UInt8) (pos : Nat) (out : List UInt8) : Prop := pos ≤ l.length ∧ out.length ≤ 4 * pos ∧ tell v l = fin out pos (tell v (l.drop pos))
theorem Told.start (v : Bool) (l : List UInt8) : Told v l 0 [] := ⟨by omega, by simp, by
  unfold fin
  rw [List.drop_zero, Nat.zero_add, List.nil_append]
  by_cases e : (tell v l).2.2 = 0
  · rw [if_pos e]
  · rw [if_neg e]; conv => lhs; rw [← Prod.eta (tell v l), tell_none e]⟩
theorem Told.next {v : Bool} {l : List UInt8} {pos : Nat} {out : List UInt8} (h : Told v l pos out) (hi : (item v (l.drop pos)).2.2 = 0) :
    Told v l (pos + (item v (l.drop pos)).2.1) (out ++ enc ((item v (l.drop pos)).1 : Int)) := by
  obtain ⟨h1, h2, h3⟩ := h
  have hk := item_ok hi
  have he := enc_len ((item v (l.drop pos)).1 : Int)
  simp only [List.length_drop] at hk
  refine ⟨by omega, by rw [List.length_append]; omega, ?_⟩
  rw [h3, tell_step hi, fin_fin, List.drop_drop]
theorem Told.stop {v : Bool} {l : List UInt8} {pos : Nat} {out : List UInt8} (h : Told v l pos out) (hp : pos < l.length) (hi : (item v (l.drop pos)).2.2 ≠ 0) :
    tell v l = ([], pos, (item v (l.drop pos)).2.2) := by
  obtain ⟨h1, h2, h3⟩ := h
  rw [h3, tell_bad (by intro e; have := congrArg List.length e; simp at this; omega) hi]
  simp [fin, hi]
theorem Told.done {v : Bool} {l : List UInt8} {pos : Nat} {out : List UInt8} (h : Told v l pos out) (hp : ¬ pos < l.length) : tell v l = (out, l.length, 0) := by
  obtain ⟨h1, h2, h3⟩ := h
  have : pos = l.length := by omega
  subst this
  rw [h3, List.drop_length, tell_nil]; simp [fin]

/-- What is laid in a byte's place. -/
def escT (v : Bool) (c : Nat) : Option (List UInt8) :=
  if c = 38 then some [38, 97, 109, 112, 59] else if c = 60 then some [38, 108, 116, 59] else if c = 62 then some [38, 103, 116, 59] else if c = 13 then some [38, 35, 49, 51, 59]
  else if v = true ∧ c = 34 then some [38, 113, 117, 111, 116, 59] else if v = true ∧ c = 9 then some [38, 35, 57, 59] else if v = true ∧ c = 10 then some [38, 35, 49, 48, 59] else none
def escB (v : Bool) (b : UInt8) : List UInt8 := (escT v b.toNat).getD [b]
/-- A text, escaped. -/
def esc (v : Bool) (l : List UInt8) : List UInt8 := l.flatMap (escB v)
theorem esc_append (v : Bool) (a b : List UInt8) : esc v (a ++ b) = esc v a ++ esc v b := by simp [esc]
theorem escT_none {v : Bool} {c : Nat} (h : 128 ≤ c) : escT v c = none := by
  unfold escT
  rw [if_neg (by omega), if_neg (by omega), if_neg (by omega), if_neg (by omega), if_neg (by omega), if_neg (by omega), if_neg (by omega)]
theorem escT_len {v : Bool} {c : Nat} {t : List UInt8} (h : escT v c = some t) : t.length ≤ 6 := by
  unfold escT at h
  repeat' split at h
  all_goals first | (cases h; done) | (injection h with h; subst h; decide)
theorem escB_len (v : Bool) (b : UInt8) : (escB v b).length ≤ 6 := by
  unfold escB
  cases h : escT v b.toNat with
  | none => simp
  | some t => exact escT_len h
theorem esc_len (v : Bool) : ∀ l : List UInt8, (esc v l).length ≤ 6 * l.length
  | [] => by simp [esc]
  | b :: l => by
    have := esc_len v l
    have := escB_len v b
    simp only [esc, List.flatMap_cons, List.length_append, List.length_cons] at *; omega

theorem enc_low {c : Nat} (h : c < 128) : enc (c : Int) = [UInt8.ofNat c] := by
  obtain ⟨hl, hn⟩ := enc_nth c [(c : Int)] (enc_one (by omega) (by omega))
  have h0 := hn 0 (by simp)
  refine list_nth (by simpa using hl) fun i hi => ?_
  have hl2 : (enc (c : Int)).length = 1 := by simpa using hl
  obtain rfl : i = 0 := by omega
  simp at h0
  rw [show nth (enc (c : Int)) 0 = c from by omega]
  simp [nth, List.getD]
  omega
theorem enc_high {c : Nat} (h : 128 ≤ c) (hf : fine (c : Int) = true) : ∀ b ∈ enc (c : Int), 128 ≤ b.toNat := by
  intro b hb
  have hfi := (nfine_iff c).1 hf
  have key : ∀ cs : List Int, cellsOf (enc (c : Int)) = cs.map (Value.int .u8) → (∀ x ∈ cs, 128 ≤ x) → 128 ≤ b.toNat := by
    intro cs hcs hx
    have : Value.int .u8 (b.toNat : Int) ∈ cellsOf (enc (c : Int)) := by
      unfold cellsOf; exact List.mem_map.2 ⟨b, hb, rfl⟩
    rw [hcs] at this
    obtain ⟨x, h1, h2⟩ := List.mem_map.1 this
    injection h2 with _ h3
    have := hx x h1; omega
  rcases (by omega : (128 ≤ c ∧ c < 2048) ∨ (2048 ≤ c ∧ c < 65536) ∨ 65536 ≤ c) with ⟨h, h'⟩ | ⟨h, h'⟩ | h
  · exact key [_, _] (enc_two (by omega) (by omega)) (by simp; omega)
  · exact key [_, _, _] (enc_three (by omega) (by omega) hf) (by simp; omega)
  · exact key [_, _, _, _] (enc_four (by omega) hf) (by simp; omega)

/-- A character, escaped. -/
theorem esc_enc (v : Bool) (c : Nat) (hf : fine (c : Int) = true) : esc v (enc (c : Int)) = (escT v c).getD (enc (c : Int)) := by
  by_cases h : c < 128
  · rw [enc_low h]
    simp only [esc, List.flatMap_cons, List.flatMap_nil, List.append_nil, escB]
    rw [show (UInt8.ofNat c).toNat = c from by simp; omega]
  · have hh := enc_high (by omega) hf
    rw [escT_none (by omega)]
    simp only [Option.getD_none]
    unfold esc
    generalize enc (c : Int) = l at hh
    induction l with
    | nil => rfl
    | cons b l ih =>
      rw [List.flatMap_cons, ih (fun x hx => hh x (by simp [hx]))]
      unfold escB
      rw [escT_none (hh b (by simp))]
      rfl
end Go.Proofs.YtdpknpgknbkiiaaGreatDoor.Ent
