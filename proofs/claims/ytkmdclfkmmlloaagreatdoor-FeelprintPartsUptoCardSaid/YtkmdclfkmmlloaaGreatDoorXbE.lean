/- Plain mathematics of layer 3: digits, numbers, references. No program in it. | Plain mathematics of layer 3: what a text tells, and escaping it. | Layer 3: contracts of the functions that ask of one character, one digit, one name; and of what a text begins with. | Layer 3: contracts of the document's own answers on references: number, reference. | A strings.Builder that a call has made, told by the bytes that it holds, beside other blocks that are kept: contracts of copyCheck, WriteRune, WriteString, String. -/
import Derived.Test.YtkmdclfkmmlloaaGreatDoorXbU
import Derived.Test.YtkmdclfkmmlloaaGreatDoorXbM
import Derived.Test.YtkmdclfkmmlloaaGreatDoorShelf
import Derived.Test.YtkmdclfkmmlloaaGreatDoorApp
import Derived.Lib.Builder
import Derived.Lib.AppendStr
set_option linter.unusedVariables false
set_option linter.unusedSimpArgs false
namespace Go.Proofs.YtkmdclfkmmlloaaGreatDoor.Ent
open Go.Proofs.YtkmdclfkmmlloaaGreatDoor.Utf

/-- A digit's value; 99: it is none. -/
def dv (b : Nat) : Nat := if 48 ≤ b ∧ b ≤ 57 then b - 48 else if 97 ≤ b ∧ b ≤ 102 then b - 87 else if 65 ≤ b ∧ b ≤ 70 then b - 55 else 99
/-- Is it a digit of a base? -/
def isd (base : Nat) (b : UInt8) : Bool := decide (dv b.toNat < base)
theorem isd_iff (base : Nat) (b : UInt8) : isd base b = true ↔ dv b.toNat < base := by simp [isd]
/-- The number that digits are. -/
def val (base : Nat) : Nat → List UInt8 → Nat
  | x, [] => x
  | x, b :: r => val base (base * x + dv b.toNat) r
theorem val_snoc (base : Nat) : ∀ (l : List UInt8) (x : Nat) (b : UInt8), val base x (l ++ [b]) = base * val base x l + dv b.toNat
  | [], x, b => rfl
  | a :: r, x, b => by rw [List.cons_append, val, val, val_snoc base r]
theorem val_lt {base : Nat} (hb : 1 ≤ base) : ∀ (l : List UInt8) (x B : Nat), x < B → (∀ b ∈ l, isd base b = true) → val base x l < B * base ^ l.length
  | [], x, B, h, _ => by simpa [val] using h
  | a :: r, x, B, h, hd => by
    have ha := (isd_iff base a).1 (hd a (by simp))
    have hx : base * x + dv a.toNat < B * base := by
      have : base * x + base ≤ base * B := by rw [← Nat.mul_succ]; exact Nat.mul_le_mul_left _ h
      rw [Nat.mul_comm B base]; omega
    have := val_lt hb r (base * x + dv a.toNat) (B * base) hx (fun b hb => hd b (by simp [hb]))
    rw [val, List.length_cons, Nat.pow_succ, Nat.mul_comm (base ^ r.length) base, ← Nat.mul_assoc]
    exact this

/-- Of digits, no more than so many, and a ; behind: the number, how many bytes with the ;. 0, 0: there is none. -/
def numb (base most : Nat) (l : List UInt8) : Nat × Nat :=
  if (l.takeWhile (isd base)).length ≤ most ∧ l.takeWhile (isd base) ≠ [] ∧ l[(l.takeWhile (isd base)).length]? = some 59 ∧ fine (val base 0 (l.takeWhile (isd base))) = true then
    (val base 0 (l.takeWhile (isd base)), (l.takeWhile (isd base)).length + 1) else (0, 0)
theorem takeWhile_stop (q : UInt8 → Bool) : ∀ (x : List UInt8) (b : UInt8) (r : List UInt8), x.all q = true → q b = false → (x ++ b :: r).takeWhile q = x
  | [], b, r, _, hb => by simp [hb]
  | a :: x, b, r, h, hb => by
    simp only [List.all_cons, Bool.and_eq_true] at h
    simp only [List.cons_append, List.takeWhile_cons, h.1, if_true]
    rw [takeWhile_stop q x b r h.2 hb]
theorem takeWhile_all (q : UInt8 → Bool) : ∀ (x : List UInt8), x.all q = true → x.takeWhile q = x
  | [], _ => rfl
  | a :: x, h => by
    simp only [List.all_cons, Bool.and_eq_true] at h
    simp only [List.takeWhile_cons, h.1, if_true, takeWhile_all q x h.2]

theorem numb_le (base most : Nat) (l : List UInt8) : (numb base most l).2 ≤ l.length ∧ ((numb base most l).2 ≠ 0 → fine (numb base most l).1 = true ∧ 2 ≤ (numb base most l).2 ∧ (numb base most l).2 ≤ most + 1) := by
  unfold numb
  split
  · rename_i h
    have := (List.getElem?_eq_some_iff.1 h.2.2.1).1
    have h2 : 0 < (l.takeWhile (isd base)).length := List.length_pos_iff.2 h.2.1
    exact ⟨by simp only; omega, fun _ => ⟨h.2.2.2, by simp only; omega, by simp only; omega⟩⟩
  · exact ⟨by simp, fun h => by simp at h⟩

/-- A text's beginning. -/
def pre (p l : List UInt8) : Bool := p.isPrefixOf l
theorem pre_iff (p l : List UInt8) : pre p l = true ↔ ∃ r, l = p ++ r := by
  unfold pre
  rw [List.isPrefixOf_iff_prefix]
  exact ⟨fun ⟨r, h⟩ => ⟨r, h.symm⟩, fun ⟨r, h⟩ => ⟨r, h.symm⟩⟩
theorem pre_len {p l : List UInt8} (h : pre p l = true) : p.length ≤ l.length := by
  obtain ⟨r, rfl⟩ := (pre_iff p l).1 h
  simp

/-- The references that are names. -/
def nameds : List (List UInt8 × Nat) := [([97, 109, 112], 38), ([108, 116], 60), ([103, 116], 62), ([113, 117, 111, 116], 34), ([97, 112, 111, 115], 39)]
def up (k : Nat) (r : Nat × Nat) : Nat × Nat := if r.2 = 0 then (0, 0) else (r.1, r.2 + k)
/-- At a &: the character, how many bytes; 0, 0: there is none. -/
def refer (l : List UInt8) : Nat × Nat :=
  match nameds.find? (fun p => pre (38 :: (p.1 ++ [59])) l) with
  | some p => (p.2, p.1.length + 2)
  | none => if pre [38, 35, 120] l = true then up 3 (numb 16 6 (l.drop 3)) else if pre [38, 35] l = true then up 2 (numb 10 7 (l.drop 2)) else (0, 0)
/-- What stands between & and ;. -/
def named (x : List UInt8) : Option Nat := (nameds.find? (fun p => p.1 == x)).map (·.2)
theorem up_snd (k : Nat) (r : Nat × Nat) (h : (up k r).2 ≠ 0) : r.2 ≠ 0 ∧ up k r = (r.1, r.2 + k) := by
  unfold up at h ⊢
  by_cases e : r.2 = 0
  · rw [if_pos e] at h; exact absurd rfl h
  · rw [if_neg e]; exact ⟨e, rfl⟩
theorem refer_le (l : List UInt8) : (refer l).2 ≤ l.length ∧ ((refer l).2 ≠ 0 → fine (refer l).1 = true ∧ 1 ≤ (refer l).2 ∧ (refer l).2 ≤ 10) := by
  unfold refer
  cases hf : nameds.find? (fun p => pre (38 :: (p.1 ++ [59])) l) with
  | some p =>
    have h1 := List.find?_some hf
    have h2 := pre_len h1
    simp only [List.length_cons, List.length_append, List.length_nil] at h2
    have : nameds.all (fun q => fine q.2 && decide (q.1.length ≤ 8)) = true := by decide
    have := List.all_eq_true.1 this p (List.mem_of_find?_eq_some hf)
    simp only [Bool.and_eq_true, decide_eq_true_eq] at this
    exact ⟨by simp only; omega, fun _ => ⟨this.1, by simp only; omega, by simp only; omega⟩⟩
  | none =>
    simp only
    split
    · rename_i h
      have hp := pre_len h
      have h1 := numb_le 16 6 (l.drop 3)
      simp only [List.length_cons, List.length_nil, List.length_drop] at hp h1
      by_cases e : (up 3 (numb 16 6 (l.drop 3))).2 = 0
      · exact ⟨by omega, fun k => absurd e k⟩
      · obtain ⟨e1, e2⟩ := up_snd _ _ e
        rw [e2]
        have h3 := h1.2 e1
        exact ⟨by simp only; omega, fun _ => ⟨h3.1, by simp only; omega, by simp only; omega⟩⟩
    · split
      · rename_i h
        have hp := pre_len h
        have h1 := numb_le 10 7 (l.drop 2)
        simp only [List.length_cons, List.length_nil, List.length_drop] at hp h1
        by_cases e : (up 2 (numb 10 7 (l.drop 2))).2 = 0
        · exact ⟨by omega, fun k => absurd e k⟩
        · obtain ⟨e1, e2⟩ := up_snd _ _ e
          rw [e2]
          have h3 := h1.2 e1
          exact ⟨by simp only; omega, fun _ => ⟨h3.1, by simp only; omega, by simp only; omega⟩⟩
      · exact ⟨by simp, fun h => by simp at h⟩

end Go.Proofs.YtkmdclfkmmlloaaGreatDoor.Ent
namespace Go.Proofs.YtkmdclfkmmlloaaGreatDoor.Ent
open Go Go.Proofs.YtkmdclfkmmlloaaGreatDoor Go.Proofs.YtkmdclfkmmlloaaGreatDoor.Utf
set_option maxRecDepth 100000

theorem list_nth {a b : List UInt8} (hl : a.length = b.length) (h : ∀ i, i < a.length → nth a i = nth b i) : a = b := by
  apply List.ext_getElem hl
  intro i h1 h2
  have := h i h1
  rw [← nth_get h1, ← nth_get h2] at this
  exact UInt8.toNat_inj.1 this

/-- What is read is what is put. -/
theorem rune_take (l : List UInt8) (h : (rune l).2 ≠ 0) : l.take (rune l).2 = enc ((rune l).1 : Int) := by
  have hs := rune_some (l := l) (c := (rune l).1) (k := (rune l).2) rfl h
  obtain ⟨hf, hw, hle, h1, h4⟩ := hs
  have hl := enc_width hf
  have hrl : rune l = runeN l.length (nth l 0) (nth l 1) (nth l 2) (nth l 3) := rfl
  have key : ∀ x j, rune l = chk x j → (rune l).1 = x ∧ (rune l).2 = j := by
    intro x j e
    rcases chk_cases x j with e2 | ⟨e2, _⟩
    · rw [e, e2] at h; exact absurd rfl h
    · rw [e, e2]; exact ⟨rfl, rfl⟩
  have zero : rune l ≠ (0, 0) := fun e => h (by rw [e])
  refine list_nth (by rw [List.length_take, hl, hw]; omega) fun i hi => ?_
  rw [List.length_take] at hi
  rw [nth_take _ _ _ (by omega)]
  have h0 := nth_lt l 0
  have hn1 := nth_lt l 1
  have hn2 := nth_lt l 2
  have hn3 := nth_lt l 3
  generalize hc : (rune l).1 = c at *
  generalize hk : (rune l).2 = k at *
  unfold runeN at hrl
  by_cases e0 : l.length = 0
  · omega
  rw [if_neg e0] at hrl
  by_cases e1 : nth l 0 < 128
  · rw [if_pos e1] at hrl
    obtain ⟨a, b⟩ := key _ _ hrl
    obtain ⟨_, hn⟩ := enc_nth c [(c : Int)] (enc_one (by omega) (by omega))
    have := hn 0 (by simp)
    obtain rfl : i = 0 := by omega
    simp at this; omega
  rw [if_neg e1] at hrl
  by_cases e2 : nth l 0 < 192
  · rw [if_pos e2] at hrl; exact absurd hrl zero
  rw [if_neg e2] at hrl
  by_cases e3 : nth l 0 < 224
  · rw [if_pos e3] at hrl
    by_cases g : 2 ≤ l.length ∧ nth l 1 / 64 = 2
    · rw [if_pos g] at hrl
      obtain ⟨a, b⟩ := key _ _ hrl
      have hwd := (width_iff c).2.1.1 (by omega)
      obtain ⟨_, hn⟩ := enc_nth c [192 + (c : Int) / 64, 128 + (c : Int) % 64] (enc_two (by omega) (by omega))
      have k0 := hn 0 (by simp)
      have k1 := hn 1 (by simp)
      simp at k0 k1
      rcases (by omega : i = 0 ∨ i = 1) with rfl | rfl <;> omega
    · rw [if_neg g] at hrl; exact absurd hrl zero
  rw [if_neg e3] at hrl
  by_cases e4 : nth l 0 < 240
  · rw [if_pos e4] at hrl
    by_cases g : 3 ≤ l.length ∧ nth l 1 / 64 = 2 ∧ nth l 2 / 64 = 2
    · rw [if_pos g] at hrl
      obtain ⟨a, b⟩ := key _ _ hrl
      have hwd := (width_iff c).2.2.1.1 (by omega)
      obtain ⟨_, hn⟩ := enc_nth c [224 + (c : Int) / 4096, 128 + (c : Int) / 64 % 64, 128 + (c : Int) % 64] (enc_three (by omega) (by omega) hf)
      have k0 := hn 0 (by simp)
      have k1 := hn 1 (by simp)
      have k2 := hn 2 (by simp)
      simp at k0 k1 k2
      rcases (by omega : i = 0 ∨ i = 1 ∨ i = 2) with rfl | rfl | rfl <;> omega
    · rw [if_neg g] at hrl; exact absurd hrl zero
  rw [if_neg e4] at hrl
  by_cases e5 : nth l 0 < 248
  · rw [if_pos e5] at hrl
    by_cases g : 4 ≤ l.length ∧ nth l 1 / 64 = 2 ∧ nth l 2 / 64 = 2 ∧ nth l 3 / 64 = 2
    · rw [if_pos g] at hrl
      obtain ⟨a, b⟩ := key _ _ hrl
      have hwd := (width_iff c).2.2.2.1 (by omega)
      obtain ⟨_, hn⟩ := enc_nth c [240 + (c : Int) / 262144, 128 + (c : Int) / 4096 % 64, 128 + (c : Int) / 64 % 64, 128 + (c : Int) % 64] (enc_four (by omega) hf)
      have k0 := hn 0 (by simp)
      have k1 := hn 1 (by simp)
      have k2 := hn 2 (by simp)
      have k3 := hn 3 (by simp)
      simp at k0 k1 k2 k3
      unfold val4 at a
      have t1 : nth l 1 - 128 < 64 := by omega
      have t2 : nth l 2 - 128 < 64 := by omega
      have t3 : nth l 3 - 128 < 64 := by omega
      have t0 : nth l 0 - 240 < 8 := by omega
      have q1 : nth l 1 = 128 + (nth l 1 - 128) := by omega
      have q2 : nth l 2 = 128 + (nth l 2 - 128) := by omega
      have q3 : nth l 3 = 128 + (nth l 3 - 128) := by omega
      have q0 : nth l 0 = 240 + (nth l 0 - 240) := by omega
      generalize nth l 0 - 240 = y0 at *
      generalize nth l 1 - 128 = y1 at *
      generalize nth l 2 - 128 = y2 at *
      generalize nth l 3 - 128 = y3 at *
      rcases (by omega : i = 0 ∨ i = 1 ∨ i = 2 ∨ i = 3) with rfl | rfl | rfl | rfl <;> omega
    · rw [if_neg g] at hrl; exact absurd hrl zero
  rw [if_neg e5] at hrl; exact absurd hrl zero

/-- Right bytes are characters, one behind the other. -/
theorem by_runes {p : List UInt8 → Prop} (h0 : p []) (h1 : ∀ (c : Nat) (l : List UInt8), fine (c : Int) = true → check l = l.length → p l → p (enc (c : Int) ++ l)) :
    ∀ l, check l = l.length → p l := by
  intro l
  generalize hn : l.length = n
  induction n using Nat.strongRecOn generalizing l with
  | _ n ih =>
    intro hc
    by_cases e : l = []
    · subst e; exact h0
    · have hr := rune_le l
      have hne : (rune l).2 ≠ 0 := by
        intro z
        rw [check_stop z] at hc
        exact e (List.eq_nil_of_length_eq_zero (by omega))
      obtain ⟨hf, _, _, _, _⟩ := rune_some (l := l) (c := (rune l).1) (k := (rune l).2) rfl hne
      have hck : check (l.drop (rune l).2) = (l.drop (rune l).2).length := by
        rw [check_step hne] at hc
        simp only [List.length_drop]; omega
      have := h1 (rune l).1 (l.drop (rune l).2) hf hck (ih (l.drop (rune l).2).length (by simp; omega) _ rfl (by simpa using hck))
      rw [← rune_take l hne, List.take_append_drop] at this
      exact this

/-- What a character tells that stands itself. -/
def itself (v : Bool) (c : Nat) : Nat := if v = true then (if c = 9 ∨ c = 10 ∨ c = 13 then 32 else c) else if c = 13 then 10 else c
/-- What stands at the front: the character that it tells, how many bytes it has, what is wrong with it. -/
def item (v : Bool) (l : List UInt8) : Nat × Nat × Nat :=
  if (rune l).2 = 0 then (0, 0, 4)
  else if (rune l).1 = 60 then (0, 0, 5)
  else if (rune l).1 = 38 then (if (refer l).2 = 0 then (0, 0, 5) else ((refer l).1, (refer l).2, 0))
  else (itself v (rune l).1, (if pre [13, 10] l = true then 2 else (rune l).2), 0)
/-- A beginning that tells this, n bytes of it, and what the rest tells. -/
def fin (out : List UInt8) (n : Nat) (r : List UInt8 × Nat × Nat) : List UInt8 × Nat × Nat := (if r.2.2 = 0 then out ++ r.1 else [], n + r.2.1, r.2.2)
def tellF : Nat → Bool → List UInt8 → List UInt8 × Nat × Nat
  | 0, _, _ => ([], 0, 0)
  | f + 1, v, l => if l = [] then ([], 0, 0) else if (item v l).2.2 ≠ 0 then ([], 0, (item v l).2.2) else fin (enc ((item v l).1 : Int)) (item v l).2.1 (tellF f v (l.drop (item v l).2.1))
/-- What a text tells, or where it is wrong, and why. -/
def tell (v : Bool) (l : List UInt8) : List UInt8 × Nat × Nat := tellF l.length v l

theorem itself_fine (v : Bool) (c : Nat) (h : fine (c : Int) = true) : fine (itself v c : Int) = true := by
  unfold itself
  split
  · split
    · decide
    · exact h
  · split
    · decide
    · exact h
theorem item_ok {v : Bool} {l : List UInt8} (h : (item v l).2.2 = 0) : fine ((item v l).1 : Int) = true ∧ 1 ≤ (item v l).2.1 ∧ (item v l).2.1 ≤ l.length := by
  unfold item at h ⊢
  split
  · rename_i e; rw [if_pos e] at h; simp at h
  · rename_i e
    rw [if_neg e] at h
    split
    · rename_i e1; rw [if_pos e1] at h; simp at h
    · rename_i e1
      rw [if_neg e1] at h
      split
      · rename_i e2
        rw [if_pos e2] at h
        split
        · rename_i e3; rw [if_pos e3] at h; simp at h
        · rename_i e3
          have := refer_le l
          exact ⟨(this.2 e3).1, (this.2 e3).2.1, this.1⟩
      · obtain ⟨hf, _, hle, h1, _⟩ := rune_some (l := l) (c := (rune l).1) (k := (rune l).2) rfl e
        refine ⟨itself_fine v _ hf, ?_⟩
        simp only
        split
        · rename_i hp; have := pre_len hp; simp at this; omega
        · omega
theorem tellF_eq : ∀ (f g : Nat) (v : Bool) (l : List UInt8), l.length ≤ f → l.length ≤ g → tellF f v l = tellF g v l
  | 0, 0, v, l, _, _ => rfl
  | 0, g + 1, v, l, h, _ => by
    have : l = [] := List.eq_nil_of_length_eq_zero (by omega)
    subst this; rfl
  | f + 1, 0, v, l, _, h => by
    have : l = [] := List.eq_nil_of_length_eq_zero (by omega)
    subst this; rfl
  | f + 1, g + 1, v, l, h1, h2 => by
    unfold tellF
    by_cases e : l = []
    · rw [if_pos e, if_pos e]
    · rw [if_neg e, if_neg e]
      by_cases z : (item v l).2.2 ≠ 0
      · rw [if_pos z, if_pos z]
      · rw [if_neg z, if_neg z]
        have := item_ok (Classical.not_not.1 z)
        rw [tellF_eq f g v (l.drop (item v l).2.1) (by simp; omega) (by simp; omega)]
theorem tell_nil (v : Bool) : tell v [] = ([], 0, 0) := rfl
theorem tell_bad {v : Bool} {l : List UInt8} (h0 : l ≠ []) (h : (item v l).2.2 ≠ 0) : tell v l = ([], 0, (item v l).2.2) := by
  unfold tell
  cases hl : l.length with
  | zero => exact absurd (List.eq_nil_of_length_eq_zero hl) h0
  | succ n => rw [tellF, if_neg h0, if_pos h]
theorem tell_step {v : Bool} {l : List UInt8} (h : (item v l).2.2 = 0) : tell v l = fin (enc ((item v l).1 : Int)) (item v l).2.1 (tell v (l.drop (item v l).2.1)) := by
  have hi := item_ok h
  have h0 : l ≠ [] := by rintro rfl; simp at hi; omega
  unfold tell
  cases hl : l.length with
  | zero => exact absurd (List.eq_nil_of_length_eq_zero hl) h0
  | succ n =>
    rw [tellF, if_neg h0, if_neg (by rw [h]; simp)]
    rw [tellF_eq n _ v (l.drop (item v l).2.1) (by simp; omega) (Nat.le_refl _)]
theorem fin_fin (o o' : List UInt8) (n n' : Nat) (r : List UInt8 × Nat × Nat) : fin o n (fin o' n' r) = fin (o ++ o') (n + n') r := by
  unfold fin
  simp only
  by_cases e : r.2.2 = 0
  · simp [e, Nat.add_assoc]
  · simp [e, Nat.add_assoc]

/-- What is told is right, as long as nothing is wrong. -/
theorem tell_facts (v : Bool) : ∀ (n : Nat) (l : List UInt8), l.length = n → (tell v l).2.1 ≤ l.length ∧ ((tell v l).2.2 = 0 → (tell v l).2.1 = l.length ∧ check (tell v l).1 = (tell v l).1.length) ∧ ((tell v l).2.2 ≠ 0 → (tell v l).1 = []) ∧ (tell v l).1.length ≤ 4 * l.length := by
  intro n
  induction n using Nat.strongRecOn with
  | _ n ih =>
    intro l hn
    by_cases e : l = []
    · subst e; simp [tell_nil, check_nil]
    · by_cases z : (item v l).2.2 = 0
      · have hk := item_ok z
        have he := enc_len ((item v l).1 : Int)
        have := ih (l.drop (item v l).2.1).length (by simp; omega) _ rfl
        obtain ⟨a, b, c, d⟩ := this
        rw [tell_step z]
        simp only [List.length_drop] at a b d
        unfold fin
        refine ⟨by simp only; omega, fun hz => ?_, fun hz => ?_, ?_⟩
        · simp only at hz
          obtain ⟨b1, b2⟩ := b hz
          refine ⟨by simp only; omega, ?_⟩
          simp only [hz, if_true]
          rw [check_enc _ hk.1, b2, List.length_append]
        · simp only at hz; simp [hz]
        · simp only
          split
          · rw [List.length_append]; omega
          · simp
      · rw [tell_bad e z]
        simp [z]
theorem tell_none {v : Bool} {l : List UInt8} (h : (tell v l).2.2 ≠ 0) : (tell v l).1 = [] := (tell_facts v _ l rfl).2.2.1 h
/-- Ahead of pos this was told. -/
def Told (v : Bool) (l : List UInt8) (pos : Nat) (out : List UInt8) : Prop := pos ≤ l.length ∧ out.length ≤ 4 * pos ∧ tell v l = fin out pos (tell v (l.drop pos))
theorem Told.start (v : Bool) (l : List UInt8) : Told v l 0 [] := ⟨by omega, by simp, by
  unfold fin
  rw [List.drop_zero, Nat.zero_add, List.nil_append]
  by_cases e : (tell v l).2.2 = 0
  · rw [if_pos e]
  · rw [if_neg e]; conv => lhs; rw [← Prod.eta (tell v l), tell_none e]⟩
theorem Told.next {v : Bool} {l : List UInt8} {pos : Nat} {out : List UInt8} (h : Told v l pos out) (hi : (item v (l.drop pos)).2.2 = 0) :
    Told v l (pos + (item v (l.drop pos)).2.1) (out ++ enc ((item v (l.drop pos)).1 : Int)) := by
  obtain ⟨h1, h2, h3⟩ := h
  have hk := item_ok hi
  have he := enc_len ((item v (l.drop pos)).1 : Int)
  simp only [List.length_drop] at hk
  refine ⟨by omega, by rw [List.length_append]; omega, ?_⟩
  rw [h3, tell_step hi, fin_fin, List.drop_drop]
theorem Told.stop {v : Bool} {l : List UInt8} {pos : Nat} {out : List UInt8} (h : Told v l pos out) (hp : pos < l.length) (hi : (item v (l.drop pos)).2.2 ≠ 0) :
    tell v l = ([], pos, (item v (l.drop pos)).2.2) := by
  obtain ⟨h1, h2, h3⟩ := h
  rw [h3, tell_bad (by intro e; have := congrArg List.length e; simp at this; omega) hi]
  simp [fin, hi]
theorem Told.done {v : Bool} {l : List UInt8} {pos : Nat} {out : List UInt8} (h : Told v l pos out) (hp : ¬ pos < l.length) : tell v l = (out, l.length, 0) := by
  obtain ⟨h1, h2, h3⟩ := h
  have : pos = l.length := by omega
  subst this
  rw [h3, List.drop_length, tell_nil]; simp [fin]

/-- What is laid in a byte's place. -/
def escT (v : Bool) (c : Nat) : Option (List UInt8) :=
  if c = 38 then some [38, 97, 109, 112, 59] else if c = 60 then some [38, 108, 116, 59] else if c = 62 then some [38, 103, 116, 59] else if c = 13 then some [38, 35, 49, 51, 59]
  else if v = true ∧ c = 34 then some [38, 113, 117, 111, 116, 59] else if v = true ∧ c = 9 then some [38, 35, 57, 59] else if v = true ∧ c = 10 then some [38, 35, 49, 48, 59] else none
def escB (v : Bool) (b : UInt8) : List UInt8 := (escT v b.toNat).getD [b]
/-- A text, escaped. -/
def esc (v : Bool) (l : List UInt8) : List UInt8 := l.flatMap (escB v)
theorem enc_low {c : Nat} (h : c < 128) : enc (c : Int) = [UInt8.ofNat c] := by
  obtain ⟨hl, hn⟩ := enc_nth c [(c : Int)] (enc_one (by omega) (by omega))
  have h0 := hn 0 (by simp)
  refine list_nth (by simpa using hl) fun i hi => ?_
  have hl2 : (enc (c : Int)).length = 1 := by simpa using hl
  obtain rfl : i = 0 := by omega
  simp at h0
  rw [show nth (enc (c : Int)) 0 = c from by omega]
  simp [nth, List.getD]
  omega
theorem enc_high {c : Nat} (h : 128 ≤ c) (hf : fine (c : Int) = true) : ∀ b ∈ enc (c : Int), 128 ≤ b.toNat := by
  intro b hb
  have hfi := (nfine_iff c).1 hf
  have key : ∀ cs : List Int, cellsOf (enc (c : Int)) = cs.map (Value.int .u8) → (∀ x ∈ cs, 128 ≤ x) → 128 ≤ b.toNat := by
    intro cs hcs hx
    have : Value.int .u8 (b.toNat : Int) ∈ cellsOf (enc (c : Int)) := by
      unfold cellsOf; exact List.mem_map.2 ⟨b, hb, rfl⟩
    rw [hcs] at this
    obtain ⟨x, h1, h2⟩ := List.mem_map.1 this
    injection h2 with _ h3
    have := hx x h1; omega
  rcases (by omega : (128 ≤ c ∧ c < 2048) ∨ (2048 ≤ c ∧ c < 65536) ∨ 65536 ≤ c) with ⟨h, h'⟩ | ⟨h, h'⟩ | h
  · exact key [_, _] (enc_two (by omega) (by omega)) (by simp; omega)
  · exact key [_, _, _] (enc_three (by omega) (by omega) hf) (by simp; omega)
  · exact key [_, _, _, _] (enc_four (by omega) hf) (by simp; omega)

end Go.Proofs.YtkmdclfkmmlloaaGreatDoor.Ent
namespace Go.Proofs.YtkmdclfkmmlloaaGreatDoor.Ent
open Go Go.Proofs.YtkmdclfkmmlloaaGreatDoor Go.Proofs.YtkmdclfkmmlloaaGreatDoor.Utf Go.RowKit
set_option maxRecDepth 100000

theorem text_list (l : List UInt8) : (text l).toList = l := by rw [Lib.toList_data, text_data]
end Go.Proofs.YtkmdclfkmmlloaaGreatDoor.Ent
namespace Go.Proofs.YtkmdclfkmmlloaaGreatDoor.Ent
open Go Go.Proofs.YtkmdclfkmmlloaaGreatDoor Go.Proofs.YtkmdclfkmmlloaaGreatDoor.Utf Go.RowKit
set_option maxRecDepth 100000

/-- The first k bytes are digits. -/
def Digs (base : Nat) (l : List UInt8) (k : Nat) : Prop := k ≤ l.length ∧ (l.take k).all (isd base) = true
theorem Digs.start (base : Nat) (l : List UInt8) : Digs base l 0 := ⟨by omega, by simp⟩
theorem Digs.next {base : Nat} {l : List UInt8} {k : Nat} (h : Digs base l k) (hk : k < l.length) (hd : isd base l[k] = true) :
    Digs base l (k + 1) ∧ val base 0 (l.take (k + 1)) = base * val base 0 (l.take k) + dv l[k].toNat := by
  have e := List.take_succ_eq_append_getElem hk
  refine ⟨⟨hk, ?_⟩, ?_⟩
  · rw [e, List.all_append, h.2]; simp [hd]
  · rw [e, val_snoc]
theorem pow16 (base k : Nat) (hb : base ≤ 16) (hk : k ≤ 7) : base ^ k ≤ 268435456 := by
  have h1 : base ^ k ≤ 16 ^ k := Nat.pow_le_pow_left hb k
  have h2 : 16 ^ k ≤ 16 ^ 7 := Nat.pow_le_pow_right (by omega) hk
  have h3 : 16 ^ 7 = 268435456 := by decide
  omega
theorem Digs.lt {base : Nat} {l : List UInt8} {k : Nat} (h : Digs base l k) (h1 : 1 ≤ base) (hb : base ≤ 16) (hk : k ≤ 7) : val base 0 (l.take k) < 268435456 := by
  have h2 := val_lt h1 (l.take k) 0 1 (by omega) (fun b hb => List.all_eq_true.1 h.2 b hb)
  have h3 := pow16 base (l.take k).length hb (by rw [List.length_take]; omega)
  omega
theorem Digs.stop {base most : Nat} {l : List UInt8} {k : Nat} (h : Digs base l k) (hk : k ≤ most) (he : k = l.length ∨ ∃ b, l[k]? = some b ∧ isd base b = false) :
    numb base most l = if k ≠ 0 ∧ l[k]? = some 59 ∧ fine (val base 0 (l.take k)) = true then (val base 0 (l.take k), k + 1) else (0, 0) := by
  have hkl := h.1
  have hlen : (l.take k).length = k := by rw [List.length_take]; omega
  have e : l.takeWhile (isd base) = l.take k := by
    rcases he with he | ⟨b, hb, hd⟩
    · have := h.2
      rw [he, List.take_length] at this ⊢
      exact takeWhile_all _ _ this
    · obtain ⟨hlt, rfl⟩ := List.getElem?_eq_some_iff.1 hb
      conv => lhs; rw [← List.take_append_drop k l, List.drop_eq_getElem_cons hlt]
      exact takeWhile_stop _ _ _ _ h.2 hd
  unfold numb
  rw [e, hlen]
  have en : l.take k ≠ [] ↔ k ≠ 0 := by
    rw [← List.length_pos_iff, hlen]; omega
  by_cases c : k ≠ 0 ∧ l[k]? = some 59 ∧ fine (val base 0 (l.take k)) = true
  · rw [if_pos c, if_pos ⟨hk, en.2 c.1, c.2⟩]
  · rw [if_neg c, if_neg (fun x => c ⟨en.1 x.2.1, x.2.2⟩)]
theorem Digs.many {base most : Nat} {l : List UInt8} {k : Nat} (h : Digs base l k) (hk : k < l.length) (hd : isd base l[k] = true) (hm : most ≤ k) : numb base most l = (0, 0) := by
  obtain ⟨h1, _⟩ := h.next hk hd
  have : k + 1 ≤ (l.takeWhile (isd base)).length := by
    have hall := h1.2
    have e : l = l.take (k + 1) ++ l.drop (k + 1) := (List.take_append_drop _ _).symm
    rw [e, List.takeWhile_append_of_pos (by simpa [List.all_eq_true] using hall), List.length_append, List.length_take]
    omega
  unfold numb
  rw [if_neg (fun x => by have := x.1; omega)]

end Go.Proofs.YtkmdclfkmmlloaaGreatDoor.Ent
namespace Go.Proofs.YtkmdclfkmmlloaaGreatDoor.Bld
open Go Go.Proofs.YtkmdclfkmmlloaaGreatDoor Go.Proofs.YtkmdclfkmmlloaaGreatDoor.Utf Go.RowKit
set_option maxRecDepth 100000

/-- All blocks below C but b are as they were. -/
structure But (C b : Nat) (w w' : World) : Prop where
  os : w'.os = w.os
  tape : w'.tape = w.tape
  output : w'.output = w.output
  size : w.heap.size ≤ w'.heap.size
  block : ∀ k, k < C → k ≠ b → w'.heap[k]? = w.heap[k]?
theorem But.refl (C b : Nat) (w : World) : But C b w w := ⟨rfl, rfl, rfl, Nat.le_refl _, fun _ _ _ => rfl⟩
theorem But.trans {C b : Nat} {x y z : World} (h : But C b x y) (k : But C b y z) : But C b x z :=
  ⟨k.os.trans h.os, k.tape.trans h.tape, k.output.trans h.output, Nat.le_trans h.size k.size, fun i hi hb => (k.block i hi hb).trans (h.block i hi hb)⟩
theorem But.below {C b B : Nat} {w w' : World} (h : But C b w w') (h1 : B ≤ b) (h2 : B ≤ C) : Below B w w' :=
  ⟨h.os, h.tape, h.output, h.size, fun k hk => h.block k (by omega) (by omega)⟩
theorem But.of {C b : Nat} {w w' : World} (h : Below w.heap.size w w') (hC : C ≤ w.heap.size) : But C b w w' :=
  ⟨h.os, h.tape, h.output, h.size, fun k hk _ => h.block k (by omega)⟩
theorem But.setCell (C b j : Nat) (w : World) (u : Value) : But C b w (w.setCell ⟨b, j, none⟩ u) :=
  ⟨rfl, rfl, rfl, by simp [World.setCell], fun k _ hk => Below.heap_setCell w ⟨b, j, none⟩ u k hk⟩
theorem But.grown {C b : Nat} {w w' : World} {row : Option Nat} (h : w.grownBy w' row) (hC : C ≤ w.heap.size) (hr : ∀ k, row = some k → C ≤ k) : But C b w w' :=
  ⟨h.os, h.tape, h.output, h.size, fun k hk _ => h.block k (by omega) (fun e => by have := hr k e.symm; omega)⟩
theorem But.alloc {C b : Nat} (w : World) (o : Obj) (hC : C ≤ w.heap.size) : But C b w (w.alloc o) := But.of ((Below.refl _ _).alloc (Nat.le_refl _) o) hC

/-- The builder at b, its address p, holds the bytes l; its buffer lies in no block below C. -/
def At (C b : Nat) (p : Value) (l : List UInt8) (w : World) : Prop :=
  b < C ∧ ∃ v, w.heap[b]? = some (.cells #[p, v] 67 (0, 0)) ∧ w.ownsRow C 5 1 v l.length (cellsOf l)
def Is (C b : Nat) (l : List UInt8) (w : World) : Prop := At C b (.pointer none) l w ∨ At C b (.pointer (some ⟨b, 0, none⟩)) l w

theorem At.lt {C b : Nat} {p : Value} {l : List UInt8} {w : World} (h : At C b p l w) : b < w.heap.size := by
  obtain ⟨_, v, hb, _⟩ := h
  rcases Nat.lt_or_ge b w.heap.size with h' | h'
  · exact h'
  · simp [Array.getElem?_eq_none h'] at hb
theorem At.later {C b : Nat} {p : Value} {l : List UInt8} {w w' : World} (h : At C b p l w) (hb : Below w.heap.size w w') : At C b p l w' := by
  have hlt := h.lt
  obtain ⟨h1, v, h2, h3⟩ := h
  exact ⟨h1, v, (hb.block b hlt).trans h2, owns_later h3 hb⟩
theorem Is.later {C b : Nat} {l : List UInt8} {w w' : World} (h : Is C b l w) (hb : Below w.heap.size w w') : Is C b l w' := h.elim (fun k => .inl (k.later hb)) (fun k => .inr (k.later hb))
/-- A block of a world, alive. -/
theorem block_lt {w : World} {k : Nat} {o : Obj} (h : w.heap[k]? = some o) : k < w.heap.size := by
  rcases Nat.lt_or_ge k w.heap.size with h' | h'
  · exact h'
  · simp [Array.getElem?_eq_none h'] at h
theorem Is.fresh (C : Nat) (w : World) (hC : w.heap.size < C) : Is C w.heap.size [] (w.alloc (.cells #[.pointer none, .slice none 0 0] 67)) :=
  .inl ⟨hC, _, heap_alloc_new w _, World.ownsRow_nil _ _ _ _⟩
theorem owns_but {C b : Nat} {e : TypeId} {v : Value} {n : Nat} {xs : List Value} {w : World} (h : w.ownsRow C e 1 v n xs) (hb : b < C) (j : Nat) (u : Value) : (w.setCell ⟨b, j, none⟩ u).ownsRow C e 1 v n xs := ownsRow_setCell_below h hb u
theorem At.put {C b : Nat} {p v v' : Value} {l : List UInt8} {w : World} (hC : b < C) (hb : w.heap[b]? = some (.cells #[p, v] 67 (0, 0))) (hown : w.ownsRow C 5 1 v' l.length (cellsOf l)) :
    At C b p l (w.setCell ⟨b, 1, none⟩ v') :=
  ⟨hC, v', by simp [World.setCell, Array.getElem?_modify, hb], owns_but hown hC _ _⟩
theorem At.used {C b : Nat} {p : Value} {l : List UInt8} {w : World} (h : At C b p l w) (q : Value) : At C b q l (w.setCell ⟨b, 0, none⟩ q) := by
  obtain ⟨hC, v, hb, hown⟩ := h
  exact ⟨hC, v, by simp [World.setCell, Array.getElem?_modify, hb], owns_but hown hC _ _⟩

theorem underB72 : Tryz.prog.underlying 65 = some (.pointer 67) := Tryz.underlying65
theorem sizeBld : (Tryz.prog.info? 67).map (·.size) = some 2 := by kernel_rfl
theorem liesBld : liesAt Tryz.prog Tryz.prog.depth 67 (2 / Tryz.prog.cellsOf 67) 0 67 1 = true := by kernel_rfl
theorem infoU8 : (Tryz.prog.info? 5).map (fun i => (i.zero, i.size, i.bytes)) = some (some (.int .u8 0), 1, 1) := by kernel_rfl
theorem underP : Tryz.prog.underlying 155 = some .unsafePointer := Tryz.underlying155

set_option maxHeartbeats 1000000 in
theorem copyCheck_used (b : Nat) (w : World) (h0 : w.cell? ⟨b, 0, none⟩ = some (.pointer (some ⟨b, 0, none⟩))) :
    Calls Tryz.prog 118 #[.pointer (some ⟨b, 0, none⟩)] w fun e w' => e = .returned (.tuple #[]) ∧ w = w' := by
  obtain ⟨j, hj, _⟩ := Option.map_eq_some_iff.1 sizeBld
  go_enter Tryz.func118, Tryz.ntmps118
  go_wp2
  rw [Lib.run_neq_ptr_same w _ underB72 hj]
  go_wp2
  go_end0
  exact ⟨rfl, rfl⟩

set_option maxHeartbeats 1000000 in
theorem copyCheck_fresh (b : Nat) (w : World) (h0 : w.cell? ⟨b, 0, none⟩ = some (.pointer none)) (hsh : w.shape? b = some (67, 2)) (hfz : w.frozen? ⟨b, 0, none⟩ = false) :
    Calls Tryz.prog 118 #[.pointer (some ⟨b, 0, none⟩)] w fun e w' => e = .returned (.tuple #[]) ∧ w' = w.setCell ⟨b, 0, none⟩ (.pointer (some ⟨b, 0, none⟩)) := by
  obtain ⟨j, hj, hjs⟩ := Option.map_eq_some_iff.1 sizeBld
  go_enter Tryz.func118, Tryz.ntmps118
  go_wp2
  rw [Lib.run_to_unsafe w ⟨b, 0, none⟩ underB72 underP hj (by rw [hjs]; decide) hsh (Nat.zero_lt_succ 1)]
  simp only [Result.andThen]
  rw [Oper.upon_value]
  go_wp2
  rw [run_callFunc_extern Tryz.func145 (by kernel_rfl) (by kernel_rfl) (by kernel_rfl) (e := Extern.AbiNoEscape.same) (by kernel_rfl)]
  rw [Lib.run_noEscape]
  simp only [Result.andThen]
  rw [Oper.upon_value]
  go_wp2
  rw [Lib.run_from_unsafe w ⟨b, 0, none⟩ underP underB72 hj hsh liesBld]
  simp only [Result.andThen]
  rw [Oper.upon_value]
  go_wp2
  go_end0
  exact ⟨rfl, rfl⟩

theorem copyCheck_any (C b : Nat) (l : List UInt8) (w : World) (h : Is C b l w) :
    Calls Tryz.prog 118 #[.pointer (some ⟨b, 0, none⟩)] w fun e w' => e = .returned (.tuple #[]) ∧ At C b (.pointer (some ⟨b, 0, none⟩)) l w' ∧ But C b w w' := by
  rcases h with h | h
  · have hu := h.used (.pointer (some ⟨b, 0, none⟩))
    obtain ⟨_, v, hb, _⟩ := h
    refine (copyCheck_fresh b w (by rw [Lib.cell_of_heap hb]; rfl) (by simp [World.shape?, hb]) (Lib.frozen_of_heap hb 0)).mono ?_
    rintro e w' ⟨rfl, rfl⟩
    exact ⟨rfl, hu, But.setCell _ _ _ _ _⟩
  · have h2 := h
    obtain ⟨_, v, hb, _⟩ := h
    refine (copyCheck_used b w (by rw [Lib.cell_of_heap hb]; rfl)).mono ?_
    rintro e w' ⟨rfl, rfl⟩
    exact ⟨rfl, h2, But.refl _ _ _⟩

set_option maxHeartbeats 2000000 in
theorem WriteRune_any (C b : Nat) (l : List UInt8) (c : Int) (h0 : 0 ≤ c) (h1 : c ≤ 1114111) (w : World) (h : Is C b l w) (hlen : l.length + 4 ≤ 140737488355328) (hC : C ≤ w.heap.size) :
    Calls Tryz.prog 79 #[.pointer (some ⟨b, 0, none⟩), .int .i32 c] w fun e w' => e = .returned (.tuple #[.int .i64 (enc c).length, .nilIface]) ∧ Is C b (l ++ enc c) w' ∧ But C b w w' := by
  have hk4 := enc_len c
  go_enter Tryz.func79, Tryz.ntmps79
  go_wp2_with fail
  refine (copyCheck_any C b l _ h).mono ?_
  rintro e w1 ⟨rfl, hA, hb1⟩
  have hlt := hA.lt
  obtain ⟨hbC, v, hbk, hown⟩ := hA
  have hz := hb1.size
  obtain ⟨ao, cap, rfl⟩ : ∃ ao cap, v = .slice ao l.length cap := by
    rcases hown.2 with ⟨hv, h0⟩ | ⟨g, cap, cur, hv, _⟩
    · exact ⟨none, 0, by rw [hv, h0]⟩
    · exact ⟨_, _, hv⟩
  have c0 : w1.cell? ⟨b, 0, none⟩ = some (.pointer (some ⟨b, 0, none⟩)) := by rw [Lib.cell_of_heap hbk]; rfl
  have c1 : w1.cell? ⟨b, 1, none⟩ = some (.slice ao l.length cap) := by rw [Lib.cell_of_heap hbk]; rfl
  have hap := Tryz.utf8_AppendRune_plain C (.slice ao l.length cap) l.length (cellsOf l) c (by omega) (by omega) w1 hown hlen (by omega)
  rw [cells_enc, cellsOf_length, ← cellsOf_append] at hap
  have HA := hid hap
  have HO := hid hown
  have HK := hid hbk
  clear hap hown hbk
  go_wp2_with fail
  refine HA.out.mono ?_
  rintro e w2 ⟨v', rfl, hown', o, hgrow⟩
  have hne : (Value.slice ao l.length cap).ownBlock ≠ some b := fun e => by have := (HO.out.lt b e).1; omega
  have hb2 : w2.heap[b]? = some (.cells #[.pointer (some ⟨b, 0, none⟩), .slice ao l.length cap] 67 (0, 0)) := by
    rw [hgrow.block b (by simp; omega) (fun e => hne e.symm), Below.heap_alloc w1 o b hlt]
    exact HK.out
  have d0 : w2.cell? ⟨b, 0, none⟩ = some (.pointer (some ⟨b, 0, none⟩)) := by rw [Lib.cell_of_heap hb2]; rfl
  have d1 : w2.cell? ⟨b, 1, none⟩ = some (.slice ao l.length cap) := by rw [Lib.cell_of_heap hb2]; rfl
  have f1 : w2.frozen? ⟨b, 1, none⟩ = false := Lib.frozen_of_heap hb2 1
  obtain ⟨g, cap', rfl⟩ : ∃ g cap', v' = .slice (some ⟨g, 0, none⟩) (l.length + (enc c).length) cap' := by
    rcases hown'.2 with ⟨_, h0⟩ | ⟨g, cap', cur, hv, _⟩
    · omega
    · exact ⟨g, cap', hv⟩
  have HB2 := hid hb2
  have HO' := hid hown'
  clear hb2 hown'
  go_wp2
  go_ret2
  refine ⟨?_, .inr ?_, ?_⟩
  · have e : ((l.length : Int) + ((enc c).length : Int) - (l.length : Int)) = ((enc c).length : Int) := by omega
    simp [e]
  · exact At.put hbC HB2.out (by simpa using HO'.out)
  · exact (hb1.trans ((But.alloc w1 o (by omega)).trans (But.grown hgrow (by simp; omega) (fun k hk => (HO.out.lt k hk).1)))).trans (But.setCell _ _ _ _ _)

theorem strCells_text (m : List UInt8) : Lib.strCells (text m) = cellsOf m := by unfold Lib.strCells cellsOf; rw [text_data]

theorem At.lib {C b : Nat} {p : Value} {l : List UInt8} {w : World} (h : At C b p l w) : Lib.BuilderAt 67 5 b b p (cellsOf l) w := by
  obtain ⟨hC, v, hb, hown⟩ := h
  have hl : (cellsOf l).length = l.length := cellsOf_length l
  refine ⟨Nat.le_refl _, v, hb, ?_, fun e => by have := (hown.lt b e).1; omega⟩
  rw [hl]
  obtain ⟨h1, h2⟩ := hown
  refine ⟨h1, ?_⟩
  rcases h2 with h2 | ⟨g, cap, cur, hv, hg, r⟩
  · exact .inl h2
  · exact .inr ⟨g, cap, cur, hv, by omega, r⟩
/-- What a builder holds, as a text. -/
theorem String_any (C b : Nat) (l : List UInt8) (w : World) (h : Is C b l w) :
    Calls Tryz.prog 34 #[.pointer (some ⟨b, 0, none⟩)] w fun e w' => e = .returned (.string (text l)) ∧ Below b w w' := by
  have hlt : b < w.heap.size := h.elim At.lt At.lt
  have hI : Lib.IsBuilder 67 5 b b (Lib.byteCells l) w := h.elim (fun k => .inl k.lib) (fun k => .inr k.lib)
  exact Tryz.Builder_String_any b b l w hI (by omega)
end Go.Proofs.YtkmdclfkmmlloaaGreatDoor.Bld
