/- Plain mathematics of layer 3: digits, numbers, references. No program in it. -/
import Derived.Test.YtdpknpgknbkiiaaGreatDoorUtfMath
set_option linter.unusedVariables false
set_option linter.unusedSimpArgs false
namespace Go.Proofs.YtdpknpgknbkiiaaGreatDoor.Ent
open Go.Proofs.YtdpknpgknbkiiaaGreatDoor.Utf

/-- A digit's value; 99: it is none. -/
def dv (b : Nat) : Nat := if 48 ≤ b ∧ b ≤ 57 then b - 48 else if 97 ≤ b ∧ b ≤ 102 then b - 87 else if 65 ≤ b ∧ b ≤ 70 then b - 55 else 99
/-- Is it a digit of a base? -/
def isd (base : Nat) (b : UInt8) : Bool := decide (dv b.toNat < base)
theorem isd_iff (base : Nat) (b : UInt8) : isd base b = true ↔ dv b.toNat < base := by simp [isd]
theorem isd_semi {base : Nat} (h : base ≤ 16) : isd base 59 = false := by
  have : dv (59 : UInt8).toNat = 99 := by decide
  simp only [isd, this, decide_eq_false_iff_not]; omega

/-- The number that digits are. -/
def val (base : Nat) : Nat → List UInt8 → Nat
  | x, [] => x
  | x, b :: r => val base (base * x + dv b.toNat) r
theorem val_snoc (base : Nat) : ∀ (l : List UInt8) (x : Nat) (b : UInt8), val base x (l ++ [b]) = base * val base x l + dv b.toNat
  | [], x, b => rfl
  | a :: r, x, b => by rw [List.cons_append, val, val, val_snoc base r]
theorem val_lt {base : Nat} (hb : 1 ≤ base) : ∀ (l : List UInt8) (x B : Nat), x < B → (∀ b ∈ l, isd base b = true) → val base x l < B * base ^ l.length
  | [], x, B, h, _ => by simpa [val] using h
  | a :: r, x, B, h, hd => by
    have ha := (isd_iff base a).1 (hd a (by simp))
    have hx : base * x + dv a.toNat < B * base := by
      have : base * x + base ≤ base * B := by rw [← Nat.mul_succ]; exact Nat.mul_le_mul_left _ h
      rw [Nat.mul_comm B base]; omega
    have := val_lt hb r (base * x + dv a.toNat) (B * base) hx (fun b hb => hd b (by simp [hb]))
    rw [val, List.length_cons, Nat.pow_succ, Nat.mul_comm (base ^ r.length) base, ← Nat.mul_assoc]
    exact this

/-- Of digits, no more than so many, and a ; behind: the number, how many bytes with the ;. 0, 0: there is none. -/
def numb (base most : Nat) (l : List UInt8) : Nat × Nat :=
  if (l.takeWhile (isd base)).length ≤ most ∧ l.takeWhile (isd base) ≠ [] ∧ l[(l.takeWhile (isd base)).length]? = some 59 ∧ fine (val base 0 (l.takeWhile (isd base))) = true then
    (val base 0 (l.takeWhile (isd base)), (l.takeWhile (isd base)).length + 1) else (0, 0)
/-- The number that digits are, if they are some, no more than so many, and it may be a character. -/
def numd (base most : Nat) (d : List UInt8) : Option Nat :=
  if d.length ≤ most ∧ d ≠ [] ∧ d.all (isd base) = true ∧ fine (val base 0 d) = true then some (val base 0 d) else none

theorem takeWhile_stop (q : UInt8 → Bool) : ∀ (x : List UInt8) (b : UInt8) (r : List UInt8), x.all q = true → q b = false → (x ++ b :: r).takeWhile q = x
  | [], b, r, _, hb => by simp [hb]
  | a :: x, b, r, h, hb => by
    simp only [List.all_cons, Bool.and_eq_true] at h
    simp only [List.cons_append, List.takeWhile_cons, h.1, if_true]
    rw [takeWhile_stop q x b r h.2 hb]
theorem takeWhile_short (q : UInt8 → Bool) : ∀ (x y : List UInt8), x.all q = false → (x ++ y).takeWhile q = x.takeWhile q ∧ (x.takeWhile q).length < x.length
  | [], y, h => by simp at h
  | a :: x, y, h => by
    by_cases ha : q a = true
    · simp only [List.all_cons, ha, Bool.true_and] at h
      have := takeWhile_short q x y h
      simp only [List.cons_append, List.takeWhile_cons, ha, if_true, this.1, List.length_cons]
      exact ⟨trivial, by have := this.2; omega⟩
    · simp [List.takeWhile_cons, ha]
theorem takeWhile_all (q : UInt8 → Bool) : ∀ (x : List UInt8), x.all q = true → x.takeWhile q = x
  | [], _ => rfl
  | a :: x, h => by
    simp only [List.all_cons, Bool.and_eq_true] at h
    simp only [List.takeWhile_cons, h.1, if_true, takeWhile_all q x h.2]

/-- Up to the first ; digits, or there is none. -/
theorem numb_semi {base most : Nat} (hb : base ≤ 16) (x r : List UInt8) (hx : 59 ∉ x) :
    numb base most (x ++ 59 :: r) = match numd base most x with | some c => (c, x.length + 1) | none => (0, 0) := by
  by_cases ha : x.all (isd base) = true
  · have e := takeWhile_stop (isd base) x 59 r ha (isd_semi hb)
    have e2 : (x ++ 59 :: r)[x.length]? = some 59 := by simp
    unfold numb numd
    rw [e, e2]
    by_cases h : x.length ≤ most ∧ x ≠ [] ∧ fine (val base 0 x) = true
    · rw [if_pos ⟨h.1, h.2.1, rfl, h.2.2⟩, if_pos ⟨h.1, h.2.1, ha, h.2.2⟩]
    · rw [if_neg (fun k => h ⟨k.1, k.2.1, k.2.2.2⟩), if_neg (fun k => h ⟨k.1, k.2.1, k.2.2.2⟩)]
  · obtain ⟨e, h⟩ := takeWhile_short (isd base) x (59 :: r) (by simpa using ha)
    unfold numb numd
    rw [e, if_neg, if_neg (fun k => ha k.2.2.1)]
    rintro ⟨_, _, h3, _⟩
    rw [List.getElem?_append_left h] at h3
    exact hx (List.mem_of_getElem? h3)
theorem numb_none {base most : Nat} (l : List UInt8) (h : 59 ∉ l) : numb base most l = (0, 0) := by
  unfold numb
  rw [if_neg]
  rintro ⟨_, _, h3, _⟩
  exact h (List.mem_of_getElem? h3)
theorem numb_le (base most : Nat) (l : List UInt8) : (numb base most l).2 ≤ l.length ∧ ((numb base most l).2 ≠ 0 → fine (numb base most l).1 = true ∧ 2 ≤ (numb base most l).2 ∧ (numb base most l).2 ≤ most + 1) := by
  unfold numb
  split
  · rename_i h
    have := (List.getElem?_eq_some_iff.1 h.2.2.1).1
    have h2 : 0 < (l.takeWhile (isd base)).length := List.length_pos_iff.2 h.2.1
    exact ⟨by simp only; omega, fun _ => ⟨h.2.2.2, by simp only; omega, by simp only; omega⟩⟩
  · exact ⟨by simp, fun h => by simp at h⟩

/-- A text's beginning. -/
def pre (p l : List UInt8) : Bool := p.isPrefixOf l
theorem pre_iff (p l : List UInt8) : pre p l = true ↔ ∃ r, l = p ++ r := by
  unfold pre
  rw [List.isPrefixOf_iff_prefix]
  exact ⟨fun ⟨r, h⟩ => ⟨r, h.symm⟩, fun ⟨r, h⟩ => ⟨r, h.symm⟩⟩
theorem pre_len {p l : List UInt8} (h : pre p l = true) : p.length ≤ l.length := by
  obtain ⟨r, rfl⟩ := (pre_iff p l).1 h
  simp

/-- The references that are names. -/
def nameds : List (List UInt8 × Nat) := [([97, 109, 112], 38), ([108, 116], 60), ([103, 116], 62), ([113, 117, 111, 116], 34), ([97, 112, 111, 115], 39)]
def up (k : Nat) (r : Nat × Nat) : Nat × Nat := if r.2 = 0 then (0, 0) else (r.1, r.2 + k)
/-- At a &: the character, how many bytes; 0, 0: there is none. -/
def refer (l : List UInt8) : Nat × Nat :=
  match nameds.find? (fun p => pre (38 :: (p.1 ++ [59])) l) with
  | some p => (p.2, p.1.length + 2)
  | none => if pre [38, 35, 120] l = true then up 3 (numb 16 6 (l.drop 3)) else if pre [38, 35] l = true then up 2 (numb 10 7 (l.drop 2)) else (0, 0)
/-- What stands between & and ;. -/
def named (x : List UInt8) : Option Nat := (nameds.find? (fun p => p.1 == x)).map (·.2)
def referred (x : List UInt8) : Option Nat := if pre [35, 120] x = true then numd 16 6 (x.drop 2) else if pre [35] x = true then numd 10 7 (x.drop 1) else named x

theorem pre_semi : ∀ (p x r : List UInt8), 59 ∉ p → 59 ∉ x → (pre (p ++ [59]) (x ++ 59 :: r) = (p == x))
  | [], [], r, _, _ => by simp [pre]
  | [], a :: x, r, _, hx => by
    have : (59 : UInt8) ≠ a := fun e => hx (by simp [e])
    simp [pre, List.isPrefixOf, this]
  | a :: p, [], r, hp, _ => by
    have : a ≠ 59 := fun e => hp (by simp [e])
    simp [pre, List.isPrefixOf, this]
  | a :: p, b :: x, r, hp, hx => by
    have ih := pre_semi p x r (fun h => hp (by simp [h])) (fun h => hx (by simp [h]))
    unfold pre at ih ⊢
    simp only [List.cons_append, List.isPrefixOf, ih]
    rw [List.cons_beq_cons]
theorem pre_in : ∀ (p x r : List UInt8), 59 ∉ p → (pre p (x ++ 59 :: r) = pre p x)
  | [], x, r, _ => by simp [pre]
  | a :: p, [], r, hp => by
    have : a ≠ 59 := fun e => hp (by simp [e])
    simp [pre, List.isPrefixOf, this]
  | a :: p, b :: x, r, hp => by
    have ih := pre_in p x r (fun h => hp (by simp [h]))
    unfold pre at ih ⊢
    simp only [List.cons_append, List.isPrefixOf, ih]
theorem pre_cons (a : UInt8) (p l : List UInt8) : pre (a :: p) (a :: l) = pre p l := by simp [pre, List.isPrefixOf]
theorem pre_mem {p l : List UInt8} (h : pre p l = true) {x : UInt8} (hx : x ∈ p) : x ∈ l := by
  obtain ⟨r, rfl⟩ := (pre_iff p l).1 h
  simp [hx]

theorem find_congr {α : Type} (p q : α → Bool) : ∀ l : List α, (∀ a ∈ l, p a = q a) → l.find? p = l.find? q
  | [], _ => rfl
  | a :: l, h => by rw [List.find?_cons, List.find?_cons, h a (by simp), find_congr p q l (fun b hb => h b (by simp [hb]))]

/-- Up to the first ; the reference, or there is none. -/
theorem refer_semi (x r : List UInt8) (hx : 59 ∉ x) : refer (38 :: (x ++ 59 :: r)) = match referred x with | some c => (c, x.length + 2) | none => (0, 0) := by
  have key : ∀ q : List UInt8 × Nat, q ∈ nameds → pre (38 :: (q.1 ++ [59])) (38 :: (x ++ 59 :: r)) = (q.1 == x) := by
    intro q hq
    rw [pre_cons, pre_semi _ _ _ _ hx]
    have : nameds.all (fun q => !q.1.contains 59) = true := by decide
    have := List.all_eq_true.1 this q hq
    simpa using this
  have hfind : nameds.find? (fun p => pre (38 :: (p.1 ++ [59])) (38 :: (x ++ 59 :: r))) = nameds.find? (fun p => p.1 == x) := find_congr _ _ _ key
  have h3 : pre [38, 35, 120] (38 :: (x ++ 59 :: r)) = pre [35, 120] x := by rw [pre_cons, pre_in _ _ _ (by decide)]
  have h2 : pre [38, 35] (38 :: (x ++ 59 :: r)) = pre [35] x := by rw [pre_cons, pre_in _ _ _ (by decide)]
  unfold refer
  rw [hfind, h3, h2]
  cases hf : nameds.find? (fun p => p.1 == x) with
  | some p =>
    have hp : p.1 = x := by simpa using List.find?_some hf
    have hmem := List.mem_of_find?_eq_some hf
    have hno : pre [35, 120] x = false ∧ pre [35] x = false := by
      have : nameds.all (fun q => !pre [35, 120] q.1 && !pre [35] q.1) = true := by decide
      have := List.all_eq_true.1 this p hmem
      rw [hp] at this
      simpa using this
    have hn : named x = some p.2 := by unfold named; rw [hf]; rfl
    unfold referred
    rw [hno.1, hno.2, hn]
    simp [hp]
  | none =>
    have hn : named x = none := by unfold named; rw [hf]; rfl
    unfold referred
    rw [hn]
    by_cases a : pre [35, 120] x = true
    · obtain ⟨y, rfl⟩ := (pre_iff _ _).1 a
      rw [if_pos a, if_pos a]
      have hy : 59 ∉ y := fun h => hx (by simp [h])
      have e : (38 :: ([35, 120] ++ y ++ 59 :: r)).drop 3 = y ++ 59 :: r := by simp
      rw [e, numb_semi (by omega) y r hy]
      simp only [List.cons_append, List.nil_append, List.drop_succ_cons, List.drop_zero]
      cases hd : numd 16 6 y with
      | none => simp [up]
      | some c => simp [up]
    · rw [if_neg a, if_neg a]
      by_cases b : pre [35] x = true
      · obtain ⟨y, rfl⟩ := (pre_iff _ _).1 b
        rw [if_pos b, if_pos b]
        have hy : 59 ∉ y := fun h => hx (by simp [h])
        have e : (38 :: ([35] ++ y ++ 59 :: r)).drop 2 = y ++ 59 :: r := by simp
        rw [e, numb_semi (by omega) y r hy]
        simp only [List.cons_append, List.nil_append, List.drop_succ_cons, List.drop_zero]
        cases hd : numd 10 7 y with
        | none => simp [up]
        | some c => simp [up]
      · rw [if_neg b, if_neg b]
theorem refer_none (m : List UInt8) (h : 59 ∉ m) : refer (38 :: m) = (0, 0) := by
  have key : ∀ q : List UInt8 × Nat, pre (38 :: (q.1 ++ [59])) (38 :: m) = false := by
    intro q
    rw [← Bool.not_eq_true]
    intro hp
    rw [pre_cons] at hp
    exact h (pre_mem hp (by simp))
  unfold refer
  have hfind : nameds.find? (fun p => pre (38 :: (p.1 ++ [59])) (38 :: m)) = none := by
    rw [List.find?_eq_none]; intro q _; rw [key q]; simp
  rw [hfind]
  have h3 : 59 ∉ (38 :: m).drop 3 := fun e => h (List.mem_of_mem_drop (by simpa using e : 59 ∈ m.drop 2))
  have h2 : 59 ∉ (38 :: m).drop 2 := fun e => h (List.mem_of_mem_drop (by simpa using e : 59 ∈ m.drop 1))
  rw [numb_none _ h3, numb_none _ h2]
  simp [up]

theorem up_snd (k : Nat) (r : Nat × Nat) (h : (up k r).2 ≠ 0) : r.2 ≠ 0 ∧ up k r = (r.1, r.2 + k) := by
  unfold up at h ⊢
  by_cases e : r.2 = 0
  · rw [if_pos e] at h; exact absurd rfl h
  · rw [if_neg e]; exact ⟨e, rfl⟩
theorem refer_le (l : List UInt8) : (refer l).2 ≤ l.length ∧ ((refer l).2 ≠ 0 → fine (refer l).1 = true ∧ 1 ≤ (refer l).2 ∧ (refer l).2 ≤ 10) := by
  unfold refer
  cases hf : nameds.find? (fun p => pre (38 :: (p.1 ++ [59])) l) with
  | some p =>
    have h1 := List.find?_some hf
    have h2 := pre_len h1
    simp only [List.length_cons, List.length_append, List.length_nil] at h2
    have : nameds.all (fun q => fine q.2 && decide (q.1.length ≤ 8)) = true := by decide
    have := List.all_eq_true.1 this p (List.mem_of_find?_eq_some hf)
    simp only [Bool.and_eq_true, decide_eq_true_eq] at this
    exact ⟨by simp only; omega, fun _ => ⟨this.1, by simp only; omega, by simp only; omega⟩⟩
  | none =>
    simp only
    split
    · rename_i h
      have hp := pre_len h
      have h1 := numb_le 16 6 (l.drop 3)
      simp only [List.length_cons, List.length_nil, List.length_drop] at hp h1
      by_cases e : (up 3 (numb 16 6 (l.drop 3))).2 = 0
      · exact ⟨by omega, fun k => absurd e k⟩
      · obtain ⟨e1, e2⟩ := up_snd _ _ e
        rw [e2]
        have h3 := h1.2 e1
        exact ⟨by simp only; omega, fun _ => ⟨h3.1, by simp only; omega, by simp only; omega⟩⟩
    · split
      · rename_i h
        have hp := pre_len h
        have h1 := numb_le 10 7 (l.drop 2)
        simp only [List.length_cons, List.length_nil, List.length_drop] at hp h1
        by_cases e : (up 2 (numb 10 7 (l.drop 2))).2 = 0
        · exact ⟨by omega, fun k => absurd e k⟩
        · obtain ⟨e1, e2⟩ := up_snd _ _ e
          rw [e2]
          have h3 := h1.2 e1
          exact ⟨by simp only; omega, fun _ => ⟨h3.1, by simp only; omega, by simp only; omega⟩⟩
      · exact ⟨by simp, fun h => by simp at h⟩

/-- The first ;. -/
theorem semi_split : ∀ (m : List UInt8), 59 ∈ m → ∃ x r, m = x ++ 59 :: r ∧ 59 ∉ x
  | [], h => by simp at h
  | a :: m, h => by
    by_cases e : a = 59
    · exact ⟨[], m, by simp [e], by simp⟩
    · obtain ⟨x, r, h1, h2⟩ := semi_split m (by
        rcases List.mem_cons.1 h with h | h
        · exact absurd h.symm e
        · exact h)
      exact ⟨a :: x, r, by simp [h1], by
        intro h
        rcases List.mem_cons.1 h with h | h
        · exact e h.symm
        · exact h2 h⟩
end Go.Proofs.YtdpknpgknbkiiaaGreatDoor.Ent
