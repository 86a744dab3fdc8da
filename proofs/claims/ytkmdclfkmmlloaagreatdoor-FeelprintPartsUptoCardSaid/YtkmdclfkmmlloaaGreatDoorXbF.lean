/- Layer 8: tokens of FEEL, in plain words; it hangs on no program: words, numbers, texts, signs; all tokens of a text; a token's text. | Layer 8: texts in quotes, signs, tokens of FEEL, in plain words; it hangs on no program. | Layer 8: all tokens of a text; two texts with a blank between; tokens' texts. It hangs on no program. | Layer 8: a token's text is that one token; tokens' texts with a blank between; a text in quotes; two signs. It hangs on no program. -/
import Derived.Test.YtkmdclfkmmlloaaGreatDoorXbM
import Derived.Test.YtkmdclfkmmlloaaGreatDoorXbE
set_option linter.unusedVariables false
set_option linter.unusedSimpArgs false
namespace Go.Proofs.YtkmdclfkmmlloaaGreatDoor.Fl
open Go Go.Proofs.YtkmdclfkmmlloaaGreatDoor Go.Proofs.YtkmdclfkmmlloaaGreatDoor.Utf Go.Proofs.YtkmdclfkmmlloaaGreatDoor.Names Go.Proofs.YtkmdclfkmmlloaaGreatDoor.Ent

/-! ### Numbers -/
def isd (b : UInt8) : Bool := decide (48 ≤ b.toNat ∧ b.toNat ≤ 57)
def digN : List UInt8 → Nat
  | [] => 0
  | b :: r => if isd b = true then digN r + 1 else 0
theorem digN_le : ∀ l, digN l ≤ l.length
  | [] => Nat.le_refl _
  | b :: r => by
    have := digN_le r
    unfold digN; split <;> simp <;> omega
theorem digN_blank : ∀ (l m : List UInt8), digN (l ++ 32 :: m) = digN l
  | [], m => rfl
  | b :: r, m => by
    have ih := digN_blank r m
    simp only [List.cons_append, digN]
    rw [ih]
/-- Does a point with a digit behind it stand there? -/
def dotted : List UInt8 → Bool
  | p :: b :: _ => p == 46 && isd b
  | _ => false
theorem dotted_blank : ∀ l m, dotted (l ++ 32 :: m) = dotted l
  | [], [] => rfl
  | [], _ :: _ => rfl
  | [a], m => by show ((a == 46) && isd 32) = false; rw [show isd 32 = false from by decide, Bool.and_false]
  | a :: b :: r, m => rfl
/-- How many bytes of a number begin there. -/
def numN (l : List UInt8) : Nat :=
  if dotted (l.drop (digN l)) = true then digN l + 1 + digN (l.drop (digN l + 1)) else digN l
theorem numN_le (l : List UInt8) : numN l ≤ l.length := by
  have h1 := digN_le l
  unfold numN
  split
  · rename_i h
    have h2 := digN_le (l.drop (digN l + 1))
    have : digN l < l.length := by
      refine Nat.lt_of_not_le fun hh => ?_
      rw [List.drop_eq_nil_of_le hh] at h; cases h
    rw [List.length_drop] at h2; omega
  · exact h1
theorem drop_blank (l m : List UInt8) (k : Nat) (h : k ≤ l.length) : (l ++ 32 :: m).drop k = l.drop k ++ 32 :: m := List.drop_append_of_le_length h
theorem numN_blank (l m : List UInt8) : numN (l ++ 32 :: m) = numN l := by
  have h1 := digN_le l
  unfold numN
  rw [digN_blank, drop_blank l m _ h1, dotted_blank]
  split
  · rename_i h
    have : digN l < l.length := by
      refine Nat.lt_of_not_le fun hh => ?_
      rw [List.drop_eq_nil_of_le hh] at h; cases h
    rw [drop_blank l m _ (by omega), digN_blank]
  · rfl
/-- Does a number begin there? -/
def numB (l : List UInt8) : Bool := (match l with | b :: _ => isd b | [] => false) || dotted l
theorem numB_pos {l : List UInt8} (h : numB l = true) : 0 < numN l := by
  rcases l with _ | ⟨b, r⟩
  · cases h
  · unfold numN
    by_cases c : isd b = true
    · have : digN (b :: r) = digN r + 1 := by rw [digN, if_pos c]
      split <;> omega
    · have e : digN (b :: r) = 0 := by rw [digN, if_neg c]
      have hd : dotted (b :: r) = true := by
        unfold numB at h
        rw [Bool.or_eq_true] at h
        exact h.resolve_left (fun x => c x)
      rw [e, List.drop_zero, if_pos hd]; omega

/-! ### Words -/
def wordF : Nat → Bool → List UInt8 → Nat
  | 0, _, _ => 0
  | f + 1, s, l => if (rune l).2 ≠ 0 ∧ Utf.next (rune l).1 = true ∧ (s = true → Utf.first (rune l).1 = true) then (rune l).2 + wordF f false (l.drop (rune l).2) else 0
/-- How many bytes of a word begin there. -/
def wordN (l : List UInt8) : Nat := wordF l.length true l
theorem wordF_eq : ∀ (f g : Nat) (s : Bool) (l : List UInt8), l.length ≤ f → l.length ≤ g → wordF f s l = wordF g s l
  | 0, 0, _, _, _, _ => rfl
  | 0, g + 1, s, l, h, _ => by
    have : l = [] := List.eq_nil_of_length_eq_zero (by omega)
    subst this
    unfold wordF; rw [if_neg (by rw [rune_nil]; simp)]
  | f + 1, 0, s, l, _, h => by
    have : l = [] := List.eq_nil_of_length_eq_zero (by omega)
    subst this
    unfold wordF; rw [if_neg (by rw [rune_nil]; simp)]
  | f + 1, g + 1, s, l, h, k => by
    unfold wordF
    split
    · rename_i c
      rw [wordF_eq f g false (l.drop (rune l).2) (by rw [List.length_drop]; omega) (by rw [List.length_drop]; omega)]
    · rfl
theorem wordF_le : ∀ (f : Nat) (s : Bool) (l : List UInt8), wordF f s l ≤ l.length
  | 0, _, _ => Nat.zero_le _
  | f + 1, s, l => by
    unfold wordF
    split
    · rename_i c
      have h1 := wordF_le f false (l.drop (rune l).2)
      have h2 := (rune_le l).1
      rw [List.length_drop] at h1; omega
    · exact Nat.zero_le _
theorem wordN_le (l : List UInt8) : wordN l ≤ l.length := wordF_le _ _ _
theorem rune_blank (m : List UInt8) : rune (32 :: m) = (32, 1) := by
  have := rune_enc 32 (by decide) m
  rw [show enc ((32 : Nat) : Int) = [32] from enc_low (by omega)] at this
  exact this
theorem next_blank : Utf.next 32 = false := by decide
/-- Words end at a blank; what stands behind plays no part. -/
theorem wordF_blank : ∀ (f : Nat) (s : Bool) (l m : List UInt8), check l = l.length → l.length ≤ f → ∀ g, (l ++ 32 :: m).length ≤ g → wordF g s (l ++ 32 :: m) = wordF f s l := by
  intro f
  induction f with
  | zero =>
    intro s l m hc hf g hg
    have : l = [] := List.eq_nil_of_length_eq_zero (by omega)
    subst this
    rcases g with _ | g
    · rfl
    · show wordF (g + 1) s (32 :: m) = 0
      unfold wordF
      rw [rune_blank]
      rw [if_neg (by intro h; have h2 : Utf.next ((32 : Nat) : Int) = true := h.2.1; rw [show Utf.next ((32 : Nat) : Int) = false from next_blank] at h2; cases h2)]
  | succ f ih =>
    intro s l m hc hf g hg
    rcases hl : l with _ | ⟨b, r⟩
    · rcases g with _ | g
      · simp at hg
      · show wordF (g + 1) s (32 :: m) = wordF (f + 1) s []
        unfold wordF
        rw [rune_blank, rune_nil]
        rw [if_neg (by intro h; have h2 : Utf.next ((32 : Nat) : Int) = true := h.2.1; rw [show Utf.next ((32 : Nat) : Int) = false from next_blank] at h2; cases h2), if_neg (by simp)]
    · rw [← hl]
      have hne : (rune l).2 ≠ 0 := by
        intro h0
        have := check_stop h0
        rw [hc, hl] at this; simp at this
      have hr := rune_append (32 :: m) hne
      have hle := (rune_le l).1
      have hcd : check (l.drop (rune l).2) = (l.drop (rune l).2).length := by
        have := check_step hne
        rw [List.length_drop]; omega
      rcases g with _ | g
      · simp at hg
      · unfold wordF
        rw [hr]
        split
        · rw [drop_blank l m _ hle, ih false (l.drop (rune l).2) m hcd (by rw [List.length_drop]; omega) g (by rw [← drop_blank l m _ hle, List.length_drop]; omega)]
        · rfl
theorem wordN_blank (l m : List UInt8) (h : check l = l.length) : wordN (l ++ 32 :: m) = wordN l := wordF_blank l.length true l m h (Nat.le_refl _) _ (Nat.le_refl _)
/-- All characters of a text may be a word's. -/
theorem wordF_all : ∀ (f : Nat) (l : List UInt8), l.length ≤ f → allq Utf.next l = true → wordF f false l = l.length
  | 0, l, h, _ => by
    have : l = [] := List.eq_nil_of_length_eq_zero (by omega)
    subst this; rfl
  | f + 1, l, h, ha => by
    rcases hl : l with _ | ⟨b, r⟩
    · unfold wordF; rw [if_neg (by rw [rune_nil]; simp)]; rfl
    · rw [← hl]
      have hne : (rune l).2 ≠ 0 := by
        intro h0
        have := allq_bad (q := Utf.next) (l := l) (by rw [hl]; simp) h0
        rw [this] at ha; cases ha
      rw [allq_step hne, Bool.and_eq_true] at ha
      have hle := (rune_le l).1
      unfold wordF
      rw [if_pos ⟨hne, ha.1, by intro c; cases c⟩, wordF_all f _ (by rw [List.length_drop]; omega) ha.2, List.length_drop]
      omega
theorem wordN_wordy {l : List UInt8} (h : wordyB l = true) : wordN l = l.length := by
  have hne : (rune l).2 ≠ 0 := by
    intro h0
    have := shp_bad (p := Utf.first) (q := Utf.next) h0
    unfold wordyB at h; rw [this] at h; cases h
  unfold wordyB at h
  rw [shp_step hne, Bool.and_eq_true] at h
  have hle := (rune_le l).1
  have hf : Utf.next (rune l).1 = true := (Utf.next_iff _).2 (.inl h.1)
  rcases hl : l with _ | ⟨b, r⟩
  · rw [hl, rune_nil] at hne; simp at hne
  · rw [← hl]
    unfold wordN
    rw [show l.length = r.length + 1 by rw [hl]; rfl]
    unfold wordF
    rw [if_pos ⟨hne, hf, fun _ => h.1⟩, wordF_all r.length _ (by rw [List.length_drop, hl]; simp at hne ⊢; rw [hl] at hne; omega) h.2, List.length_drop]
    rw [hl] at hle ⊢
    simp at hle ⊢; omega
/-- At a byte below 128 that begins no word none begins. -/
theorem wordN_not {b : UInt8} {r : List UInt8} (hb : b.toNat < 128) (hf : fine (b.toNat : Int) = true) (h : Utf.first (b.toNat : Int) = false) : wordN (b :: r) = 0 := by
  have hr : rune (b :: r) = (b.toNat, 1) := by
    have := rune_enc b.toNat hf r
    rw [show enc (b.toNat : Int) = [b] from by rw [enc_low hb]; simp] at this
    exact this
  unfold wordN
  rw [List.length_cons]
  unfold wordF
  rw [hr, if_neg]
  intro c
  have := c.2.2 rfl
  simp only at this
  rw [h] at this; cases this
end Go.Proofs.YtkmdclfkmmlloaaGreatDoor.Fl
namespace Go.Proofs.YtkmdclfkmmlloaaGreatDoor.Fl
open Go Go.Proofs.YtkmdclfkmmlloaaGreatDoor Go.Proofs.YtkmdclfkmmlloaaGreatDoor.Utf Go.Proofs.YtkmdclfkmmlloaaGreatDoor.Names Go.Proofs.YtkmdclfkmmlloaaGreatDoor.Ent

/-! ### Texts in quotes -/
def hexV (b : Nat) : Option Nat := if 48 ≤ b ∧ b ≤ 57 then some (b - 48) else if 97 ≤ b ∧ b ≤ 102 then some (b - 87) else if 65 ≤ b ∧ b ≤ 70 then some (b - 55) else none
/-- So many digits' number, to the base 16. -/
def hexF : Nat → Nat → List UInt8 → Option Nat
  | 0, x, _ => some x
  | k + 1, x, [] => none
  | k + 1, x, b :: r => match hexV b.toNat with | some v => hexF k (16 * x + v) r | none => none
def hex4 (l : List UInt8) : Option Nat := hexF 4 0 l
theorem hexF_len : ∀ (k x : Nat) (l : List UInt8) (y : Nat), hexF k x l = some y → k ≤ l.length
  | 0, _, _, _, _ => Nat.zero_le _
  | k + 1, _, [], _, h => by cases h
  | k + 1, x, b :: r, y, h => by
    unfold hexF at h
    cases hv : hexV b.toNat with
    | none => rw [hv] at h; cases h
    | some v => rw [hv] at h; have := hexF_len k _ r y h; simp; omega
theorem hexF_blank : ∀ (k x : Nat) (l m : List UInt8), hexF k x (l ++ 32 :: m) = hexF k x l
  | 0, _, _, _ => rfl
  | k + 1, x, [], m => by
    show hexF (k + 1) x (32 :: m) = none
    unfold hexF
    rw [show hexV (32 : UInt8).toNat = none from by decide]
  | k + 1, x, b :: r, m => by
    show hexF (k + 1) x (b :: (r ++ 32 :: m)) = _
    unfold hexF
    cases hexV b.toNat with
    | none => rfl
    | some v => exact hexF_blank k _ r m
/-- Behind a backslash: the character, and how many bytes tell it. -/
def escN : List UInt8 → Option (Nat × Nat)
  | [] => none
  | b :: r => if b = 34 then some (34, 1) else if b = 92 then some (92, 1) else if b = 110 then some (10, 1) else if b = 114 then some (13, 1) else if b = 116 then some (9, 1)
    else if b = 117 then (match hex4 r with | some x => if fine (x : Int) = true then some (x, 5) else none | none => none) else none
theorem escN_cons (b : UInt8) (r : List UInt8) : escN (b :: r) = if b = 34 then some (34, 1) else if b = 92 then some (92, 1) else if b = 110 then some (10, 1) else if b = 114 then some (13, 1) else if b = 116 then some (9, 1)
    else if b = 117 then (match hex4 r with | some x => if fine (x : Int) = true then some (x, 5) else none | none => none) else none := rfl
theorem escN_some {l : List UInt8} {c k : Nat} (h : escN l = some (c, k)) : fine (c : Int) = true ∧ 1 ≤ k ∧ k ≤ l.length := by
  rcases l with _ | ⟨b, r⟩
  · cases h
  · rw [escN_cons] at h
    repeat' split at h
    all_goals first
      | (obtain ⟨rfl, rfl⟩ := Prod.mk.inj (Option.some.inj h); exact ⟨by decide, by omega, by simp⟩)
      | (cases h; done)
      | (rename_i x hx hf; obtain ⟨rfl, rfl⟩ := Prod.mk.inj (Option.some.inj h); have := hexF_len _ _ _ _ hx; exact ⟨hf, by omega, by simp; omega⟩)
theorem escN_blank (l m : List UInt8) : escN (l ++ 32 :: m) = escN l := by
  rcases l with _ | ⟨b, r⟩
  · show escN (32 :: m) = none
    rw [escN_cons, if_neg (by decide), if_neg (by decide), if_neg (by decide), if_neg (by decide), if_neg (by decide), if_neg (by decide)]
  · show escN (b :: (r ++ 32 :: m)) = _
    rw [escN_cons, escN_cons]
    unfold hex4
    rw [hexF_blank]
/-- What a text in quotes tells, from behind its first quote on: the bytes, how many were read, 0; or the place of an error, and which. -/
def put (o : List UInt8) (n : Nat) (x : List UInt8 × Nat × Nat) : List UInt8 × Nat × Nat := (if x.2.2 = 0 then o ++ x.1 else [], n + x.2.1, x.2.2)
def strF : Nat → List UInt8 → List UInt8 × Nat × Nat
  | 0, _ => ([], 0, 10)
  | f + 1, [] => ([], 0, 10)
  | f + 1, b :: r => if b = 34 then ([], 1, 0) else if b = 92 then (match escN r with | some (c, k) => put (enc (c : Int)) (1 + k) (strF f (r.drop k)) | none => ([], 0, 11)) else put [b] 1 (strF f r)
def str (l : List UInt8) : List UInt8 × Nat × Nat := strF l.length l
theorem strF_eq : ∀ (f g : Nat) (l : List UInt8), l.length ≤ f → l.length ≤ g → strF f l = strF g l
  | 0, 0, _, _, _ => rfl
  | 0, g + 1, l, h, _ => by
    have : l = [] := List.eq_nil_of_length_eq_zero (by omega)
    subst this; rfl
  | f + 1, 0, l, _, h => by
    have : l = [] := List.eq_nil_of_length_eq_zero (by omega)
    subst this; rfl
  | f + 1, g + 1, [], _, _ => rfl
  | f + 1, g + 1, b :: r, h, k => by
    simp only [List.length_cons] at h k
    unfold strF
    split
    · rfl
    · split
      · cases he : escN r with
        | none => rfl
        | some x => simp only; rw [strF_eq f g (r.drop x.2) (by rw [List.length_drop]; omega) (by rw [List.length_drop]; omega)]
      · rw [strF_eq f g r (by omega) (by omega)]
theorem str_nil : str [] = ([], 0, 10) := rfl
theorem str_end (r : List UInt8) : str (34 :: r) = ([], 1, 0) := by unfold str; rw [List.length_cons]; unfold strF; rw [if_pos rfl]
theorem str_esc {r : List UInt8} {c k : Nat} (h : escN r = some (c, k)) : str (92 :: r) = put (enc (c : Int)) (1 + k) (str (r.drop k)) := by
  unfold str; rw [List.length_cons]
  conv => lhs; unfold strF
  rw [if_neg (by decide), if_pos rfl, h]
  simp only
  rw [strF_eq r.length (r.drop k).length _ (by rw [List.length_drop]; omega) (Nat.le_refl _)]
theorem str_wrong {r : List UInt8} (h : escN r = none) : str (92 :: r) = ([], 0, 11) := by
  unfold str; rw [List.length_cons]
  unfold strF
  rw [if_neg (by decide), if_pos rfl, h]
theorem str_self {b : UInt8} (r : List UInt8) (h1 : b ≠ 34) (h2 : b ≠ 92) : str (b :: r) = put [b] 1 (str r) := by
  unfold str; rw [List.length_cons]
  conv => lhs; unfold strF
  rw [if_neg h1, if_neg h2]
theorem put_place (o : List UInt8) (n : Nat) (x : List UInt8 × Nat × Nat) : (put o n x).2.1 = n + x.2.1 ∧ (put o n x).2.2 = x.2.2 := ⟨rfl, rfl⟩
theorem str_facts : ∀ (n : Nat) (l : List UInt8), l.length = n → (str l).2.1 ≤ l.length ∧ ((str l).2.2 = 0 ∨ (str l).2.2 = 10 ∨ (str l).2.2 = 11) ∧ ((str l).2.2 = 10 → (str l).2.1 = l.length) ∧ ((str l).2.2 = 0 → 0 < (str l).2.1) := by
  intro n
  induction n using Nat.strongRecOn with
  | _ n ih =>
    intro l hl
    rcases l with _ | ⟨b, r⟩
    · rw [str_nil]; simp
    · simp only [List.length_cons] at hl
      by_cases h1 : b = 34
      · subst h1; rw [str_end]; simp
      · by_cases h2 : b = 92
        · subst h2
          cases he : escN r with
          | none => rw [str_wrong he]; simp
          | some x =>
            obtain ⟨c, k⟩ := x
            have hk := escN_some he
            obtain ⟨i1, i2, i3, i4⟩ := ih (r.drop k).length (by rw [List.length_drop]; omega) (r.drop k) rfl
            rw [List.length_drop] at i1 i3
            rw [str_esc he, (put_place _ _ _).1, (put_place _ _ _).2, List.length_cons]
            refine ⟨by omega, i2, fun h => by have := i3 h; omega, fun h => by omega⟩
        · obtain ⟨i1, i2, i3, i4⟩ := ih r.length (by omega) r rfl
          rw [str_self r h1 h2, (put_place _ _ _).1, (put_place _ _ _).2, List.length_cons]
          refine ⟨by omega, i2, fun h => by have := i3 h; omega, fun h => by omega⟩
/-- What stands behind the last quote plays no part. -/
theorem str_blank : ∀ (n : Nat) (l m : List UInt8), l.length = n → (str l).2.2 ≠ 10 → str (l ++ 32 :: m) = str l := by
  intro n
  induction n using Nat.strongRecOn with
  | _ n ih =>
    intro l m hl hne
    rcases l with _ | ⟨b, r⟩
    · rw [str_nil] at hne; exact absurd rfl hne
    · simp only [List.length_cons] at hl
      show str (b :: (r ++ 32 :: m)) = _
      by_cases h1 : b = 34
      · subst h1; rw [str_end, str_end]
      · by_cases h2 : b = 92
        · subst h2
          have hb := escN_blank r m
          cases he : escN r with
          | none => rw [str_wrong he, str_wrong (by rw [hb, he])]
          | some x =>
            obtain ⟨c, k⟩ := x
            have hk := escN_some he
            rw [str_esc he, (put_place _ _ _).2] at hne
            rw [str_esc he, str_esc (by rw [hb, he]), drop_blank r m k hk.2.2, ih (r.drop k).length (by rw [List.length_drop]; omega) _ m rfl hne]
        · rw [str_self r h1 h2, (put_place _ _ _).2] at hne
          rw [str_self r h1 h2, str_self _ h1 h2, ih r.length (by omega) r m rfl hne]
/-- A text's bytes in quotes. -/
def qb (b : UInt8) : List UInt8 := if b = 34 then [92, 34] else if b = 92 then [92, 92] else if b = 10 then [92, 110] else if b = 13 then [92, 114] else if b = 9 then [92, 116] else [b]
def qs (l : List UInt8) : List UInt8 := l.flatMap qb
def quote (l : List UInt8) : List UInt8 := 34 :: (qs l ++ [34])
theorem qs_cons (b : UInt8) (r : List UInt8) : qs (b :: r) = qb b ++ qs r := rfl
theorem qs_len : ∀ l, l.length ≤ (qs l).length ∧ (qs l).length ≤ 2 * l.length
  | [] => ⟨Nat.le_refl _, Nat.zero_le _⟩
  | b :: r => by
    have ih := qs_len r
    rw [qs_cons, List.length_append, List.length_cons]
    have : 1 ≤ (qb b).length ∧ (qb b).length ≤ 2 := by unfold qb; repeat' split
                                                       all_goals simp
    omega
theorem quote_len (l : List UInt8) : (quote l).length = (qs l).length + 2 := by unfold quote; simp
theorem enc_one (c : Nat) (h : c < 128) : enc (c : Int) = [UInt8.ofNat c] := enc_low h
theorem str_qb (b : UInt8) (m : List UInt8) : str (qb b ++ m) = put [b] (qb b).length (str m) := by
  unfold qb
  by_cases h1 : b = 34
  · subst h1
    rw [if_pos rfl]
    show str (92 :: 34 :: m) = _
    rw [str_esc (c := 34) (k := 1) rfl, enc_one 34 (by omega)]; rfl
  rw [if_neg h1]
  by_cases h2 : b = 92
  · subst h2
    rw [if_pos rfl]
    show str (92 :: 92 :: m) = _
    rw [str_esc (c := 92) (k := 1) rfl, enc_one 92 (by omega)]; rfl
  rw [if_neg h2]
  by_cases h3 : b = 10
  · subst h3
    rw [if_pos rfl]
    show str (92 :: 110 :: m) = _
    rw [str_esc (c := 10) (k := 1) rfl, enc_one 10 (by omega)]; rfl
  rw [if_neg h3]
  by_cases h4 : b = 13
  · subst h4
    rw [if_pos rfl]
    show str (92 :: 114 :: m) = _
    rw [str_esc (c := 13) (k := 1) rfl, enc_one 13 (by omega)]; rfl
  rw [if_neg h4]
  by_cases h5 : b = 9
  · subst h5
    rw [if_pos rfl]
    show str (92 :: 116 :: m) = _
    rw [str_esc (c := 9) (k := 1) rfl, enc_one 9 (by omega)]; rfl
  rw [if_neg h5]
  exact str_self m h1 h2
theorem put_put (o o' : List UInt8) (n n' : Nat) (x : List UInt8 × Nat × Nat) : put o n (put o' n' x) = put (o ++ o') (n + n') x := by
  unfold put
  by_cases h : x.2.2 = 0
  · rw [if_pos h, if_pos h, if_pos h, List.append_assoc, Nat.add_assoc]
  · rw [if_neg h, if_neg h, if_neg h, Nat.add_assoc]
theorem str_qs : ∀ (l m : List UInt8), str (qs l ++ m) = put l (qs l).length (str m)
  | [], m => by
    show str m = put [] 0 (str m)
    unfold put
    by_cases h : (str m).2.2 = 0
    · rw [if_pos h]; simp
    · rw [if_neg h, Nat.zero_add]
      have : (str m).1 = [] := by
        have key : ∀ (n : Nat) (l : List UInt8), l.length = n → (str l).2.2 ≠ 0 → (str l).1 = [] := by
          intro n
          induction n using Nat.strongRecOn with
          | _ n ih =>
            intro l hl hne
            rcases l with _ | ⟨b, r⟩
            · rfl
            · by_cases h1 : b = 34
              · subst h1; rw [str_end]
              · by_cases h2 : b = 92
                · subst h2
                  cases he : escN r with
                  | none => rw [str_wrong he]
                  | some x =>
                    obtain ⟨c, k⟩ := x
                    rw [str_esc he] at hne ⊢
                    unfold put at hne ⊢
                    simp only at hne ⊢
                    rw [if_neg hne]
                · rw [str_self r h1 h2] at hne ⊢
                  unfold put at hne ⊢
                  simp only at hne ⊢
                  rw [if_neg hne]
        exact key _ m rfl h
      rw [← this]
  | b :: r, m => by
    rw [qs_cons, List.append_assoc, str_qb, str_qs r m, put_put, List.length_append]
    rfl
/-- A text in quotes tells that text. -/
theorem str_quote (l m : List UInt8) : str (qs l ++ 34 :: m) = (l, (qs l).length + 1, 0) := by
  rw [str_qs, str_end]
  unfold put
  simp
/-! ### Signs -/
def singles : List UInt8 := [43, 45, 42, 47, 60, 62, 61, 40, 41, 91, 93, 123, 125, 44, 58, 46]
def pairs : List (UInt8 × UInt8) := [(42, 42), (60, 61), (62, 61), (33, 61), (46, 46)]
/-- How many bytes of a sign begin there. -/
def signN : List UInt8 → Nat
  | [] => 0
  | [a] => if singles.contains a then 1 else 0
  | a :: b :: _ => if pairs.contains (a, b) then 2 else if singles.contains a then 1 else 0
theorem signN_le (l : List UInt8) : signN l ≤ l.length := by
  unfold signN
  split
  · exact Nat.le_refl _
  · split <;> simp
  · split
    · simp
    · split <;> simp
theorem pairs_blank (a : UInt8) : pairs.contains (a, 32) = false := by
  rw [List.contains_eq_any_beq, List.any_eq_false]
  intro p hp
  have h : ∀ q ∈ pairs, q.2 ≠ 32 := by decide
  intro e
  have := beq_iff_eq.1 e
  exact h p hp (by rw [← this])
theorem signN_blank (l m : List UInt8) (h : l ≠ []) : signN (l ++ 32 :: m) = signN l := by
  match l, h with
  | [a], _ =>
    show (if pairs.contains (a, 32) then 2 else if singles.contains a then 1 else 0) = _
    rw [pairs_blank]; rfl
  | a :: b :: r, _ => rfl
end Go.Proofs.YtkmdclfkmmlloaaGreatDoor.Fl
namespace Go.Proofs.YtkmdclfkmmlloaaGreatDoor.Fl
open Go Go.Proofs.YtkmdclfkmmlloaaGreatDoor Go.Proofs.YtkmdclfkmmlloaaGreatDoor.Utf Go.Proofs.YtkmdclfkmmlloaaGreatDoor.Names Go.Proofs.YtkmdclfkmmlloaaGreatDoor.Ent

/-- A token: its kind, its place, its text. -/
structure Lx where
  kind : Nat
  place : Nat
  s : List UInt8
deriving DecidableEq
/-- What begins at a place: a token of n bytes; or an error, how far behind. -/
inductive One where
  | tok (k : Nat) (s : List UInt8) (n : Nat)
  | bad (p e : Nat)
def quoted (r : List UInt8) : One := if (str r).2.2 = 0 then .tok 3 (str r).1 (1 + (str r).2.1) else .bad (1 + (str r).2.1) (str r).2.2
def one (l : List UInt8) : One :=
  if 0 < wordN l then .tok (if keyB (l.take (wordN l)) = true then 1 else 0) (l.take (wordN l)) (wordN l)
  else if numB l = true then .tok 2 (l.take (numN l)) (numN l)
  else if l.head? = some 34 then quoted (l.drop 1)
  else if signN l = 0 then .bad 0 11 else .tok 4 (l.take (signN l)) (signN l)
theorem one_pos {l : List UInt8} {k n : Nat} {s : List UInt8} (h : one l = .tok k s n) : 1 ≤ n ∧ n ≤ l.length := by
  unfold one at h
  split at h
  · rename_i c; injection h with _ _ h; have := wordN_le l; omega
  · split at h
    · rename_i c; injection h with _ _ h; have := numN_le l; have := numB_pos c; omega
    · split at h
      · rename_i c
        unfold quoted at h
        split at h
        · injection h with _ _ h
          have := (str_facts _ (l.drop 1) rfl).1
          have hl : 0 < l.length := by
            rcases l with _ | ⟨b, r⟩
            · cases c
            · simp
          rw [List.length_drop] at this; omega
        · cases h
      · split at h
        · cases h
        · injection h with _ _ h; have := signN_le l; omega

def lexF : Nat → Nat → List UInt8 → Except (Nat × Nat) (List Lx)
  | 0, pos, _ => .ok [⟨5, pos, []⟩]
  | _ + 1, pos, [] => .ok [⟨5, pos, []⟩]
  | f + 1, pos, b :: r => if Utf.space (b.toNat : Int) = true then lexF f (pos + 1) r else
      match one (b :: r) with
      | .bad p e => .error (pos + p, e)
      | .tok k s n => match lexF f (pos + n) ((b :: r).drop n) with
        | .ok ts => .ok (⟨k, pos, s⟩ :: ts)
        | .error x => .error x
/-- The tokens from a place on. -/
def lexp (pos : Nat) (l : List UInt8) : Except (Nat × Nat) (List Lx) := lexF l.length pos l
theorem lexF_eq : ∀ (f g pos : Nat) (l : List UInt8), l.length ≤ f → l.length ≤ g → lexF f pos l = lexF g pos l
  | 0, 0, _, _, _, _ => rfl
  | 0, g + 1, _, l, h, _ => by
    have : l = [] := List.eq_nil_of_length_eq_zero (by omega)
    subst this; rfl
  | f + 1, 0, _, l, _, h => by
    have : l = [] := List.eq_nil_of_length_eq_zero (by omega)
    subst this; rfl
  | f + 1, g + 1, _, [], _, _ => rfl
  | f + 1, g + 1, pos, b :: r, h, k => by
    have h' : r.length ≤ f := by simpa using h
    have k' : r.length ≤ g := by simpa using k
    unfold lexF
    split
    · exact lexF_eq f g _ r h' k'
    · cases he : one (b :: r) with
      | bad p e => rfl
      | tok kk s n =>
        have hn := one_pos he
        simp only
        rw [lexF_eq f g (pos + n) ((b :: r).drop n) (by rw [List.length_drop, List.length_cons]; omega) (by rw [List.length_drop, List.length_cons]; omega)]
theorem lexp_nil (pos : Nat) : lexp pos [] = .ok [⟨5, pos, []⟩] := rfl
theorem lexp_space {b : UInt8} (h : Utf.space (b.toNat : Int) = true) (pos : Nat) (r : List UInt8) : lexp pos (b :: r) = lexp (pos + 1) r := by
  unfold lexp; rw [List.length_cons]
  conv => lhs; unfold lexF
  rw [if_pos h]
theorem lexp_bad {b : UInt8} {r : List UInt8} (h : Utf.space (b.toNat : Int) = false) {p e : Nat} (ho : one (b :: r) = .bad p e) (pos : Nat) : lexp pos (b :: r) = .error (pos + p, e) := by
  unfold lexp; rw [List.length_cons]
  unfold lexF
  rw [if_neg (by rw [h]; simp), ho]
def cons1 (t : Lx) : Except (Nat × Nat) (List Lx) → Except (Nat × Nat) (List Lx)
  | .ok ts => .ok (t :: ts)
  | .error x => .error x
theorem lexp_tok {b : UInt8} {r : List UInt8} (h : Utf.space (b.toNat : Int) = false) {k n : Nat} {s : List UInt8} (ho : one (b :: r) = .tok k s n) (pos : Nat) : lexp pos (b :: r) = cons1 ⟨k, pos, s⟩ (lexp (pos + n) ((b :: r).drop n)) := by
  have hn := one_pos ho
  unfold lexp; rw [List.length_cons]
  conv => lhs; unfold lexF
  rw [if_neg (by rw [h]; simp), ho]
  simp only
  rw [lexF_eq r.length ((b :: r).drop n).length (pos + n) _ (by rw [List.length_drop, List.length_cons]; omega) (Nat.le_refl _)]
  cases lexF ((b :: r).drop n).length (pos + n) ((b :: r).drop n) <;> rfl

/-! ### Characters' ends -/
theorem check_ascii : ∀ (n : Nat) (l : List UInt8), l.length = n → check l = l.length → ∀ (k : Nat) (hk : k < l.length), (l[k]'hk).toNat < 128 → check (l.drop (k + 1)) = (l.drop (k + 1)).length := by
  intro n
  induction n using Nat.strongRecOn with
  | _ n ih =>
    intro l hl hc k hk hb
    have hne : (rune l).2 ≠ 0 := by
      intro h0
      have := check_stop h0
      omega
    have hle := (rune_le l).1
    have hcd : check (l.drop (rune l).2) = (l.drop (rune l).2).length := by
      have := check_step hne
      rw [List.length_drop]; omega
    by_cases hkn : k < (rune l).2
    · have hnb : nth l k < 128 := by rw [← nth_get hk]; exact hb
      have hr := rune_low hne hkn hnb
      have h1 : (rune l).2 = 1 := by rw [hr]
      have hk0 : k = 0 := by omega
      subst hk0
      rw [h1] at hcd
      exact hcd
    · have h2 := ih (l.drop (rune l).2).length (by rw [List.length_drop]; omega) (l.drop (rune l).2) rfl hcd (k - (rune l).2) (by rw [List.length_drop]; omega) (by
        rw [List.getElem_drop]
        have : (rune l).2 + (k - (rune l).2) = k := by omega
        simp only [this]
        exact hb)
      rw [List.drop_drop] at h2
      have e : (rune l).2 + (k - (rune l).2 + 1) = k + 1 := by omega
      rw [e] at h2
      exact h2
theorem wordF_check : ∀ (f : Nat) (s : Bool) (l : List UInt8), check l = l.length → check (l.drop (wordF f s l)) = (l.drop (wordF f s l)).length
  | 0, _, l, h => by unfold wordF; simpa using h
  | f + 1, s, l, h => by
    unfold wordF
    split
    · rename_i c
      have hcd : check (l.drop (rune l).2) = (l.drop (rune l).2).length := by
        have := check_step c.1
        have := (rune_le l).1
        rw [List.length_drop]; omega
      have := wordF_check f false (l.drop (rune l).2) hcd
      rw [List.drop_drop] at this
      exact this
    · simpa using h
theorem digN_digit : ∀ (l : List UInt8) (k : Nat) (h : k < l.length), k < digN l → isd l[k] = true
  | [], k, h, _ => absurd h (Nat.not_lt_zero _)
  | b :: r, k, h, hk => by
    by_cases c : isd b = true
    · have e : digN (b :: r) = digN r + 1 := by rw [digN, if_pos c]
      cases k with
      | zero => exact c
      | succ k => exact digN_digit r k (by simpa using h) (by omega)
    · have e : digN (b :: r) = 0 := by rw [digN, if_neg c]
      omega
theorem isd_low {b : UInt8} (h : isd b = true) : b.toNat < 128 := by
  unfold isd at h; rw [decide_eq_true_iff] at h; omega
/-- A number's last byte is a digit. -/
theorem numN_last {l : List UInt8} (h : numB l = true) : ∃ k, k + 1 = numN l ∧ ∃ hk : k < l.length, (l[k]'hk).toNat < 128 := by
  have hp := numB_pos h
  have hle := numN_le l
  refine ⟨numN l - 1, by omega, by omega, ?_⟩
  unfold numN at hp hle ⊢
  by_cases hd : dotted (l.drop (digN l)) = true
  · simp only [hd, if_true] at hp hle ⊢
    have hx : 0 < digN (l.drop (digN l + 1)) := by
      rcases hq : l.drop (digN l) with _ | ⟨p, _ | ⟨b, r⟩⟩
      · rw [hq] at hd; cases hd
      · rw [hq] at hd; cases hd
      · rw [hq] at hd
        have hb : isd b = true := by
          unfold dotted at hd
          rw [Bool.and_eq_true] at hd
          exact hd.2
        have : l.drop (digN l + 1) = b :: r := by rw [← List.drop_drop, hq]; rfl
        rw [this, digN, if_pos hb]; omega
    have hk2 : digN l + 1 + digN (l.drop (digN l + 1)) - 1 = digN l + 1 + (digN (l.drop (digN l + 1)) - 1) := by omega
    have hlt : digN (l.drop (digN l + 1)) - 1 < (l.drop (digN l + 1)).length := by have := digN_le (l.drop (digN l + 1)); omega
    have := digN_digit (l.drop (digN l + 1)) (digN (l.drop (digN l + 1)) - 1) hlt (by omega)
    rw [List.getElem_drop] at this
    simp only [hk2]
    exact isd_low this
  · simp only [hd] at hp hle ⊢
    exact isd_low (digN_digit l (digN l - 1) (by have := digN_le l; simp at hp; omega) (by simp at hp; omega))
/-- A text in quotes ends with a quote. -/
theorem str_last : ∀ (n : Nat) (l : List UInt8), l.length = n → (str l).2.2 = 0 → ∃ k, k + 1 = (str l).2.1 ∧ ∃ hk : k < l.length, l[k]'hk = 34 := by
  intro n
  induction n using Nat.strongRecOn with
  | _ n ih =>
    intro l hl h
    rcases l with _ | ⟨b, r⟩
    · rw [str_nil] at h; cases h
    · simp only [List.length_cons] at hl
      by_cases h1 : b = 34
      · subst h1; rw [str_end]; exact ⟨0, rfl, by simp, rfl⟩
      · by_cases h2 : b = 92
        · subst h2
          cases he : escN r with
          | none => rw [str_wrong he] at h; cases h
          | some x =>
            obtain ⟨c, k⟩ := x
            have hk := escN_some he
            rw [str_esc he, (put_place _ _ _).2] at h
            obtain ⟨j, e1, e2, e3⟩ := ih (r.drop k).length (by rw [List.length_drop]; omega) (r.drop k) rfl h
            rw [List.length_drop] at e2
            refine ⟨1 + k + j, by rw [str_esc he, (put_place _ _ _).1]; omega, by rw [List.length_cons]; omega, ?_⟩
            rw [List.getElem_drop] at e3
            have : 1 + k + j = (k + j) + 1 := by omega
            simp only [this, List.getElem_cons_succ]
            exact e3
        · rw [str_self r h1 h2, (put_place _ _ _).2] at h
          obtain ⟨j, e1, e2, e3⟩ := ih r.length (by omega) r rfl h
          refine ⟨1 + j, by rw [str_self r h1 h2, (put_place _ _ _).1]; omega, by rw [List.length_cons]; omega, ?_⟩
          have : 1 + j = j + 1 := by omega
          simp only [this, List.getElem_cons_succ]
          exact e3
theorem single_low {b : UInt8} (h : singles.contains b = true) : b.toNat < 128 := by
  have key : ∀ x ∈ singles, x.toNat < 128 := by decide
  exact key b (List.contains_iff_mem.1 h)
theorem pair_low {a b : UInt8} (h : pairs.contains (a, b) = true) : b.toNat < 128 := by
  have key : ∀ x ∈ pairs, x.2.toNat < 128 := by decide
  exact key (a, b) (List.contains_iff_mem.1 h)
theorem sign_1 (a : UInt8) : signN [a] = if singles.contains a = true then 1 else 0 := rfl
theorem sign_2 (a b : UInt8) (r : List UInt8) : signN (a :: b :: r) = if pairs.contains (a, b) = true then 2 else if singles.contains a = true then 1 else 0 := rfl
theorem sign_last {l : List UInt8} (h : signN l ≠ 0) : ∃ k, k + 1 = signN l ∧ ∃ hk : k < l.length, (l[k]'hk).toNat < 128 := by
  match l, h with
  | [], h => exact absurd rfl h
  | [a], h =>
    rw [sign_1] at h ⊢
    by_cases c : singles.contains a = true
    · rw [if_pos c]; exact ⟨0, rfl, by simp, single_low c⟩
    · rw [if_neg c] at h; exact absurd rfl h
  | a :: b :: r, h =>
    rw [sign_2] at h ⊢
    by_cases d : pairs.contains (a, b) = true
    · rw [if_pos d]; exact ⟨1, rfl, by simp, pair_low d⟩
    · rw [if_neg d] at h ⊢
      by_cases c : singles.contains a = true
      · rw [if_pos c]; exact ⟨0, rfl, by simp, single_low c⟩
      · rw [if_neg c] at h; exact absurd rfl h
/-- Behind a token a character begins. -/
theorem one_check {l : List UInt8} (hc : check l = l.length) {k n : Nat} {s : List UInt8} (h : one l = .tok k s n) : check (l.drop n) = (l.drop n).length := by
  have low : ∀ j, (∃ hk : j < l.length, (l[j]'hk).toNat < 128) → check (l.drop (j + 1)) = (l.drop (j + 1)).length := fun j ⟨hk, hb⟩ => check_ascii _ l rfl hc j hk hb
  unfold one at h
  split at h
  · injection h with _ _ h; rw [← h]; exact wordF_check _ _ l hc
  · split at h
    · rename_i c; injection h with _ _ h
      obtain ⟨j, e, hj⟩ := numN_last c
      rw [← h, ← e]; exact low j hj
    · split at h
      · rename_i c
        unfold quoted at h
        split at h
        · rename_i hz
          injection h with _ _ h
          obtain ⟨j, e1, e2, e3⟩ := str_last _ (l.drop 1) rfl hz
          rw [List.length_drop] at e2
          rw [List.getElem_drop] at e3
          have := low (1 + j) ⟨by omega, by rw [e3]; decide⟩
          rw [← h, ← e1]
          rw [show 1 + (j + 1) = 1 + j + 1 from by omega]
          exact this
        · cases h
      · split at h
        · cases h
        · rename_i c
          injection h with _ _ h
          obtain ⟨j, e, hj⟩ := sign_last c
          rw [← h, ← e]; exact low j hj

/-! ### A blank behind -/
theorem numB_blank (l m : List UInt8) : numB (l ++ 32 :: m) = numB l := by
  rcases l with _ | ⟨b, r⟩
  · unfold numB
    have := dotted_blank [] m
    rw [this]
    rfl
  · unfold numB
    rw [dotted_blank]
    rfl
theorem take_blank (l m : List UInt8) (k : Nat) (h : k ≤ l.length) : (l ++ 32 :: m).take k = l.take k := List.take_append_of_le_length h
/-- What stands behind a blank plays no part. -/
theorem one_blank {l : List UInt8} (hc : check l = l.length) (m : List UInt8) {k n : Nat} {s : List UInt8} (h : one l = .tok k s n) : one (l ++ 32 :: m) = .tok k s n := by
  have h0 := one_pos h
  have hne : l ≠ [] := by rintro rfl; simp at h0; omega
  obtain ⟨b, r, rfl⟩ : ∃ b r, l = b :: r := by
    rcases l with _ | ⟨b, r⟩
    · exact absurd rfl hne
    · exact ⟨b, r, rfl⟩
  unfold one at h ⊢
  rw [wordN_blank _ m hc, numB_blank, numN_blank, signN_blank _ m hne, take_blank _ m _ (wordN_le _), take_blank _ m _ (numN_le _), take_blank _ m _ (signN_le _)]
  have hh : ((b :: r) ++ 32 :: m).head? = (b :: r).head? := rfl
  have hd : ((b :: r) ++ 32 :: m).drop 1 = (b :: r).drop 1 ++ 32 :: m := rfl
  rw [hh, hd]
  split at h
  · rename_i c; rw [if_pos c]; exact h
  · rename_i c; rw [if_neg c]
    split at h
    · rename_i c2; rw [if_pos c2]; exact h
    · rename_i c2; rw [if_neg c2]
      split at h
      · rename_i c3; rw [if_pos c3]
        unfold quoted at h ⊢
        split at h
        · rename_i hz
          rw [str_blank _ _ m rfl (by rw [hz]; omega), if_pos hz]; exact h
        · cases h
      · rename_i c3; rw [if_neg c3]; exact h
def joinS (ts : List Lx) : Except (Nat × Nat) (List Lx) → Except (Nat × Nat) (List Lx)
  | .ok us => .ok (ts ++ us)
  | .error x => .error x
theorem cons_join (t : Lx) (ts : List Lx) (x : Except (Nat × Nat) (List Lx)) : cons1 t (joinS ts x) = joinS (t :: ts) x := by cases x <;> rfl
/-- Two texts with a blank between have the tokens of both. -/
theorem lexp_join : ∀ (n : Nat) (l : List UInt8), l.length = n → check l = l.length → ∀ (pos : Nat) (a : List Lx), lexp pos l = .ok a → ∃ ts, a = ts ++ [⟨5, pos + l.length, []⟩] ∧ ∀ m, lexp pos (l ++ 32 :: m) = joinS ts (lexp (pos + l.length + 1) m) := by
  intro n
  induction n using Nat.strongRecOn with
  | _ n ih =>
    intro l hl hc pos a ha
    rcases l with _ | ⟨b, r⟩
    · rw [lexp_nil] at ha
      injection ha with ha
      refine ⟨[], by rw [← ha]; rfl, fun m => ?_⟩
      show lexp pos (32 :: m) = _
      rw [lexp_space (by decide)]
      show _ = joinS [] (lexp (pos + 0 + 1) m)
      cases lexp (pos + 1) m <;> rfl
    · cases hs : Utf.space (b.toNat : Int) with
      | true =>
        have hcr : check r = r.length := by
          have hlow : b.toNat < 128 := by have := (Utf.space_iff _).1 hs; omega
          have := check_ascii _ (b :: r) rfl hc 0 (by simp) hlow
          exact this
        rw [lexp_space hs] at ha
        obtain ⟨ts, e1, e2⟩ := ih r.length (by simp at hl; omega) r rfl hcr (pos + 1) a ha
        refine ⟨ts, by rw [e1, List.length_cons]; congr 3; omega, fun m => ?_⟩
        show lexp pos (b :: (r ++ 32 :: m)) = _
        rw [lexp_space hs, e2 m, List.length_cons]
        congr 2; omega
      | false =>
        cases ho : one (b :: r) with
        | bad p e => rw [lexp_bad hs ho] at ha; cases ha
        | tok k s n =>
          have hn := one_pos ho
          rw [lexp_tok hs ho] at ha
          cases hx : lexp (pos + n) ((b :: r).drop n) with
          | error x => rw [hx] at ha; cases ha
          | ok us =>
            rw [hx] at ha
            injection ha with ha
            obtain ⟨ts, e1, e2⟩ := ih ((b :: r).drop n).length (by rw [List.length_drop]; omega) ((b :: r).drop n) rfl (one_check hc ho) (pos + n) us hx
            have hlen : pos + n + ((b :: r).drop n).length = pos + (b :: r).length := by rw [List.length_drop]; omega
            refine ⟨⟨k, pos, s⟩ :: ts, by rw [← ha, e1, hlen]; rfl, fun m => ?_⟩
            have hob := one_blank hc m ho
            have hd : ((b :: r) ++ 32 :: m).drop n = (b :: r).drop n ++ 32 :: m := drop_blank _ m n hn.2
            have hstep := lexp_tok (b := b) (r := r ++ 32 :: m) hs hob pos
            rw [show (b :: (r ++ 32 :: m)).drop n = (b :: r).drop n ++ 32 :: m from hd, e2 m, hlen, cons_join] at hstep
            exact hstep
/-- All of a text. -/
def lex (l : List UInt8) : Except (Nat × Nat) (List Lx) := if check l = l.length then lexp 0 l else .error (check l, 4)
end Go.Proofs.YtkmdclfkmmlloaaGreatDoor.Fl
namespace Go.Proofs.YtkmdclfkmmlloaaGreatDoor.Fl
open Go Go.Proofs.YtkmdclfkmmlloaaGreatDoor Go.Proofs.YtkmdclfkmmlloaaGreatDoor.Utf Go.Proofs.YtkmdclfkmmlloaaGreatDoor.Names Go.Proofs.YtkmdclfkmmlloaaGreatDoor.Ent

/-! ### Characters, one behind the other -/
theorem check_cons {b : UInt8} (r : List UInt8) (hb : b.toNat < 128) (hf : fine (b.toNat : Int) = true) : check (b :: r) = 1 + check r := by
  have := check_enc b.toNat hf r
  rw [show enc (b.toNat : Int) = [b] from by rw [enc_low hb]; simp] at this
  exact this
theorem check_low : ∀ l : List UInt8, (∀ b ∈ l, b.toNat < 128 ∧ fine (b.toNat : Int) = true) → check l = l.length
  | [], _ => rfl
  | b :: r, h => by
    rw [check_cons r (h b (List.mem_cons_self ..)).1 (h b (List.mem_cons_self ..)).2, check_low r (fun c hc => h c (List.mem_cons_of_mem _ hc)), List.length_cons]; omega
theorem check_app {l : List UInt8} (h : check l = l.length) (m : List UInt8) : check (l ++ m) = l.length + check m := by
  refine by_runes (p := fun l => check (l ++ m) = l.length + check m) ?_ ?_ l h
  · simp
  · intro c l hf hc ih
    rw [List.append_assoc, check_enc c hf, ih, List.length_append]; omega
theorem qs_app (a b : List UInt8) : qs (a ++ b) = qs a ++ qs b := by unfold qs; rw [List.flatMap_append]
theorem qs_high : ∀ l : List UInt8, (∀ b ∈ l, 128 ≤ b.toNat) → qs l = l
  | [], _ => rfl
  | b :: r, h => by
    have hb := h b (List.mem_cons_self ..)
    rw [qs_cons, qs_high r (fun c hc => h c (List.mem_cons_of_mem _ hc))]
    unfold qb
    rw [if_neg (by rintro rfl; revert hb; decide), if_neg (by rintro rfl; revert hb; decide), if_neg (by rintro rfl; revert hb; decide), if_neg (by rintro rfl; revert hb; decide), if_neg (by rintro rfl; revert hb; decide)]
    rfl
theorem check_qb {b : UInt8} (hb : b.toNat < 128) (hf : fine (b.toNat : Int) = true) (y : List UInt8) : check (qb b ++ y) = (qb b).length + check y := by
  have two : ∀ c : UInt8, c.toNat < 128 → fine (c.toNat : Int) = true → check ([92, c] ++ y) = [92, c].length + check y := by
    intro c h1 h2
    show check (92 :: c :: y) = 2 + check y
    rw [check_cons (c :: y) (by decide) (by decide), check_cons y h1 h2]; omega
  unfold qb
  split
  · exact two 34 (by decide) (by decide)
  split
  · exact two 92 (by decide) (by decide)
  split
  · exact two 110 (by decide) (by decide)
  split
  · exact two 114 (by decide) (by decide)
  split
  · exact two 116 (by decide) (by decide)
  · exact check_cons y hb hf
theorem check_qs {l : List UInt8} (h : check l = l.length) : ∀ m, check (qs l ++ m) = (qs l).length + check m := by
  refine by_runes (p := fun l => ∀ m, check (qs l ++ m) = (qs l).length + check m) ?_ ?_ l h
  · intro m
    show check ([] ++ m) = 0 + check m
    simp
  · intro c l hf hc ih m
    rw [qs_app, List.append_assoc, List.length_append]
    by_cases hlow : c < 128
    · have hb : (UInt8.ofNat c).toNat = c := by rw [UInt8.toNat_ofNat']; omega
      rw [enc_low hlow, show qs [UInt8.ofNat c] = qb (UInt8.ofNat c) from by rw [qs_cons]; show qb _ ++ [] = _; rw [List.append_nil],
        check_qb (by rw [hb]; exact hlow) (by rw [hb]; exact hf), ih m]
      omega
    · rw [qs_high _ (enc_high (by omega) hf), check_enc c hf, ih m]; omega
theorem check_quote {l : List UInt8} (h : check l = l.length) : check (quote l) = (quote l).length ∧ check (34 :: qs l) = (34 :: qs l).length := by
  have h1 := check_qs h [34]
  have h2 := check_qs h []
  rw [List.append_nil, check_nil] at h2
  rw [check_cons [] (by decide) (by decide), check_nil] at h1
  constructor
  · unfold quote
    rw [check_cons _ (by decide) (by decide), h1]; simp; omega
  · rw [check_cons _ (by decide) (by decide), h2]; simp; omega

/-! ### No token begins at a blank -/
theorem space_low {b : UInt8} (h : Utf.space (b.toNat : Int) = true) : b = 32 ∨ b = 9 ∨ b = 10 ∨ b = 13 := by
  have h1 := (Utf.space_iff _).1 h
  have : b.toNat = 32 ∨ b.toNat = 9 ∨ b.toNat = 10 ∨ b.toNat = 13 := by omega
  rcases this with h | h | h | h
  · exact .inl (UInt8.toNat_inj.1 h)
  · exact .inr (.inl (UInt8.toNat_inj.1 h))
  · exact .inr (.inr (.inl (UInt8.toNat_inj.1 h)))
  · exact .inr (.inr (.inr (UInt8.toNat_inj.1 h)))
theorem one_space {b : UInt8} {r : List UInt8} (h : Utf.space (b.toNat : Int) = true) : one (b :: r) = .bad 0 11 := by
  have hb := space_low h
  have h1 : b.toNat < 128 ∧ fine (b.toNat : Int) = true ∧ Utf.first (b.toNat : Int) = false ∧ isd b = false ∧ (b == 46) = false ∧ b ≠ 34 ∧ singles.contains b = false ∧ ∀ p ∈ pairs, p.1 ≠ b := by
    rcases hb with rfl | rfl | rfl | rfl <;> decide
  obtain ⟨a1, a2, a3, a4, a5, a6, a7, a8⟩ := h1
  unfold one
  rw [wordN_not a1 a2 a3, if_neg (by omega)]
  have hn : numB (b :: r) = false := by
    show (isd b || dotted (b :: r)) = false
    rw [a4, Bool.false_or]
    rcases r with _ | ⟨c, r⟩
    · rfl
    · show ((b == 46) && isd c) = false
      rw [a5, Bool.false_and]
  rw [if_neg (by rw [hn]; simp), if_neg (by simp [a6])]
  have hs : signN (b :: r) = 0 := by
    rcases r with _ | ⟨c, r⟩
    · rw [sign_1, a7]; rfl
    · rw [sign_2, a7]
      have : pairs.contains (b, c) = false := by
        rw [List.contains_eq_any_beq, List.any_eq_false]
        intro p hp e
        exact a8 p hp (by rw [← beq_iff_eq.1 e])
      rw [this]; rfl
  rw [if_pos hs]

/-! ### A token's text -/
theorem wordy_check {s : List UInt8} (h : wordyB s = true) : check s = s.length := by
  refine Classical.byContradiction fun hh => ?_
  have := shp_check (p := Utf.first) (q := Utf.next) hh
  unfold wordyB at h; rw [this] at h; cases h
theorem key_wordy {s : List UInt8} (h : keyB s = true) : wordyB s = true := by
  have hk : ∀ k ∈ keys, wordyB k = true := by decide +kernel
  unfold keyB at h
  rw [List.contains_iff_mem] at h
  exact hk s h
theorem wordy_ne {s : List UInt8} (h : wordyB s = true) : s ≠ [] := by
  rintro rfl; unfold wordyB at h; rw [shp_nil] at h; cases h
theorem isd_fine {b : UInt8} (h : isd b = true ∨ b = 46) : b.toNat < 128 ∧ fine (b.toNat : Int) = true ∧ Utf.first (b.toNat : Int) = false := by
  have hall : ∀ c : Fin 256, (isd (UInt8.ofNat c.val) = true ∨ UInt8.ofNat c.val = 46) → (UInt8.ofNat c.val).toNat < 128 ∧ fine ((UInt8.ofNat c.val).toNat : Int) = true ∧ Utf.first ((UInt8.ofNat c.val).toNat : Int) = false := by decide +kernel
  have := hall ⟨b.toNat, UInt8.toNat_lt b⟩
  simp only [UInt8.ofNat_toNat] at this
  exact this h
theorem num_bytes {s : List UInt8} (h : numN s = s.length) : ∀ b ∈ s, isd b = true ∨ b = 46 := by
  intro b hb
  obtain ⟨i, hi, rfl⟩ := List.mem_iff_getElem.1 hb
  have h1 := digN_le s
  by_cases hk : i < digN s
  · exact .inl (digN_digit s i hi hk)
  · unfold numN at h
    split at h
    · rename_i hd
      have hlt : digN s < s.length := by omega
      by_cases he : i = digN s
      · subst he
        right
        have hdr : s.drop (digN s) = s[digN s] :: s.drop (digN s + 1) := List.drop_eq_getElem_cons hlt
        rw [hdr] at hd
        rcases hx : s.drop (digN s + 1) with _ | ⟨c, r⟩
        · rw [hx] at hd; cases hd
        · rw [hx] at hd
          have : ((s[digN s] == 46) && isd c) = true := hd
          rw [Bool.and_eq_true] at this
          exact beq_iff_eq.1 this.1
      · left
        have h2 := digN_digit (s.drop (digN s + 1)) (i - (digN s + 1)) (by rw [List.length_drop]; omega) (by omega)
        rw [List.getElem_drop] at h2
        have : digN s + 1 + (i - (digN s + 1)) = i := by omega
        simp only [this] at h2
        exact h2
    · omega
theorem one_num {s : List UInt8} (hne : s ≠ []) (h : numN s = s.length) : one s = .tok 2 s s.length ∧ check s = s.length := by
  have hb := num_bytes h
  rcases hs : s with _ | ⟨b, r⟩
  · exact absurd hs hne
  rw [← hs]
  have hf := isd_fine (hb b (by rw [hs]; exact List.mem_cons_self ..))
  refine ⟨?_, check_low s fun c hc => ⟨(isd_fine (hb c hc)).1, (isd_fine (hb c hc)).2.1⟩⟩
  have hw : wordN s = 0 := by rw [hs]; exact wordN_not hf.1 hf.2.1 hf.2.2
  have hl : 0 < s.length := List.length_pos_iff.2 hne
  have hn : numB s = true := by
    by_cases hd : isd b = true
    · rw [hs]; show (isd b || dotted (b :: r)) = true; rw [hd]; rfl
    · have h0 : digN s = 0 := by rw [hs, digN, if_neg hd]
      unfold numN at h
      rw [h0, List.drop_zero] at h
      by_cases hdd : dotted s = true
      · rw [hs]; show (isd b || dotted (b :: r)) = true
        rw [← hs, hdd, Bool.or_true]
      · rw [if_neg hdd] at h; omega
  unfold one
  rw [hw, if_neg (by omega), if_pos hn, h, List.take_length]
/-! ### A text that is one token -/
theorem lexp_one {x s : List UInt8} {j : Nat} (h : one x = .tok j s x.length) (pos : Nat) : lexp pos x = .ok [⟨j, pos, s⟩, ⟨5, pos + x.length, []⟩] := by
  rcases hx : x with _ | ⟨b, r⟩
  · have := (one_pos h).1; rw [hx] at this; simp at this
  · have hs : Utf.space (b.toNat : Int) = false := by
      cases c : Utf.space (b.toNat : Int) with
      | false => rfl
      | true => rw [hx, one_space c] at h; cases h
    rw [hx] at h
    rw [lexp_tok hs h pos, List.drop_length, lexp_nil]
    rfl
/-! ### Tokens' texts, with a blank between two -/
/-- What is written so far, and whose tokens it is. -/
def Grown (s : List UInt8) (own : List (Nat × List UInt8)) : Prop :=
  check s = s.length ∧ ∃ ts : List Lx, lexp 0 s = .ok (ts ++ [⟨5, s.length, []⟩]) ∧ ts.map (fun t => (t.kind, t.s)) = own ∧ ts.Pairwise (fun a b => a.place < b.place) ∧ ∀ t ∈ ts, t.place < s.length
theorem Grown.nil : Grown [] [] := ⟨rfl, [], rfl, rfl, List.Pairwise.nil, by simp⟩
theorem Grown.first {x s : List UInt8} {j : Nat} (h : one x = .tok j s x.length) (hc : check x = x.length) : Grown x [(j, s)] := by
  refine ⟨hc, [⟨j, 0, s⟩], ?_, rfl, List.pairwise_singleton .., ?_⟩
  · rw [lexp_one h 0, Nat.zero_add]; rfl
  · intro t ht
    rw [List.mem_singleton] at ht
    subst ht
    exact (one_pos h).1
theorem Grown.more {w : List UInt8} {own : List (Nat × List UInt8)} (g : Grown w own) {x s : List UInt8} {j : Nat} (h : one x = .tok j s x.length) (hc : check x = x.length) :
    Grown (w ++ 32 :: x) (own ++ [(j, s)]) := by
  obtain ⟨hw, ts, hl, ho, hp, hlt⟩ := g
  obtain ⟨us, e1, e2⟩ := lexp_join _ w rfl hw 0 _ hl
  have eu : us = ts := by
    have := congrArg List.dropLast e1
    simpa using this.symm
  subst eu
  have hlen : (w ++ 32 :: x).length = w.length + 1 + x.length := by rw [List.length_append, List.length_cons]; omega
  refine ⟨?_, us ++ [⟨j, w.length + 1, s⟩], ?_, ?_, ?_, ?_⟩
  · rw [check_app hw, check_cons x (by decide) (by decide), hc, hlen]; omega
  · rw [e2 x, Nat.zero_add, lexp_one h (w.length + 1), hlen]
    show Except.ok (us ++ _) = _
    rw [List.append_assoc]; rfl
  · rw [List.map_append, ho]; rfl
  · rw [List.pairwise_append]
    refine ⟨hp, List.pairwise_singleton .., fun a ha b hb => ?_⟩
    rw [List.mem_singleton] at hb
    subst hb
    have := hlt a ha
    show a.place < w.length + 1
    omega
  · intro t ht
    rw [hlen]
    rcases List.mem_append.1 ht with ht | ht
    · have := hlt t ht; omega
    · rw [List.mem_singleton] at ht
      subst ht
      have := (one_pos h).1
      show w.length + 1 < _
      omega

/-! ### Two signs -/
end Go.Proofs.YtkmdclfkmmlloaaGreatDoor.Fl
