/- Plain mathematics of layer 2: names' characters, words between blanks. | Plain mathematics of layer 2, continued: pieces between blanks, character by character. | Plain mathematics of layer 2, for the statements without the document's answers: names put one behind the other. | Layer 2: contracts of shaped (at both its uses), Plain and wordy. | Layer 2: contract of Split. | Layer 2: the iterator of SplitSeq: it tells the pieces between blanks. | Layer 2: contracts of keywords (the map), Keyword and Word. | Layer 2: contracts of the document's own answers: chars, Plain. | Layer 2: contracts of the document's own answers: the keywords. | Layer 2: contract of the document's own answer to Split. | Layer 2: contracts of the document's own answers: Words, Right. | Layer 2: contracts of SplitSeq, Words and Right. -/
import Derived.Test.YtkmdclfkmmlloaaGreatDoorXbU
import Derived.Lib.ConvBytes
import Derived.Laws.AppendOwn
import Derived.Shelf.RegionOpenPlain
import Derived.Test.YtkmdclfkmmlloaaGreatDoorRange
import Derived.RangeFuncBox
import Derived.RangeFuncWrites
import Derived.Shelf.Abstract
import Derived.Shelf.AbstractIn
import Derived.Shelf.RegionOpen
import Derived.OwnWalkIn
import Derived.TacticsInMore
import Derived.LoopNIn
import Derived.LoopIn
import Derived.Test.YtkmdclfkmmlloaaGreatDoorMapLit
import Derived.Maps.Own
import Derived.Maps.OwnSet
import Derived.Test.YtkmdclfkmmlloaaGreatDoorApp
import Derived.Laws.Concat
import Derived.Maps.AppendAt
import Derived.Maps.OwnIn
set_option linter.unusedVariables false
set_option linter.unusedSimpArgs false
namespace Go.Proofs.YtkmdclfkmmlloaaGreatDoor.Names
open Go Go.Proofs.YtkmdclfkmmlloaaGreatDoor Go.Proofs.YtkmdclfkmmlloaaGreatDoor.Utf

/-- A text's characters; none, if it isn't right. -/
def charsF : Nat → List UInt8 → Option (List Nat)
  | 0, l => if l = [] then some [] else none
  | f + 1, l => if l = [] then some [] else if (rune l).2 = 0 then none else (charsF f (l.drop (rune l).2)).map ((rune l).1 :: ·)
def chars (l : List UInt8) : Option (List Nat) := charsF l.length l

theorem rune_nil : rune [] = (0, 0) := rfl
theorem charsF_eq : ∀ (f g : Nat) (l : List UInt8), l.length ≤ f → l.length ≤ g → charsF f l = charsF g l
  | 0, 0, l, _, _ => rfl
  | 0, g + 1, l, h, _ => by
    have : l = [] := List.eq_nil_of_length_eq_zero (by omega)
    subst this; simp [charsF]
  | f + 1, 0, l, _, h => by
    have : l = [] := List.eq_nil_of_length_eq_zero (by omega)
    subst this; simp [charsF]
  | f + 1, g + 1, l, h, h' => by
    unfold charsF
    split
    · rfl
    · split
      · rfl
      · rename_i hk
        have := rune_le l
        rw [charsF_eq f g (l.drop (rune l).2) (by simp; omega) (by simp; omega)]
theorem chars_nil : chars [] = some [] := rfl
theorem chars_none {l : List UInt8} (h0 : l ≠ []) (h : (rune l).2 = 0) : chars l = none := by
  unfold chars
  cases hl : l.length with
  | zero => exact absurd (List.eq_nil_of_length_eq_zero hl) h0
  | succ n => simp [charsF, h, h0]
theorem chars_step {l : List UInt8} (h : (rune l).2 ≠ 0) : chars l = (chars (l.drop (rune l).2)).map ((rune l).1 :: ·) := by
  have h1 := rune_le l
  have h0 : l ≠ [] := by rintro rfl; exact h rfl
  unfold chars
  cases hl : l.length with
  | zero => omega
  | succ n =>
    rw [charsF, if_neg h0, if_neg h]
    rw [charsF_eq n (l.drop (rune l).2).length _ (by simp; omega) (by simp)]

/-- Induction on a text by its characters. -/
theorem by_chars {p : List UInt8 → Prop} (h0 : p []) (h1 : ∀ l, l ≠ [] → (rune l).2 = 0 → p l) (h2 : ∀ l, (rune l).2 ≠ 0 → p (l.drop (rune l).2) → p l) (l : List UInt8) : p l := by
  generalize hn : l.length = n
  induction n using Nat.strongRecOn generalizing l with
  | _ n ih =>
    by_cases e : l = []
    · subst e; exact h0
    · by_cases h : (rune l).2 = 0
      · exact h1 l e h
      · have := rune_le l
        exact h2 l h (ih (l.drop (rune l).2).length (by simp; omega) _ rfl)

/-- All of them are of a kind. -/
def allq (q : Int → Bool) (l : List UInt8) : Bool := match chars l with | some cs => cs.all (fun c => q c) | none => false
/-- One character of a first kind, and any of another. -/
def shp (p q : Int → Bool) (l : List UInt8) : Bool := match chars l with | some (c :: cs) => p c && cs.all (fun c => q c) | _ => false

theorem allq_nil (q : Int → Bool) : allq q [] = true := rfl
theorem allq_bad {q : Int → Bool} {l : List UInt8} (h0 : l ≠ []) (h : (rune l).2 = 0) : allq q l = false := by unfold allq; rw [chars_none h0 h]
theorem allq_step {q : Int → Bool} {l : List UInt8} (h : (rune l).2 ≠ 0) : allq q l = (q (rune l).1 && allq q (l.drop (rune l).2)) := by
  unfold allq; rw [chars_step h]
  cases chars (l.drop (rune l).2) <;> simp
theorem shp_nil (p q : Int → Bool) : shp p q [] = false := rfl
theorem shp_bad {p q : Int → Bool} {l : List UInt8} (h : (rune l).2 = 0) : shp p q l = false := by
  by_cases h0 : l = []
  · subst h0; rfl
  · unfold shp; rw [chars_none h0 h]
theorem shp_step {p q : Int → Bool} {l : List UInt8} (h : (rune l).2 ≠ 0) : shp p q l = (p (rune l).1 && allq q (l.drop (rune l).2)) := by
  unfold shp allq; rw [chars_step h]
  cases chars (l.drop (rune l).2) <;> simp

/-- Where all characters are told the text is right. -/
theorem check_of_chars (l : List UInt8) : check l = l.length ↔ chars l ≠ none := by
  refine by_chars (p := fun l => check l = l.length ↔ chars l ≠ none) ?_ ?_ ?_ l
  · simp [chars_nil, check_nil]
  · intro l h0 h
    rw [chars_none h0 h, check_stop h]
    have : l.length ≠ 0 := fun e => h0 (List.eq_nil_of_length_eq_zero e)
    simp; omega
  · intro l h ih
    rw [chars_step h, check_step h]
    have := rune_le l
    simp only [List.length_drop] at ih
    constructor
    · intro e
      have := ih.1 (by omega)
      simpa using this
    · intro e
      have := ih.2 (by simpa using e)
      omega
theorem shp_check {p q : Int → Bool} {l : List UInt8} (h : check l ≠ l.length) : shp p q l = false := by
  have : chars l = none := Classical.not_not.1 (fun e => h ((check_of_chars l).2 e))
  unfold shp; rw [this]

def wordyB (l : List UInt8) : Bool := shp Utf.first Utf.next l

/-- The keywords. -/
def keys : List (List UInt8) :=
  [[97, 110, 100], [98, 101, 116, 119, 101, 101, 110], [101, 108, 115, 101], [101, 118, 101, 114, 121], [102, 97, 108, 115, 101], [102, 111, 114], [102, 117, 110, 99, 116, 105, 111, 110], [105, 102], [105, 110], [110, 111, 116], [110, 117, 108, 108], [111, 114], [114, 101, 116, 117, 114, 110], [115, 97, 116, 105, 115, 102, 105, 101, 115], [115, 111, 109, 101], [116, 104, 101, 110], [116, 114, 117, 101]]
def keyB (l : List UInt8) : Bool := keys.contains l
def wordB (l : List UInt8) : Bool := wordyB l && !keyB l

/-- Pieces between blanks. -/
def cutAt (x : UInt8) : List UInt8 → List (List UInt8)
  | [] => [[]]
  | c :: r => if c = x then [] :: cutAt x r else match cutAt x r with | a :: b => (c :: a) :: b | [] => [[c]]
def pieces (l : List UInt8) : List (List UInt8) := cutAt 32 l
/-- A name's words; none, if it is none. -/
def wordsO (l : List UInt8) : Option (List (List UInt8)) := if (pieces l).all wordB then some (pieces l) else none

theorem cutAt_ne (x : UInt8) (l : List UInt8) : cutAt x l ≠ [] := by
  cases l with
  | nil => simp [cutAt]
  | cons c r =>
    unfold cutAt
    split
    · simp
    · split <;> simp


/-- The first place of a byte. -/
def firstAt (c : UInt8) : List UInt8 → Option Nat
  | [] => none
  | x :: r => if x = c then some 0 else (firstAt c r).map (· + 1)
theorem firstAt_lt {c : UInt8} : ∀ {l : List UInt8} {i : Nat}, firstAt c l = some i → i < l.length
  | [], i, h => by simp [firstAt] at h
  | x :: r, i, h => by
    unfold firstAt at h
    split at h
    · cases h; simp
    · cases hr : firstAt c r with
      | none => rw [hr] at h; simp at h
      | some j => rw [hr] at h; simp at h; have := firstAt_lt hr; simp; omega
theorem cutAt_none {c : UInt8} : ∀ {l : List UInt8}, firstAt c l = none → cutAt c l = [l]
  | [], _ => rfl
  | x :: r, h => by
    unfold firstAt at h
    split at h
    · cases h
    · rename_i e
      unfold cutAt
      rw [if_neg e, cutAt_none (by simpa using h)]
theorem cutAt_some {c : UInt8} : ∀ {l : List UInt8} {i : Nat}, firstAt c l = some i → cutAt c l = l.take i :: cutAt c (l.drop (i + 1))
  | [], i, h => by simp [firstAt] at h
  | x :: r, i, h => by
    unfold firstAt at h
    split at h
    · rename_i e
      cases h
      simp [cutAt, e]
    · rename_i e
      cases hr : firstAt c r with
      | none => rw [hr] at h; simp at h
      | some j =>
        rw [hr] at h; simp at h
        subst h
        rw [show cutAt c (x :: r) = if x = c then [] :: cutAt c r else match cutAt c r with | a :: b => (x :: a) :: b | [] => [[x]] from rfl, if_neg e, cutAt_some hr]
        simp

/-- Ahead of pos the characters are cs. -/
def Got (l : List UInt8) (pos : Nat) (cs : List Nat) : Prop := pos ≤ l.length ∧ cs.length ≤ pos ∧ chars l = (chars (l.drop pos)).map (cs ++ ·)
theorem Got.start (l : List UInt8) : Got l 0 [] := ⟨by omega, by simp, by rw [List.drop_zero]; cases chars l <;> simp⟩
theorem Got.stop {l : List UInt8} {pos : Nat} {cs : List Nat} (h : Got l pos cs) (hp : pos < l.length) (hr : (rune (l.drop pos)).2 = 0) : chars l = none := by
  rw [h.2.2, chars_none (fun e => by have := congrArg List.length e; simp at this; omega) hr]; rfl
theorem Got.next {l : List UInt8} {pos : Nat} {cs : List Nat} (h : Got l pos cs) (hr : (rune (l.drop pos)).2 ≠ 0) : Got l (pos + (rune (l.drop pos)).2) (cs ++ [(rune (l.drop pos)).1]) := by
  have h1 := rune_le (l.drop pos)
  obtain ⟨h2, h3, h4⟩ := h
  simp only [List.length_drop] at h1
  refine ⟨by omega, by simp; omega, ?_⟩
  rw [h4, chars_step hr, List.drop_drop]
  cases chars (l.drop (pos + (rune (l.drop pos)).2)) <;> simp
theorem Got.done {l : List UInt8} {pos : Nat} {cs : List Nat} (h : Got l pos cs) (hp : ¬ pos < l.length) : chars l = some cs := by
  rw [h.2.2, List.drop_of_length_le (by omega), chars_nil]; simp
theorem chars_len : ∀ (l : List UInt8) (cs : List Nat), chars l = some cs → cs.length ≤ l.length := by
  intro l
  refine by_chars (p := fun l => ∀ cs, chars l = some cs → cs.length ≤ l.length) ?_ ?_ ?_ l
  · intro cs h; rw [chars_nil] at h; cases h; simp
  · intro l h0 h cs hc; rw [chars_none h0 h] at hc; cases hc
  · intro l h ih cs hc
    have h1 := rune_le l
    rw [chars_step h] at hc
    cases hd : chars (l.drop (rune l).2) with
    | none => rw [hd] at hc; cases hc
    | some ds =>
      rw [hd] at hc; cases hc
      have := ih ds hd
      simp at this ⊢; omega

end Go.Proofs.YtkmdclfkmmlloaaGreatDoor.Names
namespace Go.Proofs.YtkmdclfkmmlloaaGreatDoor.Names
open Go Go.Proofs.YtkmdclfkmmlloaaGreatDoor Go.Proofs.YtkmdclfkmmlloaaGreatDoor.Utf

theorem cutAt_cons (c a : UInt8) (r : List UInt8) : cutAt c (a :: r) = if a = c then [] :: cutAt c r else match cutAt c r with | p :: b => (a :: p) :: b | [] => [[a]] := rfl
theorem cutAt_snoc_same (c : UInt8) : ∀ m : List UInt8, cutAt c (m ++ [c]) = cutAt c m ++ [[]]
  | [] => by simp [cutAt]
  | a :: r => by
    have ih := cutAt_snoc_same c r
    rw [List.cons_append, cutAt_cons, cutAt_cons, ih]
    by_cases h : a = c
    · rw [if_pos h, if_pos h]; rfl
    · rw [if_neg h, if_neg h]
      cases hr : cutAt c r with
      | nil => exact absurd hr (cutAt_ne c r)
      | cons p b => rfl
theorem cutAt_snoc_other (c x : UInt8) (hx : x ≠ c) : ∀ (m : List UInt8) (ini : List (List UInt8)) (la : List UInt8), cutAt c m = ini ++ [la] → cutAt c (m ++ [x]) = ini ++ [la ++ [x]]
  | [], ini, la, h => by
    cases ini with
    | nil =>
      have e : la = [] := by simp [cutAt] at h; exact h
      subst e
      simp [cutAt, hx]
    | cons p q =>
      have := congrArg List.length h
      simp [cutAt] at this
  | a :: r, ini, la, h => by
    rw [List.cons_append, cutAt_cons]
    rw [cutAt_cons] at h
    by_cases e : a = c
    · rw [if_pos e] at h ⊢
      cases ini with
      | nil =>
        simp only [List.nil_append, List.cons.injEq] at h
        exact absurd h.2 (cutAt_ne c r)
      | cons p q =>
        simp only [List.cons_append, List.cons.injEq] at h
        rw [cutAt_snoc_other c x hx r q la h.2, ← h.1]; rfl
    · rw [if_neg e] at h ⊢
      cases hr : cutAt c r with
      | nil => exact absurd hr (cutAt_ne c r)
      | cons p b =>
        rw [hr] at h
        simp only at h
        cases ini with
        | nil =>
          simp only [List.nil_append, List.cons.injEq] at h
          obtain ⟨rfl, rfl⟩ := h
          rw [cutAt_snoc_other c x hx r [] p (by rw [hr]; rfl)]
          rfl
        | cons p' q =>
          simp only [List.cons_append, List.cons.injEq] at h
          obtain ⟨rfl, rfl⟩ := h
          rw [cutAt_snoc_other c x hx r (p :: q) la (by rw [hr]; rfl)]
          rfl
theorem cutAt_length (c : UInt8) : ∀ m : List UInt8, (cutAt c m).length ≤ m.length + 1
  | [] => by simp [cutAt]
  | a :: r => by
    have ih := cutAt_length c r
    rw [cutAt_cons]
    split
    · simp; omega
    · cases hr : cutAt c r with
      | nil => simp
      | cons p b => rw [hr] at ih; simp at ih ⊢; omega
theorem cutAt_piece (c : UInt8) : ∀ (m : List UInt8) (p : List UInt8), p ∈ cutAt c m → p.length ≤ m.length
  | [], p, h => by simp [cutAt] at h; simp [h]
  | a :: r, p, h => by
    rw [cutAt_cons] at h
    split at h
    · rcases List.mem_cons.1 h with rfl | h
      · simp
      · have := cutAt_piece c r p h; simp; omega
    · cases hr : cutAt c r with
      | nil => rw [hr] at h; simp at h; simp [h]
      | cons q b =>
        rw [hr] at h
        simp only at h
        rcases List.mem_cons.1 h with rfl | h
        · have := cutAt_piece c r q (by rw [hr]; simp); simp; omega
        · have := cutAt_piece c r p (by rw [hr]; simp [h]); simp; omega
theorem last_split (ps : List (List UInt8)) (h : ps ≠ []) : ∃ ini la, ps = ini ++ [la] := ⟨ps.dropLast, ps.getLast h, (List.dropLast_concat_getLast h).symm⟩
theorem set_last (ini : List (List UInt8)) (la lb : List UInt8) : strsOf (ini ++ [lb]) = (strsOf (ini ++ [la])).set ini.length (.string (text lb)) := by
  simp [strsOf]
theorem text_append (a b : List UInt8) : text a ++ text b = text (a ++ b) := by
  have h : (text a ++ text b).data.toList = (text (a ++ b)).data.toList := by
    rw [text_data, ByteArray.data_append]
    simp [text]
  generalize text a ++ text b = x at *
  generalize text (a ++ b) = y at *
  obtain ⟨⟨x⟩⟩ := x
  obtain ⟨⟨y⟩⟩ := y
  simp only at h
  rw [h]
theorem text_one (l : List UInt8) (k : Nat) (hk : k < l.length) : (text l).extract k (k + 1) = text [l[k]] := by
  rw [text_cut, Nat.add_sub_cancel_left]
  congr 1
  rw [List.drop_eq_getElem_cons hk]; rfl
end Go.Proofs.YtkmdclfkmmlloaaGreatDoor.Names
namespace Go.Proofs.YtkmdclfkmmlloaaGreatDoor.Utf
open Go Go.Proofs.YtkmdclfkmmlloaaGreatDoor
set_option maxRecDepth 100000


theorem chk_fst {x j : Nat} (h : (chk x j).2 ≠ 0) : chk x j = (x, j) := by
  rcases chk_cases x j with e | ⟨e, _⟩
  · rw [e] at h; exact absurd rfl h
  · exact e
/-- A byte below 128 is a character of its own. -/
theorem runeN_low (n b0 b1 b2 b3 : Nat) (h : (runeN n b0 b1 b2 b3).2 ≠ 0) (hl : b0 < 128 ∨ (1 < (runeN n b0 b1 b2 b3).2 ∧ b1 < 128) ∨ (2 < (runeN n b0 b1 b2 b3).2 ∧ b2 < 128) ∨ (3 < (runeN n b0 b1 b2 b3).2 ∧ b3 < 128)) : runeN n b0 b1 b2 b3 = (b0, 1) := by
  unfold runeN at h hl ⊢
  by_cases e : n = 0
  · rw [if_pos e] at h; exact absurd rfl h
  rw [if_neg e] at h hl ⊢
  by_cases e0 : b0 < 128
  · rw [if_pos e0] at h hl ⊢
    exact chk_fst h
  rw [if_neg e0] at h hl ⊢
  by_cases e1 : b0 < 192
  · rw [if_pos e1] at h; exact absurd rfl h
  rw [if_neg e1] at h hl ⊢
  by_cases e2 : b0 < 224
  · rw [if_pos e2] at h hl ⊢
    by_cases c : 2 ≤ n ∧ b1 / 64 = 2
    · rw [if_pos c] at h hl ⊢
      rw [chk_fst h] at hl
      simp only at hl; omega
    · rw [if_neg c] at h; exact absurd rfl h
  rw [if_neg e2] at h hl ⊢
  by_cases e3 : b0 < 240
  · rw [if_pos e3] at h hl ⊢
    by_cases c : 3 ≤ n ∧ b1 / 64 = 2 ∧ b2 / 64 = 2
    · rw [if_pos c] at h hl ⊢
      rw [chk_fst h] at hl
      simp only at hl; omega
    · rw [if_neg c] at h; exact absurd rfl h
  rw [if_neg e3] at h hl ⊢
  by_cases e4 : b0 < 248
  · rw [if_pos e4] at h hl ⊢
    by_cases c : 4 ≤ n ∧ b1 / 64 = 2 ∧ b2 / 64 = 2 ∧ b3 / 64 = 2
    · rw [if_pos c] at h hl ⊢
      rw [chk_fst h] at hl
      simp only at hl; omega
    · rw [if_neg c] at h; exact absurd rfl h
  rw [if_neg e4] at h; exact absurd rfl h
theorem rune_low {l : List UInt8} (h : (rune l).2 ≠ 0) {j : Nat} (hj : j < (rune l).2) (hb : nth l j < 128) : rune l = (nth l 0, 1) := by
  have h4 := (rune_le l).2
  unfold rune at h hj h4 ⊢
  refine runeN_low _ _ _ _ _ h ?_
  rcases (by omega : j = 0 ∨ j = 1 ∨ j = 2 ∨ j = 3) with rfl | rfl | rfl | rfl
  · exact .inl hb
  · exact .inr (.inl ⟨hj, hb⟩)
  · exact .inr (.inr (.inl ⟨hj, hb⟩))
  · exact .inr (.inr (.inr ⟨hj, hb⟩))
end Go.Proofs.YtkmdclfkmmlloaaGreatDoor.Utf

namespace Go.Proofs.YtkmdclfkmmlloaaGreatDoor.Names
open Go Go.Proofs.YtkmdclfkmmlloaaGreatDoor Go.Proofs.YtkmdclfkmmlloaaGreatDoor.Utf
set_option maxRecDepth 100000

theorem rune_append {a : List UInt8} (b : List UInt8) (h : (rune a).2 ≠ 0) : rune (a ++ b) = rune a := by
  have h1 := rune_le a
  exact rune_own a (a ++ b) _ rfl h (by simp; omega) (fun i hi => nth_append_left a b i (by omega))
theorem drop_append_le (a b : List UInt8) (k : Nat) (h : k ≤ a.length) : (a ++ b).drop k = a.drop k ++ b := by
  rw [List.drop_append_of_le_length h]
theorem word_wordy {l : List UInt8} (h : wordB l = true) : wordyB l = true := by unfold wordB at h; rw [Bool.and_eq_true] at h; exact h.1

/-- Words with a blank between two. -/
def joined : List (List UInt8) → List UInt8
  | [] => []
  | [a] => a
  | a :: b :: r => a ++ 32 :: joined (b :: r)
theorem joined_cut : ∀ l : List UInt8, joined (pieces l) = l
  | [] => rfl
  | a :: r => by
    have ih := joined_cut r
    unfold pieces at ih ⊢
    rw [cutAt_cons]
    cases hr : cutAt 32 r with
    | nil => exact absurd hr (cutAt_ne 32 r)
    | cons p b =>
      rw [hr] at ih
      by_cases h : a = 32
      · rw [if_pos h]
        simp only [joined, List.nil_append]
        rw [ih, h]
      · rw [if_neg h]
        cases b with
        | nil => simp only [joined] at ih ⊢; rw [ih]
        | cons q c => simp only [joined] at ih ⊢; rw [← ih]; rfl
end Go.Proofs.YtkmdclfkmmlloaaGreatDoor.Names
namespace Go.Proofs.YtkmdclfkmmlloaaGreatDoor.Names
open Go Go.Proofs.YtkmdclfkmmlloaaGreatDoor Go.Proofs.YtkmdclfkmmlloaaGreatDoor.Utf Go.RowKit
set_option maxRecDepth 100000

/-- A text's bytes, as a new slice. -/
theorem conv_text {P : Program} (s : ByteArray) (hs : s.size ≤ 281474976710656) (src dst e : TypeId) (h1 : P.underlying src = some .string) (h2 : P.underlying dst = some (.slice e)) (h3 : P.underlying e = some (.int .u8)) (w : World) :
    ∃ v w', (convert src dst (.string s)).run P w = .ok v w' ∧ Bytes w' v s.data.toList ∧ Below w.heap.size w w' := by
  have hlen : s.data.toList.length = s.size := (Lib.size_eq s).symm
  refine ⟨_, _, Lib.run_convert_string_bytes w src dst e s h1 h2 h3, ?_, (Below.refl _ w).grown (row := none) ⟨rfl, rfl, rfl, by rw [Lib.bytesWorld_size]; omega, fun k hk _ => Lib.bytesWorld_at_old w e s k hk⟩ (Nat.le_refl _) (by simp)⟩
  unfold Bytes
  rw [hlen]
  refine ⟨⟨_, _, rfl, grownCap_ge _ _ _ _, grownCap_le_maxLen _ _ _ _ (by unfold maxLen; omega), hs, (fun e => by cases e), fun _ => ⟨w.heap.size, 0, rfl, fun j u hj => ?_⟩⟩, by rw [cellsOf_length, hlen]; omega⟩
  have hj2 : j < s.size := by
    have := (List.getElem?_eq_some_iff.1 hj).1
    rw [cellsOf_length, hlen] at this; exact this
  rw [Nat.zero_add, Lib.bytesWorld_cell w e s j hj2]
  simp only [cellsOf, List.getElem?_map] at hj
  have hj3 : j < s.data.toList.length := by rw [hlen]; exact hj2
  rw [List.getElem?_eq_getElem hj3] at hj
  simp only [Option.map_some, Option.some.injEq] at hj
  rw [← hj, List.getD_eq_getElem?_getD, List.getElem?_eq_getElem hj3]
  rfl

/-- Ahead of pos all characters are of their kinds. -/
def Seen (p q : Int → Bool) (l : List UInt8) (pos : Nat) : Prop :=
  pos ≤ l.length ∧ check (l.drop pos) = (l.drop pos).length ∧ (pos = 0 → True) ∧ (0 < pos → shp p q l = allq q (l.drop pos))
theorem Seen.start {p q : Int → Bool} {l : List UInt8} (h : check l = l.length) : Seen p q l 0 := ⟨by omega, by simpa using h, fun _ => trivial, fun h => by omega⟩
/-- What is asked of the character at a place. -/
def kind (p q : Int → Bool) (pos : Nat) (c : Int) : Bool := if pos = 0 then p c else q c
theorem Seen.step {p q : Int → Bool} {l : List UInt8} {pos : Nat} (h : Seen p q l pos) (hp : pos < l.length) :
    (rune (l.drop pos)).2 ≠ 0 ∧ (kind p q pos (rune (l.drop pos)).1 = false → shp p q l = false) ∧ (kind p q pos (rune (l.drop pos)).1 = true → Seen p q l (pos + (rune (l.drop pos)).2)) := by
  obtain ⟨h1, h2, _, h4⟩ := h
  have hr := rune_le (l.drop pos)
  have hne : (rune (l.drop pos)).2 ≠ 0 := by
    intro e
    rw [check_stop e] at h2
    simp at h2; omega
  have hck : check (l.drop (pos + (rune (l.drop pos)).2)) = (l.drop (pos + (rune (l.drop pos)).2)).length := by
    rw [check_step hne, List.drop_drop] at h2
    simp only [List.length_drop] at h2 hr ⊢
    omega
  have hle : pos + (rune (l.drop pos)).2 ≤ l.length := by simp only [List.length_drop] at hr; omega
  refine ⟨hne, fun hk => ?_, fun hk => ⟨hle, hck, fun _ => trivial, fun _ => ?_⟩⟩
  · unfold kind at hk
    by_cases e : pos = 0
    · subst e
      rw [if_pos rfl] at hk
      rw [List.drop_zero] at hk hne
      rw [shp_step hne, hk, Bool.false_and]
    · rw [if_neg e] at hk
      rw [h4 (by omega), allq_step hne, hk, Bool.false_and]
  · unfold kind at hk
    by_cases e : pos = 0
    · subst e
      rw [if_pos rfl] at hk
      rw [List.drop_zero] at hk hne ⊢
      rw [shp_step hne, hk, Bool.true_and, Nat.zero_add]
    · rw [if_neg e] at hk
      rw [h4 (by omega), allq_step hne, hk, Bool.true_and, List.drop_drop]
theorem Seen.done {p q : Int → Bool} {l : List UInt8} {pos : Nat} (h : Seen p q l pos) (hp : ¬ pos < l.length) : shp p q l = !l.isEmpty := by
  obtain ⟨h1, h2, _, h4⟩ := h
  by_cases e : pos = 0
  · have : l = [] := List.eq_nil_of_length_eq_zero (by omega)
    subst this; rfl
  · rw [h4 (by omega), List.drop_of_length_le (by omega), allq_nil]
    cases l with
    | nil => simp at h1; omega
    | cons a b => rfl

/-- The language's reading where all is right. -/
theorem decode_right {l : List UInt8} {pos : Nat} (hp : pos < l.length) (h : (rune (l.drop pos)).2 ≠ 0) : Utf8.decode (text l) pos = rune (l.drop pos) := by
  rcases decode_rune l pos hp with ⟨z, _⟩ | ⟨_, _, e⟩
  · exact absurd z h
  · exact e

theorem text_list (l : List UInt8) : (text l).toList = l := by rw [Lib.toList_data, text_data]
set_option maxHeartbeats 2000000 in
theorem shaped_word (l : List UInt8) (hl : l.length ≤ 281474976710656) (w : World) :
    Calls Tryz.prog 210 #[.string (text l), .func (.func 37) #[] #[], .func (.func 40) #[] #[]] w fun e w' => e = .returned (.bool (shp Utf.first Utf.next l)) ∧ Below w.heap.size w w' := by
  obtain ⟨v, w1, hcv, hv, hb1⟩ := conv_text (P := Tryz.prog) (text l) (by rw [text_size]; exact hl) 9 53 5 under9 underB under8 w
  rw [text_data] at hv
  have hck := Check_any v l w1 hv
  have HC := hid hck
  have HB := hid hb1
  have ef : ∀ args w, (callFunc 37 args).run Tryz.prog w = .ok (.enter 37 args) w := enters_of Tryz.func37 (by kernel_rfl) rfl
  have es : ∀ args w, (callFunc 40 args).run Tryz.prog w = .ok (.enter 40 args) w := enters_of Tryz.func40 (by kernel_rfl) rfl
  clear hck hv hb1
  by_cases hc : check l = l.length
  · have he := checkE_ok hc
    rw [he] at HC
    have HS := hid (Seen.start (p := Utf.first) (q := Utf.next) hc)
    clear he hc
    go_enter Tryz.func210, Tryz.ntmps210
    go_wp2_with (go_at_call 25; refine HC.out.mono ?_; rintro e w2 ⟨rfl, hb2⟩)
    have hb2' : Below w.heap.size w w2 := bt HB.out hb2
    clear hb2 hcv
    go_loopw [9] (fun _ w' => ∃ pos : Nat, w' = w2.iter (text l) pos ∧ Seen Utf.first Utf.next l pos) (fun _ w' => l.length - w'.iterPos w2.heap.size)
    case atStart => exact ⟨0, rfl, HS.out⟩
    case round =>
      obtain ⟨pos, rfl, hu⟩ := hrel
      have HB2 := hid hb2'
      clear hb2'
      by_cases hp : pos < l.length
      · have hps : pos < (text l).size := by rw [text_size]; exact hp
        have hnx : ∀ ty, (Instr.next (.pointer (some ⟨w2.heap.size, 0, none⟩)) true ty).run Tryz.prog (w2.iter (text l) pos) = _ := fun ty => run_next_any w2 (text l) pos ty hps
        obtain ⟨hne, hno, hyes⟩ := hu.step hp
        have hd := decode_right hp hne
        rw [hd] at hnx
        have hrs := rune_some (l := l.drop pos) (c := (rune (l.drop pos)).1) (k := (rune (l.drop pos)).2) rfl hne
        have hc3 := (Utf.nfine_iff _).1 hrs.1
        have hk1 := hrs.2.2.2.1
        have HNO := hid hno
        have HYES := hid hyes
        clear hno hyes hu hd hrs hne
        obtain ⟨c, k, hck⟩ : ∃ c k, rune (l.drop pos) = (c, k) := ⟨_, _, rfl⟩
        rw [hck] at hnx HNO HYES hc3 hk1
        dsimp only at hnx HNO HYES hc3 hk1
        have hc4 : c ≤ 1114111 := by omega
        have hF := fun w => First_any (c : Int) w
        have hQ := fun w => Next_any (c : Int) w
        clear hck hc3
        by_cases hz : pos = 0
        · subst hz
          have hkd : kind Utf.first Utf.next 0 c = Utf.first c := rfl
          rw [hkd] at HNO HYES
          cases hb : Utf.first c
          · rw [hb] at hF HNO
            have HF := hid hF
            clear hF hQ hkd hb
            go_wp2_with (go_at_call 37; refine (HF.out _).mono ?_; rintro e w' ⟨rfl, rfl⟩)
            go_ret
            exact ⟨by rw [HNO.out (by simp)]; rfl, (HB2.out).alloc HB2.out.size _⟩
          · rw [hb] at hF HYES
            have HF := hid hF
            clear hF hQ hkd hb
            go_wp2_with (go_at_call 37; refine (HF.out _).mono ?_; rintro e w' ⟨rfl, rfl⟩)
            go_roundw
            case rel => exact ⟨_, rfl, by have := HYES.out (by simp); rwa [Nat.zero_add] at this⟩
            case measure => simp; omega
        · have hkd : kind Utf.first Utf.next pos c = Utf.next c := by unfold kind; rw [if_neg hz]
          rw [hkd] at HNO HYES
          have hz1 : ((pos : Int) == 0) = false := by rw [beq_eq_false_iff_ne]; omega
          have hz2 : (0 : Int) < (pos : Int) := by omega
          cases hb : Utf.next c
          · rw [hb] at hQ HNO
            have HQ := hid hQ
            clear hF hQ hkd hb
            go_wp2_with (go_at_call 40; refine (HQ.out _).mono ?_; rintro e w' ⟨rfl, rfl⟩)
            go_ret
            exact ⟨by rw [HNO.out (by simp)]; rfl, (HB2.out).alloc HB2.out.size _⟩
          · rw [hb] at hQ HYES
            have HQ := hid hQ
            clear hF hQ hkd hb
            go_wp2_with (go_at_call 40; refine (HQ.out _).mono ?_; rintro e w' ⟨rfl, rfl⟩)
            go_roundw
            case rel => exact ⟨_, rfl, HYES.out (by simp)⟩
            case measure => simp; omega
      · have hps : ¬ pos < (text l).size := by rw [text_size]; exact hp
        have hnx : ∀ ty, (Instr.next (.pointer (some ⟨w2.heap.size, 0, none⟩)) true ty).run Tryz.prog (w2.iter (text l) pos) = _ := fun ty => run_next_end w2 (text l) pos ty hps
        have hd := hu.done hp
        have HD := hid hd
        clear hu hd
        go_wp2
        go_ret
        refine ⟨?_, (HB2.out).alloc HB2.out.size _⟩
        rw [HD.out]
        show Ending.returned (.bool (!(text l).toList.isEmpty)) = _
        rw [text_list]
  · have he := checkE_no hc
    rw [he] at HC
    have hsh := shp_check (p := Utf.first) (q := Utf.next) hc
    have HSH := hid hsh
    clear he hc hsh
    go_enter Tryz.func210, Tryz.ntmps210
    go_wp2_with (go_at_call 25; refine HC.out.mono ?_; rintro e w2 ⟨rfl, hb2⟩)
    go_ret
    exact ⟨by rw [HSH.out]; rfl, bt HB.out hb2⟩

theorem wordy_any (l : List UInt8) (hl : l.length ≤ 281474976710656) (w : World) :
    Calls Tryz.prog 186 #[.string (text l)] w fun e w' => e = .returned (.bool (wordyB l)) ∧ Below w.heap.size w w' := by
  have H := hid (fun w => shaped_word l hl w)
  go_enter Tryz.func186, Tryz.ntmps186
  go_wp2_with (go_at_call 210; refine (H.out _).mono ?_; rintro e w' ⟨rfl, hb⟩)
  go_ret
  exact ⟨rfl, hb⟩
end Go.Proofs.YtkmdclfkmmlloaaGreatDoor.Names
namespace Go.Proofs.YtkmdclfkmmlloaaGreatDoor.Names
open Go Go.Proofs.YtkmdclfkmmlloaaGreatDoor Go.Proofs.YtkmdclfkmmlloaaGreatDoor.Utf Go.RowKit
set_option maxRecDepth 100000

theorem indexByte_first (c : UInt8) : ∀ l : List UInt8, Lib.indexByte l c = match firstAt c l with | none => -1 | some i => (i : Int)
  | [] => rfl
  | x :: r => by
    have ih := indexByte_first c r
    unfold Lib.indexByte firstAt
    by_cases h : x = c
    · simp [h]
    · simp only [h, if_false]
      rw [ih]
      cases firstAt c r with
      | none => simp [h]
      | some i =>
        have : ((i : Int) == -1) = false := by rw [beq_eq_false_iff_ne]; omega
        simp [h, this]

/-- What Cut answers, at a text of one byte. -/
def cutV (c : UInt8) (l : List UInt8) : Value := match firstAt c l with
  | none => .tuple #[.string (text l), .string ⟨#[]⟩, .bool false]
  | some i => .tuple #[.string (text (l.take i)), .string (text (l.drop (i + 1))), .bool true]

theorem text_zero (l : List UInt8) (i : Nat) : (text l).extract 0 i = text (l.take i) := by rw [text_cut]; rfl

set_option maxHeartbeats 1000000 in
theorem liteCut_any (c : UInt8) (l : List UInt8) (hl : l.length ≤ 281474976710656) (w : World) :
    Calls Tryz.prog 200 #[.string (text l), .string ⟨#[c]⟩] w fun e w' => e = .returned (cutV c l) ∧ Below w.heap.size w w' := by
  have hi := Tryz.stringslite_Index_one (text l) c
  rw [text_data, indexByte_first] at hi
  have hsz := text_size l
  cases hf : firstAt c l with
  | none =>
    rw [hf] at hi
    have H := hid hi
    have F := hid hf
    clear hi hf
    go_enter Tryz.func200, Tryz.ntmps200
    go_wp2_with (go_at_call 215; refine (H.out _).mono ?_; rintro e w' ⟨rfl, rfl⟩)
    go_ret3
    exact ⟨by unfold cutV; rw [F.out]; rfl, b0 _⟩
  | some i =>
    rw [hf] at hi
    have hlt := firstAt_lt hf
    have H := hid hi
    have F := hid hf
    clear hi hf
    have h1 : (0 : Int) ≤ (i : Int) := by omega
    have h2 : (i : Int) ≤ ((text l).size : Int) := by omega
    have h3 : (0 : Int) ≤ (i : Int) + 1 := by omega
    have h4 : (i : Int) + 1 ≤ ((text l).size : Int) := by omega
    have HSZ := hid hsz
    clear hsz
    have mixed : Tryz.prog.follows Departure.mixedOrders = true := by kernel_rfl
    go_enter Tryz.func200, Tryz.ntmps200
    go_wp2_with (go_at_call 215; refine (H.out _).mono ?_; rintro e w' ⟨rfl, rfl⟩)
    go_region_o
    go_wp2
    go_ret3
    refine ⟨?_, ?_⟩
    · unfold cutV; rw [F.out]
      dsimp only
      rw [← text_zero, ← text_extract]
      rfl
    · exact (b0 _).drew

theorem Cut_any (c : UInt8) (l : List UInt8) (hl : l.length ≤ 281474976710656) (w : World) :
    Calls Tryz.prog 178 #[.string (text l), .string ⟨#[c]⟩] w fun e w' => e = .returned (cutV c l) ∧ Below w.heap.size w w' := by
  have hi := fun w => liteCut_any c l hl w
  unfold cutV at hi ⊢
  cases hf : firstAt c l with
  | none =>
    rw [hf] at hi
    have H := hid hi
    clear hi hf
    go_enter Tryz.func178, Tryz.ntmps178
    go_wp2_with (go_at_call 200; refine (H.out _).mono ?_; rintro e w' ⟨rfl, hb⟩)
    go_ret3
    exact ⟨rfl, hb⟩
  | some i =>
    rw [hf] at hi
    have H := hid hi
    clear hi hf
    go_enter Tryz.func178, Tryz.ntmps178
    go_wp2_with (go_at_call 200; refine (H.out _).mono ?_; rintro e w' ⟨rfl, hb⟩)
    go_ret3
    exact ⟨rfl, hb⟩

end Go.Proofs.YtkmdclfkmmlloaaGreatDoor.Names
namespace Go.Proofs.YtkmdclfkmmlloaaGreatDoor.Names
open Go Go.Proofs.YtkmdclfkmmlloaaGreatDoor Go.Proofs.YtkmdclfkmmlloaaGreatDoor.Utf Go.RowKit Go.Shelf
set_option maxRecDepth 100000
attribute [local go_sem] Oper.semAt_some

/-- The steps that the iterator takes between two rounds: it writes its own variable. -/
def Turns (b : Nat) (A B : World) : Prop := A.grownBy B (some b) ∧ ∃ v, Boxed A b 9 v
theorem Turns.others {b : Nat} {A B : World} (h : Turns b A B) : KeepsOthers A B := by
  obtain ⟨hg, v, hv⟩ := h
  refine KeepsOthers.of_grownBy hg fun j o e ho => ?_
  cases e
  rw [show A.heap[b]? = _ from hv] at ho
  cases ho
  rfl

/-- What the iterator has captured: its text, the blank, and 0. -/
structure Holds (W : World) (b : Nat) (r : List UInt8) : Prop where
  txt : Boxed W b 9 (.string (text r))
  sep : Boxed W (b + 1) 9 (.string ⟨#[32]⟩)
  sav : Boxed W (b + 2) 3 (.int .i64 0)
theorem Holds.below {W W' : World} {b B : Nat} {r : List UInt8} (h : Holds W b r) (hb : Below B W W') (hB : b + 3 ≤ B) : Holds W' b r :=
  ⟨(hb.block b (by omega)).trans h.txt, (hb.block (b + 1) (by omega)).trans h.sep, (hb.block (b + 2) (by omega)).trans h.sav⟩
theorem Holds.set {W : World} {b : Nat} {r : List UInt8} (h : Holds W b r) (r' : List UInt8) : Holds (W.setCell ⟨b, 0, none⟩ (.string (text r'))) b r' :=
  ⟨h.txt.set _, h.sep.other (by omega) _, h.sav.other (by omega) _⟩

/-- What the iterator has captured stays. -/
def Three (b : Nat) (A B : World) : Prop := ∀ j, b ≤ j → j < b + 3 → B.heap[j]? = A.heap[j]?
theorem Three.trans {b : Nat} {A B C : World} (h : Three b A B) (k : Three b B C) : Three b A C := fun j h1 h2 => (k j h1 h2).trans (h j h1 h2)
theorem Three.put {b : Nat} (W : World) (l : Nat) (o : Obj) (hl : b + 3 ≤ l) : Three b W (W.putObj l o) := fun j h1 h2 => World.putObj_heap_other (by omega)
theorem Three.below {b B : Nat} {W W' : World} (h : Below B W W') (hB : b + 3 ≤ B) : Three b W W' := fun j h1 h2 => h.block j (by omega)
theorem Holds.three {W W' : World} {b : Nat} {r : List UInt8} (h : Holds W b r) (hb : Three b W W') : Holds W' b r :=
  ⟨(hb b (by omega) (by omega)).trans h.txt, (hb (b + 1) (by omega) (by omega)).trans h.sep, (hb (b + 2) (by omega) (by omega)).trans h.sav⟩

/-- How much of the text is left. -/
def leftOf (b : Nat) (W : World) : Nat := match W.cell? ⟨b, 0, none⟩ with | some (.string s) => s.size | _ => 0
theorem Holds.left {W : World} {b : Nat} {r : List UInt8} (h : Holds W b r) : leftOf b W = r.length := by
  unfold leftOf; rw [h.txt.cell]; exact text_size r
theorem drop_head {α : Type} {xs ys : List α} {k : Nat} {x : α} (h : xs.drop k = x :: ys) : xs[k]? = some x ∧ xs.drop (k + 1) = ys := by
  constructor
  · have := congrArg (fun z => z[0]?) h
    simpa using this
  · rw [← List.drop_drop, h]; rfl

set_option maxHeartbeats 4000000 in
theorem seq_tells (n : Nat) (hn : 1 ≤ n) (b : Nat) (l : List UInt8) (hl : l.length ≤ 281474976710656) (w : World) (hw : Holds w b l) (hbs : b + 3 ≤ w.heap.size) :
    Tells Fence.wide n Tryz.prog 226 #[.pointer (some ⟨b + 1, 0, none⟩), .pointer (some ⟨b, 0, none⟩), .pointer (some ⟨b + 2, 0, none⟩)] (fun p => .string (text p)) (Turns b) (Three b) (pieces l) w := by
  intro lp J Jx W hW hJ hJx hY h0
  have hw0 : Holds W b l := hw.below hW (by omega)
  refine callsIn_of_wp Tryz.func226 rfl trivial ?_ rfl
  simp only [Tryz.ntmps226, List.size_toArray, List.length_cons, List.length_nil, Nat.reduceAdd, Nat.reduceSub, Array.replicate_succ, Array.replicate_zero, List.push_toArray, List.append_toArray, List.nil_append, List.cons_append]
  have c0 := hw0.txt.cell
  have c1 := hw0.sep.cell
  have c2 := hw0.sav.cell
  gi_wp2
  clear c0 c1 c2
  have hfn : Fence.wide.fn 228 := trivial
  gi_loopw [7] (fun _ wr => ∃ (k : Nat) (r : List UInt8), Holds wr b r ∧ J k wr ∧ r.length ≤ l.length ∧ (pieces l).drop k = pieces r) (fun _ wr => leftOf b wr)
  case atStart => exact ⟨0, l, hw0, h0, Nat.le_refl _, rfl⟩
  case round =>
    obtain ⟨k, r, hh, hj, hrl, hd⟩ := hrel
    have c0 := hh.txt.cell
    have c1 := hh.sep.cell
    have c2 := hh.sav.cell
    have cf := hh.txt.frozen
    have hi := Tryz.strings_Index_one (text r) 32 wr
    rw [text_data, indexByte_first] at hi
    have HH := hid hh
    cases hf : firstAt 32 r with
    | none =>
      rw [hf] at hi
      have hp : pieces r = [r] := cutAt_none hf
      rw [hp] at hd
      obtain ⟨hx, hnx⟩ := drop_head hd
      have hlen : (pieces l).length = k + 1 := by
        have h1 := (List.getElem?_eq_some_iff.1 hx).1
        have h2 := congrArg List.length hnx
        simp at h2; omega
      obtain ⟨fn, tmps, assign, body, hy, hR⟩ := hY k r wr hx hj
      have HI := hid hi
      have HR := hid hR
      have HL := hid hlen
      clear hi hR hlen hd hx hnx hj hf hp hh
      gi_wp2_with (gi_at_call 228; refine (callsIn_wide.2 HI.out).mono ?_; rintro e w' ⟨rfl, rfl⟩)
      refine HR.out.mono ?_
      rintro e W3 (⟨rfl, hJ3, hk3⟩ | ⟨rfl, hJx3⟩)
      · gi_wp2
        go_end0
        exact ⟨⟨_, rfl⟩, .inl (by rw [HL.out]; exact hJ3)⟩
      · gi_wp2
        go_end0
        exact ⟨⟨_, rfl⟩, .inr ⟨k + 1, by rw [HL.out]; exact Nat.le_refl _, hJx3⟩⟩
    | some i =>
      rw [hf] at hi
      have hlt := firstAt_lt hf
      have hp : pieces r = r.take i :: pieces (r.drop (i + 1)) := cutAt_some hf
      rw [hp] at hd
      obtain ⟨hx, hnx⟩ := drop_head hd
      have hlen : k + 1 ≤ (pieces l).length := (List.getElem?_eq_some_iff.1 hx).1
      obtain ⟨fn, tmps, assign, body, hy, hR⟩ := hY k (r.take i) wr hx hj
      have ex0 := text_zero r i
      have hi0 : (0 : Int) ≤ (i : Int) := by omega
      have hi1 : (i : Int) ≤ ((text r).size : Int) := by rw [text_size]; omega
      have hi2 : (i : Int) + 1 ≤ ((text r).size : Int) := by rw [text_size]; omega
      have ex1 := text_extract r (i + 1)
      have HI := hid hi
      have HR := hid hR
      have HL := hid hlen
      have HN := hid hnx
      clear hi hR hlen hd hx hnx hj hf hp hh
      gi_wp2_with (gi_at_call 228; refine (callsIn_wide.2 HI.out).mono ?_; rintro e w' ⟨rfl, rfl⟩)
      refine HR.out.mono ?_
      rintro e W3 (⟨rfl, hJ3, hk3⟩ | ⟨rfl, hJx3⟩)
      · have h3 := HH.out.three hk3
        have d0 := h3.txt.cell
        have d1 := h3.sep.cell
        have df := h3.txt.frozen
        have H3 := hid h3
        clear h3 c0 c1 c2 cf
        gi_wp2
        go_roundw
        case rel => exact ⟨k + 1, r.drop (i + 1), H3.out.set _, hJ _ _ _ hJ3 ⟨grownBy_setCell' _ _ _, _, H3.out.txt⟩, by simp; omega, HN.out⟩
        case measure => rw [HH.out.left, (H3.out.set (r.drop (i + 1))).left]; simp; omega
      · gi_wp2
        refine bodyPost_ret (results_none rfl _ _ _) rfl ?_
        exact ⟨⟨_, rfl⟩, .inr ⟨k + 1, HL.out, hJx3⟩⟩
end Go.Proofs.YtkmdclfkmmlloaaGreatDoor.Names
namespace Go.Proofs.YtkmdclfkmmlloaaGreatDoor.Names
open Go Go.Proofs.YtkmdclfkmmlloaaGreatDoor Go.Proofs.YtkmdclfkmmlloaaGreatDoor.Utf Go.RowKit
set_option maxRecDepth 100000

theorem underM : Tryz.prog.underlying 54 = some (.map 9 4) := Tryz.underlying54
theorem underO : Tryz.prog.underlying 4 = some .bool := Tryz.underlying4

/-- The keywords' map, as it reads. -/
def keyD : DataW Unit := .map (keys.map fun k => (.string k, .lit (.bool true)))
def KeyMap (w : World) (b : Nat) : Prop := w.ownsMap Tryz.prog 9 (plainElem (H := Unit) Tryz.prog 4) b 17 keyD

theorem KeyMap.below {w w' : World} {b : Nat} (h : KeyMap w b) (hb : Below w.heap.size w w') : KeyMap w' b := by
  have hl := h.lt
  obtain ⟨es, clock, h1, r⟩ := h
  exact ⟨es, clock, (hb.block b hl).trans h1, r⟩

theorem key_put : ((((((((((((((((((DataW.map [] : DataW Unit).put (.string [97, 110, 100]) (.lit (.bool true))).put (.string [98, 101, 116, 119, 101, 101, 110]) (.lit (.bool true))).put (.string [101, 108, 115, 101]) (.lit (.bool true))).put (.string [101, 118, 101, 114, 121]) (.lit (.bool true))).put (.string [102, 97, 108, 115, 101]) (.lit (.bool true))).put (.string [102, 111, 114]) (.lit (.bool true))).put (.string [102, 117, 110, 99, 116, 105, 111, 110]) (.lit (.bool true))).put (.string [105, 102]) (.lit (.bool true))).put (.string [105, 110]) (.lit (.bool true))).put (.string [110, 111, 116]) (.lit (.bool true))).put (.string [110, 117, 108, 108]) (.lit (.bool true))).put (.string [111, 114]) (.lit (.bool true))).put (.string [114, 101, 116, 117, 114, 110]) (.lit (.bool true))).put (.string [115, 97, 116, 105, 115, 102, 105, 101, 115]) (.lit (.bool true))).put (.string [115, 111, 109, 101]) (.lit (.bool true))).put (.string [116, 104, 101, 110]) (.lit (.bool true))).put (.string [116, 114, 117, 101]) (.lit (.bool true))) = keyD := by rfl

set_option maxHeartbeats 2000000 in
theorem keywords_any (w : World) : Calls Tryz.prog 75 #[] w fun e w' => ∃ b, e = .returned (.map (some b)) ∧ KeyMap w' b ∧ w.heap.size ≤ b ∧ Below w.heap.size w w' := by
  have hmm := @run_makeMap Tryz.prog
  have hown := World.ownsMap_made (H := Unit) w Tryz.prog 9 (plainElem (H := Unit) Tryz.prog 4)
  have hB := ba (b0 w) (.map #[] 0)
  have hsz : w.heap.size < (w.alloc (.map #[] 0)).heap.size := by simp
  go_enter Tryz.func75, Tryz.ntmps75
  go_wp2_with (refine wpList_insert_own _ rfl _ _ _ 54 rfl 9 4 (Maps.string_keyed under9) underM (plainElem (H := Unit) Tryz.prog 4) _ _ _ rfl hown (by unfold maxLen; omega) _ _ _ rfl rfl (WideMaps.keyOf_string_mk under9 (by decide)) (.lit (.bool true)) [] (plainElem_bool underO true) ?_; clear hown; intro w1 hown hg1; replace hB := hB.grown hg1 hB.size (fun k e => by cases e; exact Nat.le_refl _); clear hg1)
  go_ret
  refine ⟨_, rfl, ?_, Nat.le_refl _, hB⟩
  unfold KeyMap
  rw [← key_put]
  exact hown

theorem atKey_keys (l : List UInt8) : ∀ ks : List (List UInt8), (DataW.map (ks.map fun k => (Lit.string k, DataW.lit (H := Unit) (.bool true)))).atKey (.string l) (.lit (.bool false)) = .lit (.bool (ks.contains l))
  | [] => rfl
  | a :: r => by
    have ih := atKey_keys l r
    unfold DataW.atKey at ih ⊢
    dsimp only at ih ⊢
    rw [List.map_cons, List.find?_cons]
    by_cases h : a = l
    · subst h
      simp [Lit.sameKey]
    · have : (Lit.string a).sameKey (.string l) = false := by simp [Lit.sameKey, h]
      simp only [this]
      rw [ih]
      simp [Ne.symm h]

theorem plainElem_bool_inv {H : Type} {P : Program} {e : TypeId} (he : P.underlying e = some .bool) {v : Value} {x : Bool} {ps : List MemPlace} (h : plainElem (H := H) P e v = some (.lit (.bool x), ps)) : v = .bool x := by
  unfold plainElem at h
  rw [he] at h
  cases v <;> simp at h
  rw [h.1]

theorem key_lookup {w : World} {b : Nat} (h : KeyMap w b) (l : List UInt8) (hl : l.length ≤ 281474976710656) :
    (Instr.lookup 54 (.map (some b)) (.string (text l)) false).run Tryz.prog w = .ok (.bool (keyB l)) w := by
  have hk : keyOf Tryz.prog 9 (.string (text l)) = some (.string l) := by
    have := WideMaps.keyOf_string_mk (P := Tryz.prog) under9 (s := text l) (by rw [text_size]; unfold maxLen; omega)
    rw [text_data] at this
    exact this
  obtain ⟨v, ps, hrun, hv⟩ := World.ownsMap.lookup h (Maps.string_keyed under9) underM (Tryz.zeroValue4 w) (plainElem_bool underO false) hk
  unfold keyD at hv
  rw [atKey_keys] at hv
  rw [hrun, plainElem_bool_inv underO hv]
  rfl

end Go.Proofs.YtkmdclfkmmlloaaGreatDoor.Names
namespace Go.Proofs.YtkmdclfkmmlloaaGreatDoor.Names
open Go Go.Proofs.YtkmdclfkmmlloaaGreatDoor Go.Proofs.YtkmdclfkmmlloaaGreatDoor.Utf Go.RowKit
set_option maxRecDepth 100000

theorem underN : Tryz.prog.underlying 44 = some (.slice 3) := Tryz.underlying44
theorem sizeI (W : World) : (sizeOf 3).run Tryz.prog W = .ok 1 W := Tryz.sizeOf3 W
theorem infoI : (Tryz.prog.info? 3).map (fun i => (i.zero, i.size, i.bytes)) = some (some (.int .i64 0), 1, 8) := by kernel_rfl

def ints (cs : List Nat) : List Int := cs.map fun (c : Nat) => (c : Int)
theorem ints_len (cs : List Nat) : (ints cs).length = cs.length := by simp [ints]
theorem ints_snoc (cs : List Nat) (c : Nat) : ints (cs ++ [c]) = ints cs ++ [(c : Int)] := by simp [ints]

set_option maxHeartbeats 2000000 in
theorem RChars_any (l : List UInt8) (hl : l.length ≤ 4000000) (w : World) :
    Calls Tryz.prog 149 #[.string (text l)] w fun e w' => ∃ v, e = .returned (.tuple #[v, .bool (chars l).isSome]) ∧ (∀ cs, chars l = some cs → Nums w' v (ints cs)) ∧ Below w.heap.size w w' := by
  obtain ⟨i1, hi', hz0', hz1', hz2'⟩ := info_parts infoI
  obtain ⟨v, w1, hcv, hv, hb1⟩ := conv_text (P := Tryz.prog) (text l) (by rw [text_size]; omega) 9 53 5 under9 underB under8 w
  rw [text_data] at hv
  have HV := hid hv
  have HB1 := hid hb1
  clear hv hb1
  go_enter Tryz.func149, Tryz.ntmps149
  go_wp2_with fail
  clear hcv
  go_loopw [4, 5] (fun o b wr => ∃ (pos : Nat) (cs : List Nat), Got l pos cs ∧ Bytes w1 b (l.drop pos) ∧ wr.ownsRow w1.heap.size 3 1 o cs.length (numsOf (ints cs)) ∧ Below w1.heap.size w1 wr) (fun _ b _ => lenOf b)
  case atStart => exact ⟨0, [], Got.start l, HV.out, World.ownsRow_nil _ _ _ _, b0 _⟩
  case round =>
    obtain ⟨pos, cs, hg, hb, ho, hbr⟩ := hrel
    have hlen := fun W => hb.len (P := Tryz.prog) 53 3 5 underB W
    by_cases hp : pos < l.length
    · have hR := RRune_any u5 _ _ (hb.below hbr (Nat.le_refl _))
      unfold pairV at hR
      have hk := rune_le (l.drop pos)
      have hdl : (l.drop pos).length = l.length - pos := by simp
      by_cases z : (rune (l.drop pos)).2 = 0
      · have hr0 := rune_none z
        rw [hr0] at hR
        have HR := hid hR
        have HG := hid (hg.stop hp z)
        have HB := hid hbr
        rw [hdl] at hlen
        clear hg z hr0 hR hbr hb ho hk
        go_wp2_with (go_at_call 85; refine HR.out.mono ?_; rintro e w2 ⟨rfl, hb2⟩)
        go_ret2
        refine ⟨_, by rw [HG.out]; rfl, fun cs h => (by rw [HG.out] at h; cases h), bt HB1.out (bt HB.out hb2)⟩
      · have hg2 := hg.next z
        obtain ⟨v', _, a2, _, hv'⟩ := hb.sub (rune (l.drop pos)).2 (l.drop pos).length hk.1 (Nat.le_refl _) 53 5 underB size8
        have a3 := a2 rfl
        rw [List.take_of_length_le (by rw [List.length_drop]; exact Nat.le_refl _), List.drop_drop] at hv'
        have hz : (((rune (l.drop pos)).2 : Int) == 0) = false := by rw [beq_eq_false_iff_ne]; omega
        have HR := hid hR
        have HG := hid hg2
        have HB := hid hbr
        have HV2 := hid hv'
        have HO := hid ho
        have hcs := hg.2.1
        have hm1 := hb.lenOf
        have hk1 : 1 ≤ (rune (l.drop pos)).2 := by omega
        have hm2 := hv'.lenOf
        have HM1 := hid hm1
        have HM2 := hid hm2
        rw [hdl] at hlen
        clear hg2 hg z hR hbr hb ho a2 hv' hm1 hm2
        obtain ⟨c, k, hck⟩ : ∃ c k, rune (l.drop pos) = (c, k) := ⟨_, _, rfl⟩
        rw [hck] at hk hk1 hz HR HG HM2 HV2
        rw [hck] at a3
        dsimp only at hk hk1 hz HR HG HM2 HV2 a3
        clear hck
        go_wp2_with fail
        refine HR.out.mono ?_
        rintro e w2 ⟨rfl, hb2⟩
        have HO2 := hid (owns_later HO.out hb2)
        have HBL := hid (bt HB.out hb2)
        go_wp2_with (at_builtin; refine wpList_append_row rfl _ _ 44 rfl w1.heap.size 3 i1 (.int .i64 0) 1 8 underN hi' hz0' hz1' hz2' rfl (by decide) _ _ _ rfl (HO2.out.alloc _) _ 1 [.int .i64 c] rfl (Row.ofBuild w2 #[.int .i64 c] _ 1 rfl (by omega)) (numsOf_one [c]) ?d1 ?d2 ?d3 ?_)
        case d1 => omega
        case d2 => unfold maxLen; omega
        case d3 => have := HBL.out.size; simp; omega
        intro v3 w3 hown3 hg3
        have hb3 := grown_below (ba HBL.out (.cells #[.int .i64 c] 3)) (HO2.out.alloc _) (Nat.le_refl _) hg3
        have HO3 := hid hown3
        have HB3 := hid hb3
        clear hown3 hg3 hb3
        go_wp2_with fail
        go_roundw
        case rel =>
          refine ⟨_, _, HG.out, HV2.out, ?_, HB3.out⟩
          rw [List.length_append, ints_snoc, numsOf_append]; exact HO3.out
        case measure => rw [HM1.out, HM2.out]; simp; omega
    · have HG := hid (hg.done hp)
      have HB := hid hbr
      have HO := hid (Nums.ofOwns (l := ints cs) (by rw [ints_len]; exact ho) (by have := hg.2.1; have := hg.1; rw [ints_len]; omega))
      have hdl : (l.drop pos).length = 0 := by simp; omega
      rw [hdl] at hlen
      clear hg hbr ho hb hdl
      go_wp2
      go_ret2
      refine ⟨_, by rw [HG.out]; rfl, fun cs' h => ?_, bt HB1.out HB.out⟩
      rw [HG.out] at h
      cases h
      exact HO.out
/-! words -/
def shpC (p q : Int → Bool) : Option (List Nat) → Bool
  | some (c :: cs) => p c && cs.all (fun c => q c)
  | _ => false
theorem shp_eq (p q : Int → Bool) (l : List UInt8) : shp p q l = shpC p q (chars l) := by unfold shp shpC; rfl
theorem all_take (q : Int → Bool) (cs : List Nat) (k : Nat) (hk : k < cs.length) : (cs.take (k + 1)).all (fun c => q c) = ((cs.take k).all (fun c => q c) && q (cs[k] : Nat)) := by
  rw [List.take_succ_eq_append_getElem hk, List.all_append]; simp
theorem all_stop (q : Int → Bool) (cs : List Nat) (k : Nat) (hk : k < cs.length) (h : q (cs[k] : Nat) = false) : cs.all (fun c => q c) = false := by
  rw [List.all_eq_false]; exact ⟨cs[k], List.getElem_mem hk, by simp [h]⟩

end Go.Proofs.YtkmdclfkmmlloaaGreatDoor.Names
namespace Go.Proofs.YtkmdclfkmmlloaaGreatDoor.Names
open Go Go.Proofs.YtkmdclfkmmlloaaGreatDoor Go.Proofs.YtkmdclfkmmlloaaGreatDoor.Utf Go.RowKit
set_option maxRecDepth 100000

theorem underS : Tryz.prog.underlying 22 = some (.slice 9) := Tryz.underlying22
theorem sizeS (W : World) : (sizeOf 9).run Tryz.prog W = .ok 1 W := Tryz.sizeOf9 W

theorem RAll_any (w : World) : Calls Tryz.prog 177 #[] w fun e w' => ∃ v, e = .returned v ∧ Strs w' v keys ∧ Below w.heap.size w w' := by
  go_enter Tryz.func177, Tryz.ntmps177
  go_wp2
  go_ret
  refine ⟨_, rfl, ?_, ba (b0 w) _⟩
  exact Row.ofBuild w _ _ 17 rfl (by omega)

theorem text_beq (a b : List UInt8) : ((text a).toList == (text b).toList) = decide (a = b) := by
  rw [text_list, text_list, Bool.eq_iff_iff]; simp

set_option maxHeartbeats 1000000 in
theorem RKeyword_any (l : List UInt8) (w : World) :
    Calls Tryz.prog 151 #[.string (text l)] w fun e w' => e = .returned (.bool (keyB l)) ∧ Below w.heap.size w w' := by
  go_enter Tryz.func151, Tryz.ntmps151
  go_wp2_with (go_at_call 177; refine (RAll_any _).mono ?_; rintro e w1 ⟨v, rfl, hv, hb⟩)
  have hlen := fun W => hv.len (P := Tryz.prog) 22 3 9 underS W
  have hk17 : keys.length = 17 := rfl
  rw [hk17] at hlen
  have HV := hid hv
  clear hv
  go_loop [4] (fun i => ∃ k : Nat, i = .int .i64 k ∧ k ≤ 17 ∧ ∀ j, j < k → keys[j]? ≠ some l) (fun i => 17 - (intOf i).toNat)
  case atStart => exact ⟨0, rfl, by omega, fun j hj => absurd hj (Nat.not_lt_zero _)⟩
  case round =>
    obtain ⟨k, rfl, hk, hno⟩ := hrel
    have HNO := hid hno
    clear hno
    by_cases hlt : k < 17
    · obtain ⟨b, o, ha, hc⟩ := HV.out.at k (by rw [hk17]; exact hlt) 22 9 underS sizeS
      have hq : keys[k]? = some keys[k] := List.getElem?_eq_getElem _
      generalize keys[k] = x at *
      have HQ := hid hq
      clear hq
      by_cases hx : x = l
      · have hxx : ((text x).toList == (text l).toList) = true := by rw [text_beq]; simpa using hx
        have HX := hid hx
        clear hx
        go_wp2
        go_ret
        refine ⟨?_, hb⟩
        have : keyB l = true := by
          unfold keyB
          rw [List.contains_iff_mem]
          rw [← HX.out]
          exact List.mem_of_getElem? HQ.out
        rw [this]; rfl
      · have hxx : ((text x).toList == (text l).toList) = false := by rw [text_beq]; simpa using hx
        have HX := hid hx
        clear hx
        go_wp2
        go_round
        case rel =>
          refine ⟨k + 1, by go_num, by omega, fun j hj => ?_⟩
          rcases Nat.lt_or_ge j k with h | h
          · exact HNO.out j h
          · obtain rfl : j = k := by omega
            rw [HQ.out]
            intro e; cases e
            exact HX.out rfl
        case measure => simp [intOf]; omega
    · go_wp2
      go_ret
      refine ⟨?_, hb⟩
      have : keyB l = false := by
        unfold keyB
        rw [← Bool.not_eq_true, List.contains_iff_mem]
        intro hm
        obtain ⟨j, hj, he⟩ := List.mem_iff_getElem.1 hm
        exact HNO.out j (by rw [hk17] at hj; omega) (by rw [List.getElem?_eq_getElem hj, he])
      rw [this]; rfl
/-! the word -/
set_option maxHeartbeats 2000000 in
theorem RWord_no (l : List UInt8) (hl : l.length ≤ 4000000) (hkb : keyB l = false) (w : World) :
    Calls Tryz.prog 123 #[.string (text l)] w fun e w' => e = .returned (.bool (wordyB l)) ∧ Below w.heap.size w w' := by
  have hc := RChars_any l hl w
  have hsp : wordyB l = (shpC Utf.first Utf.next (chars l)) := by
    exact shp_eq _ _ l
  have hK := fun w => RKeyword_any l w
  rw [hkb] at hK
  have HK := hid hK
  clear hK hkb
  cases hch : chars l with
  | none =>
    rw [hch] at hc hsp
    have HC := hid hc
    have HS := hid hsp
    clear hc hch hsp
    go_enter Tryz.func123, Tryz.ntmps123
    go_wp2_with (go_at_call 149; refine HC.out.mono ?_; rintro e w1 ⟨v, rfl, hn, hb⟩)
    go_ret
    exact ⟨by rw [HS.out]; rfl, hb⟩
  | some cs0 =>
    rw [hch] at hc hsp
    have hcl := chars_len l cs0 hch
    cases cs0 with
    | nil =>
      have HC := hid hc
      have HS := hid hsp
      clear hc hch hsp
      go_enter Tryz.func123, Tryz.ntmps123
      go_wp2_with (go_at_call 149; refine HC.out.mono ?_; rintro e w1 ⟨v, rfl, hn, hb⟩; have hlen := fun W => (hn _ rfl).len (P := Tryz.prog) 44 3 3 underN W; rw [ints_len] at hlen; clear hn)
      go_ret
      exact ⟨by rw [HS.out]; rfl, hb⟩
    | cons c cs =>
      have HC := hid hc
      have hF := fun w => RFirst_any (c : Int) w
      clear hc hch
      cases hf : Utf.first c
      · have hs : wordyB l = false := by rw [hsp]; simp [shpC, hf]
        rw [hf] at hF
        have HS := hid hs
        have HF := hid hF
        clear hs hF hf hsp
        go_enter Tryz.func123, Tryz.ntmps123
        go_wp2_with fail
        refine HC.out.mono ?_
        rintro e w1 ⟨v, rfl, hn, hb⟩
        have hv := hn _ rfl
        have hlen := fun W => hv.len (P := Tryz.prog) 44 3 3 underN W
        rw [ints_len] at hlen
        obtain ⟨b, o, ha, hcell⟩ := hv.at 0 (by simp [ints]) 44 3 underN sizeI
        have hcell2 : w1.cell? ⟨b, o, none⟩ = some (.int .i64 c) := hcell
        have ha0 : ∀ q W, (Instr.indexAt 44 v (.int q 0)).run Tryz.prog W = .ok (.pointer (some ⟨b, o, none⟩)) W := ha
        clear ha
        clear hcell hn hv
        have hne : (((c :: cs).length : Int) == 0) = false := by rw [beq_eq_false_iff_ne]; simp; omega
        generalize (c :: cs).length = n at *
        go_wp2_with (go_at_call 150; refine (HF.out _).mono ?_; rintro e w2 ⟨rfl, rfl⟩)
        go_ret
        exact ⟨by rw [HS.out]; rfl, hb⟩
      · rw [hf] at hF
        have HF := hid hF
        have hs : wordyB l = (cs.all (fun c => Utf.next c)) := by rw [hsp]; simp [shpC, hf]
        have HS := hid hs
        clear hs hF hf hsp
        go_enter Tryz.func123, Tryz.ntmps123
        go_wp2_with fail
        refine HC.out.mono ?_
        rintro e w1 ⟨v, rfl, hn, hb⟩
        have hv := hn _ rfl
        have hlen := fun W => hv.len (P := Tryz.prog) 44 3 3 underN W
        rw [ints_len] at hlen
        obtain ⟨b, o, ha, hcell⟩ := hv.at 0 (by simp [ints]) 44 3 underN sizeI
        have hcell2 : w1.cell? ⟨b, o, none⟩ = some (.int .i64 c) := hcell
        have ha0 : ∀ q W, (Instr.indexAt 44 v (.int q 0)).run Tryz.prog W = .ok (.pointer (some ⟨b, o, none⟩)) W := ha
        clear ha
        have hat : ∀ k, (hk : k < cs.length) → ∀ w2, Below w1.heap.size w1 w2 → ∃ b o, (∀ q W, (Instr.indexAt 44 v (.int q ((k : Int) + 1))).run Tryz.prog W = .ok (.pointer (some ⟨b, o, none⟩)) W) ∧ w2.cell? ⟨b, o, none⟩ = some (.int .i64 (cs[k] : Nat)) := by
          intro k hk w2 hb2
          obtain ⟨b, o, h1, h2⟩ := (hv.below hb2 (Nat.le_refl _)).at (k + 1) (by rw [ints_len]; simp; omega) 44 3 underN sizeI
          exact ⟨b, o, h1, by simpa [ints] using h2⟩
        have HAT := hid hat
        clear hcell hn hv hat
        have hne : (((c :: cs).length : Int) == 0) = false := by rw [beq_eq_false_iff_ne]; simp; omega
        obtain ⟨n, hnn⟩ : ∃ n, (c :: cs).length = n := ⟨_, rfl⟩
        have hn1 : n = cs.length + 1 := by rw [← hnn]; simp
        rw [hnn] at hne hlen
        have hcs : cs.length < 4000000 := by have := hcl; simp at this; omega
        have HN1 := hid hn1
        have hnb : n ≤ 4000000 := by omega
        clear hnn hn1
        go_wp2_with (first
          | (go_at_call 150; refine (HF.out _).mono ?_; rintro e w2 ⟨rfl, rfl⟩)
          | (go_at_call 151; refine (HK.out _).mono ?_; rintro e w3 ⟨rfl, hb3⟩))
        go_loop [5] (fun i => ∃ k : Nat, i = .int .i64 ((k : Int) + 1) ∧ k ≤ cs.length ∧ (cs.take k).all (fun c => Utf.next c) = true) (fun i => n - (intOf i).toNat)
        case atStart => exact ⟨0, rfl, by omega, by simp⟩
        case round =>
          obtain ⟨k, rfl, hk, hall⟩ := hrel
          have HALL := hid hall
          clear hall
          by_cases hlt : k < cs.length
          · have hlt2 : (k : Int) + 1 < (n : Int) := by have := HN1.out; omega
            have hq := fun w => RNext_any ((cs[k] : Nat) : Int) w
            have hst := all_take Utf.next cs k hlt
            have hno := all_stop Utf.next cs k hlt
            obtain ⟨b2, o2, ha2, hc2⟩ := HAT.out k hlt _ hb3
            rw [HALL.out, Bool.true_and] at hst
            generalize cs[k] = d at *
            cases hb4 : Utf.next d
            · rw [hb4] at hq
              have HQ := hid hq
              have HN := hid (hno hb4)
              clear hq hst hno hb4
              go_wp2_with (go_at_call 152; refine (HQ.out _).mono ?_; rintro e w2 ⟨rfl, rfl⟩)
              go_ret
              exact ⟨by rw [HS.out, HN.out]; rfl, bt hb hb3⟩
            · rw [hb4] at hq hst
              have HQ := hid hq
              have HN := hid hst
              clear hq hst hno hb4
              go_wp2_with (go_at_call 152; refine (HQ.out _).mono ?_; rintro e w2 ⟨rfl, rfl⟩)
              go_round
              case rel => exact ⟨k + 1, by go_num, by omega, HN.out⟩
              case measure => have := HN1.out; simp [intOf]; omega
          · have : cs.take k = cs := List.take_of_length_le (by omega)
            rw [this] at HALL
            clear this
            have hlt2 : ¬ ((k : Int) + 1 < (n : Int)) := by have := HN1.out; omega
            go_wp2
            go_ret
            exact ⟨by rw [HS.out, HALL.out]; rfl, bt hb hb3⟩

set_option maxHeartbeats 2000000 in
theorem RWord_yes (l : List UInt8) (hl : l.length ≤ 4000000) (hkb : keyB l = true) (w : World) :
    Calls Tryz.prog 123 #[.string (text l)] w fun e w' => e = .returned (.bool false) ∧ Below w.heap.size w w' := by
  have hc := RChars_any l hl w
  have hK := fun w => RKeyword_any l w
  rw [hkb] at hK
  have HK := hid hK
  clear hK hkb
  cases hch : chars l with
  | none =>
    rw [hch] at hc
    have HC := hid hc
    clear hc hch
    go_enter Tryz.func123, Tryz.ntmps123
    go_wp2_with (go_at_call 149; refine HC.out.mono ?_; rintro e w1 ⟨v, rfl, hn, hb⟩)
    go_ret
    exact ⟨rfl, hb⟩
  | some cs0 =>
    rw [hch] at hc
    cases cs0 with
    | nil =>
      have HC := hid hc
      clear hc hch
      go_enter Tryz.func123, Tryz.ntmps123
      go_wp2_with (go_at_call 149; refine HC.out.mono ?_; rintro e w1 ⟨v, rfl, hn, hb⟩; have hlen := fun W => (hn _ rfl).len (P := Tryz.prog) 44 3 3 underN W; rw [ints_len] at hlen; clear hn)
      go_ret
      exact ⟨rfl, hb⟩
    | cons c cs =>
      have HC := hid hc
      have hF := hid (fun w => RFirst_any (c : Int) w)
      clear hc hch
      go_enter Tryz.func123, Tryz.ntmps123
      go_wp2_with fail
      refine HC.out.mono ?_
      rintro e w1 ⟨v, rfl, hn, hb⟩
      have hv := hn _ rfl
      have hlen := fun W => hv.len (P := Tryz.prog) 44 3 3 underN W
      rw [ints_len] at hlen
      obtain ⟨b, o, ha, hcell⟩ := hv.at 0 (by simp [ints]) 44 3 underN sizeI
      have hcell2 : w1.cell? ⟨b, o, none⟩ = some (.int .i64 c) := hcell
      have ha0 : ∀ q W, (Instr.indexAt 44 v (.int q 0)).run Tryz.prog W = .ok (.pointer (some ⟨b, o, none⟩)) W := ha
      clear ha hcell hn hv
      have hne : (((c :: cs).length : Int) == 0) = false := by rw [beq_eq_false_iff_ne]; simp; omega
      generalize (c :: cs).length = n at *
      cases hf : Utf.first c
      · rw [hf] at hF
        clear hf
        go_wp2_with (first
          | (go_at_call 150; refine (hF.out _).mono ?_; rintro e w2 ⟨rfl, rfl⟩)
          | (go_at_call 151; refine (HK.out _).mono ?_; rintro e w3 ⟨rfl, hb3⟩))
        go_ret
        exact ⟨rfl, hb⟩
      · rw [hf] at hF
        clear hf
        go_wp2_with (first
          | (go_at_call 150; refine (hF.out _).mono ?_; rintro e w2 ⟨rfl, rfl⟩)
          | (go_at_call 151; refine (HK.out _).mono ?_; rintro e w3 ⟨rfl, hb3⟩))
        go_ret
        exact ⟨rfl, bt hb hb3⟩

theorem RWord_any (l : List UInt8) (hl : l.length ≤ 4000000) (w : World) :
    Calls Tryz.prog 123 #[.string (text l)] w fun e w' => e = .returned (.bool (wordB l)) ∧ Below w.heap.size w w' := by
  unfold wordB
  cases h : keyB l
  · rw [Bool.not_false, Bool.and_true]; exact RWord_no l hl h w
  · rw [Bool.not_true, Bool.and_false]; exact RWord_yes l hl h w
end Go.Proofs.YtkmdclfkmmlloaaGreatDoor.Names
namespace Go.Proofs.YtkmdclfkmmlloaaGreatDoor.Names
open Go Go.Proofs.YtkmdclfkmmlloaaGreatDoor Go.Proofs.YtkmdclfkmmlloaaGreatDoor.Utf Go.RowKit
set_option maxRecDepth 100000

/-- A byte of a text, as the walk reads it. -/
theorem text_idx (l : List UInt8) (k : Nat) (hk : k < l.length) (h : k < (text l).size) : ((text l)[k]'h).toNat = (l[k]'hk).toNat := rfl
theorem text_at {l : List UInt8} {k : Nat} {x : UInt8} (hx : l[k]? = some x) (h : k < (text l).size) : ((text l)[k]'h).toNat = x.toNat := by
  have hk := (List.getElem?_eq_some_iff.1 hx).1
  rw [List.getElem?_eq_getElem hk] at hx
  rw [text_idx l k hk h, Option.some.inj hx]

end Go.Proofs.YtkmdclfkmmlloaaGreatDoor.Names
namespace Go.Proofs.YtkmdclfkmmlloaaGreatDoor.Names
open Go Go.Proofs.YtkmdclfkmmlloaaGreatDoor Go.Proofs.YtkmdclfkmmlloaaGreatDoor.Utf Go.RowKit
set_option maxRecDepth 100000

theorem infoS : (Tryz.prog.info? 9).map (fun i => (i.zero, i.size, i.bytes)) = some (some (.string ByteArray.empty), 1, 16) := by kernel_rfl

theorem owns_first (w : World) : (w.alloc (.cells #[.string ⟨#[]⟩] 9)).ownsRow w.heap.size 9 1 (.slice (some ⟨w.heap.size, 0, none⟩) 1 1) 1 (strsOf [[]]) :=
  ⟨rfl, .inr ⟨w.heap.size, 1, #[.string ⟨#[]⟩], rfl, Nat.le_refl _, heap_alloc_new w _, Nat.le_refl _, (by unfold maxLen; omega), rfl, rfl⟩⟩

set_option maxHeartbeats 4000000 in
theorem RWords_any (l : List UInt8) (hl : l.length ≤ 2000000) (w : World) :
    Calls Tryz.prog 84 #[.string (text l)] w fun e w' => ∃ v, e = .returned (.tuple #[v, .bool (wordsO l).isSome]) ∧ Strs w' v ((wordsO l).getD []) ∧ Below w.heap.size w w' := by
  obtain ⟨i0, hi, hz0, hz1, hz2⟩ := info_parts infoS
  have HSZ := hid (text_size l)
  have mixed : Tryz.prog.follows Departure.mixedOrders = true := by kernel_rfl
  go_enter Tryz.func84, Tryz.ntmps84
  go_wp2_with fail
  go_loopw [4, 5] (fun o i wr => ∃ k : Nat, i = .int .i64 k ∧ k ≤ l.length ∧ wr.ownsRow w.heap.size 9 1 o (cutAt 32 (l.take k)).length (strsOf (cutAt 32 (l.take k))) ∧ Below w.heap.size w wr) (fun _ i _ => l.length - (intOf i).toNat)
  case atStart =>
    exact ⟨0, rfl, by omega, owns_first w, ba (b0 w) _⟩
  case round =>
    obtain ⟨k, rfl, hk, ho, hbr⟩ := hrel
    by_cases hlt : k < l.length
    · have hps : k < (text l).size := by rw [HSZ.out]; exact hlt
      obtain ⟨x, hxk⟩ : ∃ x, l[k]? = some x := ⟨_, List.getElem?_eq_getElem hlt⟩
      have hid1 := text_at hxk hps
      have htk : l.take (k + 1) = l.take k ++ [x] := by rw [List.take_add_one, hxk]; rfl
      have hcl := cutAt_length 32 (l.take k)
      have hkl : (l.take k).length = k := by simp; omega
      rw [hkl] at hcl
      by_cases hx : x = 32
      · have hxx : ((((text l)[k]'hps).toNat : Int) == 32) = true := by rw [hid1, hx]; rfl
        rw [hx] at htk
        have hsn := cutAt_snoc_same 32 (l.take k)
        rw [← htk] at hsn
        have HS := hid hsn
        have HO := hid ho
        have HB := hid hbr
        clear hsn ho hbr htk hid1 hx hkl
        obtain ⟨n, hn⟩ : ∃ n, (cutAt 32 (l.take k)).length = n := ⟨_, rfl⟩
        rw [hn] at hcl
        have HN := hid hn
        clear hn
        go_wp2_with (at_builtin; refine wpList_append_row rfl _ _ 22 rfl w.heap.size 9 i0 (.string ByteArray.empty) 1 16 underS hi hz0 hz1 hz2 rfl (by decide) _ _ _ rfl (HO.out.alloc _) _ 1 [.string ⟨#[]⟩] rfl (Row.ofBuild wr #[.string ⟨#[]⟩] _ 1 rfl (by omega)) (strsOf_one [[]]) ?d1 ?d2 ?d3 ?_)
        case d1 => have := HN.out; omega
        case d2 => have := HN.out; unfold maxLen; omega
        case d3 => have := HB.out.size; simp; omega
        intro v3 w3 hown3 hg3
        have hb3 := grown_below (ba HB.out (.cells #[.string ⟨#[]⟩] 9)) (HO.out.alloc _) (Nat.le_refl _) hg3
        have HO3 := hid hown3
        have HB3 := hid hb3
        clear hown3 hg3 hb3
        go_wp2_with fail
        go_roundw
        case rel =>
          refine ⟨k + 1, by go_num, by omega, ?_, HB3.out⟩
          rw [HS.out, List.length_append, strsOf_append]; exact HO3.out
        case measure => simp [intOf]; omega
      · have hxx : ((((text l)[k]'hps).toNat : Int) == 32) = false := by
          rw [hid1, beq_eq_false_iff_ne]
          intro e
          exact hx (UInt8.toNat_inj.1 (by have : (32 : UInt8).toNat = 32 := rfl; omega))
        obtain ⟨ini, la, hil⟩ := last_split _ (cutAt_ne 32 (l.take k))
        have hsn := cutAt_snoc_other 32 x hx (l.take k) ini la hil
        rw [← htk] at hsn
        rw [hil] at ho
        have hnn : (ini ++ [la]).length = ini.length + 1 := by simp
        rw [hil, hnn] at hcl
        rw [hnn] at ho
        obtain ⟨b, ha, hc, hfr, hbb, hbs, hset⟩ := owns_at ho ini.length (by omega) 22 underS sizeS
        have hc2 := hc (.string (text la)) (by simp [strsOf])
        have hset2 := hset (.string (text (la ++ [x])))
        rw [← set_last] at hset2
        have hlen := fun W => (Strs.ofOwns (l := ini ++ [la]) (by rw [hnn]; exact ho) (by rw [hnn]; omega)).len (P := Tryz.prog) 22 3 9 underS W
        rw [hnn] at hlen
        have ex0 : (text l).extract k (k + 1) = text [x] := by
          rw [text_one l k hlt]
          rw [List.getElem?_eq_getElem hlt] at hxk
          rw [Option.some.inj hxk]
        have hla := cutAt_piece 32 (l.take k) la (by rw [hil]; simp)
        rw [hkl] at hla
        have hcs1 : (text la).size + (text [x]).size ≤ 9223372036854775807 := by rw [text_size, text_size]; simp; omega
        have hcs2 : ((text la).size : Int) + ((text [x]).size : Int) ≤ 9223372036854775807 := by omega
        have ex1 := text_append la [x]
        have h4 : (k : Int) + 1 ≤ ((text l).size : Int) := by omega
        have HS := hid hsn
        have HO := hid hset2
        have HB := hid hbr
        clear hsn ho hbr htk hid1 hx hkl hil hset hset2 hc hla
        go_wp2_with fail
        go_region_o
        go_wp2
        go_roundw
        case rel =>
          refine ⟨k + 1, by go_num, by omega, ?_, ?_⟩
          · have h1 := HO.out
            have h2 : (ini ++ [la ++ [x]]).length = ini.length + 1 := by simp
            rw [HS.out, h2]; exact h1
          · exact (HB.out.setCell (p := ⟨b, ini.length, none⟩) hbb _).drew
        case measure => simp [intOf]; omega
    · have hkl : l.take k = l := List.take_of_length_le (by omega)
      rw [hkl] at ho
      have hpl := cutAt_length 32 l
      have HP := hid (cutAt_piece 32 l)
      have HW := hid (show wordsO l = if (cutAt 32 l).all wordB then some (cutAt 32 l) else none from rfl)
      obtain ⟨ps, hps⟩ : ∃ ps, cutAt 32 l = ps := ⟨_, rfl⟩
      rw [hps] at ho hpl HP HW
      have hps2 : ¬ (k : Int) < ((text l).size : Int) := by rw [HSZ.out]; omega
      have hv := Strs.ofOwns ho (by omega)
      have hlen := fun W => hv.len (P := Tryz.prog) 22 3 9 underS W
      have HV := hid hv
      have HB := hid hbr
      clear ho hv hps hbr
      go_wp2_with fail
      go_loopw [6] (fun i wq => ∃ k : Nat, i = .int .i64 k ∧ k ≤ ps.length ∧ (ps.take k).all wordB = true ∧ Below wr.heap.size wr wq) (fun i _ => ps.length - (intOf i).toNat)
      case atStart => exact ⟨0, rfl, by omega, by simp, b0 _⟩
      case round =>
        obtain ⟨m, rfl, hm, hall, hbq⟩ := hrel
        have HA := hid hall
        clear hall
        by_cases hlt2 : m < ps.length
        · obtain ⟨b, o, ha, hc⟩ := (HV.out.below hbq (Nat.le_refl _)).at m hlt2 22 9 underS sizeS
          have hpm := HP.out ps[m] (List.getElem_mem hlt2)
          have hst : (ps.take (m + 1)).all wordB = (wordB ps[m]) := by rw [List.take_succ_eq_append_getElem hlt2, List.all_append, HA.out]; simp
          have hno : wordB ps[m] = false → ps.all wordB = false := fun h => by rw [List.all_eq_false]; exact ⟨ps[m], List.getElem_mem hlt2, by simp [h]⟩
          generalize ps[m] = p at *
          have hw := fun w => RWord_any p (by omega) w
          have HBQ := hid hbq
          cases hwp : wordB p
          · rw [hwp] at hw
            have HWD := hid hw
            have HN := hid (hno hwp)
            clear hw hno hst hwp hbq
            go_wp2_with (go_at_call 123; refine (HWD.out _).mono ?_; rintro e w2 ⟨rfl, hb2⟩)
            go_ret2
            have hr : wordsO l = none := by rw [HW.out, HN.out]; rfl
            refine ⟨_, by rw [hr]; rfl, ?_, bt HB.out (bt HBQ.out hb2)⟩
            rw [hr]
            exact Row.nil 1 _
          · rw [hwp] at hw hst
            have HWD := hid hw
            have HN := hid hst
            clear hw hno hst hwp hbq
            go_wp2_with (go_at_call 123; refine (HWD.out _).mono ?_; rintro e w2 ⟨rfl, hb2⟩)
            go_roundw
            case rel => exact ⟨m + 1, by go_num, by omega, HN.out, bt HBQ.out hb2⟩
            case measure => simp [intOf]; omega
        · have hmm : ps.take m = ps := List.take_of_length_le (by omega)
          rw [hmm] at HA
          have HBQ := hid hbq
          clear hmm hbq
          go_wp2
          go_ret2
          have hr : wordsO l = some ps := by rw [HW.out, HA.out]; rfl
          refine ⟨_, by rw [hr]; rfl, ?_, bt HB.out HBQ.out⟩
          rw [hr]
          exact HV.out.below HBQ.out (Nat.le_refl _)

end Go.Proofs.YtkmdclfkmmlloaaGreatDoor.Names
namespace Go.Proofs.YtkmdclfkmmlloaaGreatDoor.Names
open Go Go.Proofs.YtkmdclfkmmlloaaGreatDoor Go.Proofs.YtkmdclfkmmlloaaGreatDoor.Utf Go.RowKit Go.Shelf
set_option maxRecDepth 100000
attribute [local go_sem] Oper.semAt_some

theorem loadVar_plain {P : Program} {t : TypeId} {d : TypeDesc} (ht : P.underlying t = some d) (hd : (match d with | .struct _ | .array _ _ => true | _ => false) = false) {W : World} {a : Addr} {v : Value} (hc : W.cell? a = some v) : (loadVar t a).run P W = .ok v W := by
  have h1 : (isAgg t).run P W = .ok false W := run_isAgg_plain ht hd W
  simp [loadVar, Sem.run_bind, h1, Result.andThen, hc]

/-- Two results that lie in boxes. -/
theorem results_boxes {P : Program} {fn : Func} {p q : Tmp} {t u : TypeId} (h : fn.results = #[.cell p t, .cell q u]) {tmps : Array Value} {W : World} {b c : Nat} {x y : Value}
    (hp : tmps.getD p undef = .pointer (some ⟨b, 0, none⟩)) (hq : tmps.getD q undef = .pointer (some ⟨c, 0, none⟩))
    (h1 : (loadVar t ⟨b, 0, none⟩).run P W = .ok x W) (h2 : (loadVar u ⟨c, 0, none⟩).run P W = .ok y W) : (results fn tmps).run P W = .ok (.tuple #[x, y]) W := by
  simp only [results, h]
  have hp' : tmps[p]?.getD undef = .pointer (some ⟨b, 0, none⟩) := by simpa using hp
  have hq' : tmps[q]?.getD undef = .pointer (some ⟨c, 0, none⟩) := by simpa using hq
  simp [Sem.run_bind, Result.andThen, hp', hq', asAddr, h1, h2]

theorem boxed_later {W W' : World} {B : Nat} {t : TypeId} {v : Value} (h : Boxed W B t v) (hb : Below W.heap.size W W') : Boxed W' B t v := (hb.block B h.lt).trans h

theorem splitSeq_any (l : List UInt8) (w : World) :
    Calls Tryz.prog 209 #[.string (text l), .string ⟨#[32]⟩, .int .i64 0] w fun e w' => e = .returned (.func (.func 226) #[] #[.pointer (some ⟨w.heap.size + 1, 0, none⟩), .pointer (some ⟨w.heap.size, 0, none⟩), .pointer (some ⟨w.heap.size + 2, 0, none⟩)]) ∧
      Holds w' w.heap.size l ∧ w'.heap.size = w.heap.size + 3 ∧ Below w.heap.size w w' := by
  have hmf : ∀ (fn : Fn) (first cap : Array Value) (w : World), (Instr.makeFunc fn first cap).run Tryz.prog w = .ok (.func fn first cap) w := fun _ _ _ _ => rfl
  go_enter Tryz.func209, Tryz.ntmps209
  go_wp2
  go_ret
  refine ⟨rfl, ⟨?_, ?_, ?_⟩, by simp, ?_⟩
  · exact ((Boxed.new w _ _).alloc _).alloc _
  · have h := Boxed.new (w.alloc (.cells #[.string (text l)] 9)) 9 (.string ⟨#[32]⟩)
    rw [World.size_alloc] at h
    exact h.alloc _
  · have h := Boxed.new ((w.alloc (.cells #[.string (text l)] 9)).alloc (.cells #[.string ⟨#[32]⟩] 9)) 3 (.int .i64 0)
    rw [World.size_alloc, World.size_alloc] at h
    exact h
  · exact ba (ba (ba (b0 w) _) _) _

theorem SplitSeq_any (l : List UInt8) (w : World) :
    Calls Tryz.prog 185 #[.string (text l), .string ⟨#[32]⟩] w fun e w' => e = .returned (.func (.func 226) #[] #[.pointer (some ⟨w.heap.size + 1, 0, none⟩), .pointer (some ⟨w.heap.size, 0, none⟩), .pointer (some ⟨w.heap.size + 2, 0, none⟩)]) ∧
      Holds w' w.heap.size l ∧ w'.heap.size = w.heap.size + 3 ∧ Below w.heap.size w w' := by
  go_enter Tryz.func185, Tryz.ntmps185
  go_wp2_with (go_at_call 209; refine (splitSeq_any _ _).mono ?_; rintro e w' ⟨rfl, h1, h2, h3⟩)
  go_ret
  exact ⟨rfl, h1, h2, h3⟩

set_option maxHeartbeats 4000000 in
theorem Words_in (l : List UInt8) (hl : l.length ≤ 2000000) (w : World) :
    CallsIn Fence.wide 9 Tryz.prog 158 #[.string (text l)] w fun e w' => ∃ v, e = .returned (.tuple #[v, .bool (wordsO l).isSome]) ∧ Strs w' v ((wordsO l).getD []) ∧ Below w.heap.size w w' := by
  obtain ⟨i0, hi, hz0, hz1, hz2⟩ := info_parts infoS
  have hk31 : Fence.wide.fn 75 := trivial
  have hk32 : Fence.wide.fn 185 := trivial
  have hk33 : Fence.wide.fn 186 := trivial
  refine callsIn_of_wp_marks Tryz.func158 rfl trivial ?_ rfl
  simp only [Tryz.ntmps158, List.size_toArray, List.length_cons, List.length_nil, Nat.reduceAdd, Nat.reduceSub, Array.replicate_succ, Array.replicate_zero, List.push_toArray, List.append_toArray, List.nil_append, List.cons_append]
  gi_wp2_with (first
    | (gi_at_call 75; refine (callsIn_wide.2 (keywords_any _)).mono ?_; rintro e w1 ⟨mb, rfl, hm, hle, hb1⟩)
    | (gi_at_call 185; refine (callsIn_wide.2 (SplitSeq_any _ _)).mono ?_; rintro e w2 ⟨rfl, hh, hsz, hb2⟩))
  simp only [World.size_alloc] at hle hb1 hh hsz hb2
  have hmlt := hm.lt
  have hs1 : w.heap.size + 2 ≤ w1.heap.size := by have := hb1.size; simp at this; omega
  have r0 : Boxed w2 w.heap.size 22 (.slice none 0 0) := by
    have h1 : Boxed ((w.alloc (.cells #[.slice none 0 0] 22)).alloc (.cells #[.bool false] 4)) w.heap.size 22 (.slice none 0 0) := (Boxed.new w _ _).alloc _
    have h2 : Boxed w1 w.heap.size 22 (.slice none 0 0) := (hb1.block _ (by omega)).trans h1
    exact (hb2.block _ (by omega)).trans ((h2.alloc _).alloc _)
  have r1 : Boxed w2 (w.heap.size + 1) 4 (.bool false) := by
    have h1 := Boxed.new (w.alloc (.cells #[.slice none 0 0] 22)) 4 (.bool false)
    rw [World.size_alloc] at h1
    have h2 : Boxed w1 (w.heap.size + 1) 4 (.bool false) := (hb1.block _ (by omega)).trans h1
    exact (hb2.block _ (by omega)).trans ((h2.alloc _).alloc _)
  have bk : Boxed w2 w1.heap.size 54 (.map (some mb)) := (hb2.block _ (by omega)).trans ((Boxed.new w1 _ _).alloc _)
  have bw : Boxed w2 (w1.heap.size + 1) 22 (.slice none 0 0) := by
    have h1 := Boxed.new (w1.alloc (.cells #[.map (some mb)] 54)) 22 (.slice none 0 0)
    rw [World.size_alloc] at h1
    exact (hb2.block _ (by omega)).trans h1
  have hb2' : Below w1.heap.size w1 w2 := (ba (ba (b0 w1) (.cells #[.map (some mb)] 54)) (.cells #[.slice none 0 0] 22)).trans (hb2.mono (by omega))
  have hm2 : KeyMap w2 mb := hm.below hb2'
  have hbw : Below w.heap.size w w2 := (ba (ba (b0 w) (.cells #[.slice none 0 0] 22)) (.cells #[.bool false] 4)).trans ((hb1.mono (by omega)).trans (hb2'.mono (by omega)))
  have hs2 : w2.heap.size = w1.heap.size + 5 := by omega
  have hh2 : Holds w2 (w1.heap.size + 2) l := hh
  have hpl : (pieces l).length ≤ l.length + 1 := cutAt_length 32 l
  refine range_tells (F := Fence.wide) (n := 9) rfl (by omega) rfl trivial (enters_of Tryz.func226 (by kernel_rfl) rfl) (fun A B h => Turns.others h) (seq_tells 8 (by omega) (w1.heap.size + 2) l (by omega) w2 hh2 (by omega))
    Three.trans (fun W l o o' h _ _ _ => Three.put W l o' (by omega)) (b0 w2) rfl
    (fun k W => (∃ v, Boxed W (w1.heap.size + 1) 22 v ∧ W.ownsRow w2.heap.size 9 1 v k (strsOf ((pieces l).take k)) ∧ k ≤ (pieces l).length) ∧ Boxed W w.heap.size 22 (.slice none 0 0) ∧ Boxed W (w.heap.size + 1) 4 (.bool false) ∧
      Boxed W w1.heap.size 54 (.map (some mb)) ∧ KeyMap W mb ∧ ((pieces l).take k).all wordB = true ∧ w2.heap.size ≤ W.heap.size ∧ Below w.heap.size w W)
    (fun c k W => c = .ret ∧ wordsO l = none ∧ Boxed W w.heap.size 22 (.slice none 0 0) ∧ Boxed W (w.heap.size + 1) 4 (.bool false) ∧ w2.heap.size ≤ W.heap.size ∧ Below w.heap.size w W)
    ?hI ?hIx ?hIT ?hIxT ?h0
    (fun x => { tmps := #[.string (text l), undef, .pointer (some ⟨w.heap.size, 0, none⟩), .pointer (some ⟨w.heap.size + 1, 0, none⟩), .pointer (some ⟨w1.heap.size, 0, none⟩), .pointer (some ⟨w1.heap.size + 1, 0, none⟩), .string (text x), .map (some mb), .string (text l), .func (.func 226) #[] #[.pointer (some ⟨w1.heap.size + 2 + 1, 0, none⟩), .pointer (some ⟨w1.heap.size + 2, 0, none⟩), .pointer (some ⟨w1.heap.size + 2 + 2, 0, none⟩)], .string (text x), undef, undef, undef, undef, undef, undef, undef, undef, undef, undef, undef, undef, undef], defers := [] })
    ?assign ?body ?done ?stop
  case h0 => exact ⟨⟨_, bw, World.ownsRow_nil _ _ _ _, Nat.zero_le _⟩, r0, r1, bk, hm2, rfl, Nat.le_refl _, hbw⟩
  case assign =>
    intro lp x W K hK
    gi_wp2
    exact hK
  case hI =>
    rintro k A B row ⟨h1, a0, a1, ak, am, hall, hs, hb⟩ hg hr
    have far : ∀ b, b < w2.heap.size → some b ≠ row := fun b hlt e => by have := (hr _ e.symm).1; omega
    exact ⟨holdsRow_own w2.heap.size (w1.heap.size + 1) 22 9 1 (fun k : Nat => k) (fun k => strsOf ((pieces l).take k)) (fun k v => k ≤ (pieces l).length) k A B row h1 hg (fun r e => (hr r e).2),
      a0.kept hg (far _ (by omega)), a1.kept hg (far _ (by omega)), ak.kept hg (far _ (by omega)), World.ownsMap.kept am hg (far _ (by omega)), hall, Nat.le_trans hs hg.size, hb.grown hg hb.size (fun j e => by have := (hr _ e).1; omega)⟩
  case hIx =>
    rintro c k A B row ⟨hc, hw, a0, a1, hs, hb⟩ hg hr
    have far : ∀ b, b < w2.heap.size → some b ≠ row := fun b hlt e => by have := (hr _ e.symm).1; omega
    exact ⟨hc, hw, a0.kept hg (far _ (by omega)), a1.kept hg (far _ (by omega)), Nat.le_trans hs hg.size, hb.grown hg hb.size (fun j e => by have := (hr _ e).1; omega)⟩
  case hIT =>
    rintro k A B ⟨⟨v, hv, ho, hk⟩, a0, a1, ak, am, hall, hs, hb⟩ ⟨hg, _⟩
    exact ⟨⟨v, hv.kept hg (fun e => by have := Option.some.inj e; omega), ho.kept hg (.inr (fun e => by have := (ho.lt _ e).1; omega)), hk⟩, a0.kept hg (fun e => by have := Option.some.inj e; omega), a1.kept hg (fun e => by have := Option.some.inj e; omega), ak.kept hg (fun e => by have := Option.some.inj e; omega),
      World.ownsMap.kept am hg (fun e => by have := Option.some.inj e; omega), hall, Nat.le_trans hs hg.size, hb.grown hg hb.size (fun j e => by have := Option.some.inj e; omega)⟩
  case hIxT =>
    rintro c k A B ⟨hc, hw, a0, a1, hs, hb⟩ ⟨hg, _⟩
    exact ⟨hc, hw, a0.kept hg (fun e => by have := Option.some.inj e; omega), a1.kept hg (fun e => by have := Option.some.inj e; omega), Nat.le_trans hs hg.size, hb.grown hg hb.size (fun j e => by have := Option.some.inj e; omega)⟩
  case body =>
    rintro lp k x W hx ⟨⟨v, hv, ho, hk⟩, a0, a1, ak, am, hall, hs, hb⟩
    have hxl := cutAt_piece 32 l x (List.mem_of_getElem? hx)
    have hkl := (List.getElem?_eq_some_iff.1 hx).1
    have hno : wordB x = false → wordsO l = none := fun h => by
      have : (pieces l).all wordB = false := by rw [List.all_eq_false]; exact ⟨x, List.mem_of_getElem? hx, by simp [h]⟩
      unfold wordsO; rw [this]; rfl
    have hwy := wordy_any x (by omega) W
    cases hwd : wordyB x
    · rw [hwd] at hwy
      have HN := hid (hno (by unfold wordB; rw [hwd]; rfl))
      have HW := hid hwy
      have A0 := hid a0
      have A1 := hid a1
      have HB := hid hb
      clear hno hwy hwd hb a0 a1 hv ho ak am
      gi_wp2_with (gi_at_call 186; refine (CallsIn.inRound lp (callsIn_wide.2 HW.out)).mono ?_; rintro e w3 ⟨rfl, hb3⟩; have b0' := boxed_later A0.out hb3; have b1' := boxed_later A1.out hb3; have c0 := b0'.cell; have c1 := (b1'.other (B' := w.heap.size) (by omega) (.slice none 0 0)).cell; have f0 := b0'.frozen; have f1 := (b1'.other (B' := w.heap.size) (by omega) (.slice none 0 0)).frozen)
      have hk3 := ((others_of_below hb3).trans (KeepsOthers.setCell _ ⟨w.heap.size, 0, none⟩ (.slice none 0 0))).trans (KeepsOthers.setCell _ ⟨w.heap.size + 1, 0, none⟩ (.bool false))
      exact ⟨hk3, rfl, HN.out, (b0'.set _).other (by omega) _, (b1'.other (by omega) _).set _, Nat.le_trans hs hk3.size, ((HB.out.trans (hb3.mono HB.out.size)).setCell (p := ⟨w.heap.size, 0, none⟩) (Nat.le_refl _) _).setCell (p := ⟨w.heap.size + 1, 0, none⟩) (by simp) _⟩
    · rw [hwd] at hwy
      have HW := hid hwy
      have A0 := hid a0
      have A1 := hid a1
      have AK := hid ak
      have AM := hid am
      have HB := hid hb
      have HKL := hid (fun W (h : KeyMap W mb) => key_lookup h x (by omega))
      cases hkb : keyB x
      · have hw : wordB x = true := by unfold wordB; rw [hwd, hkb]; rfl
        have hst : ((pieces l).take (k + 1)).all wordB = true := by
          rw [List.take_add_one, hx, List.all_append, hall]
          simp [hw]
        have htk : strsOf ((pieces l).take (k + 1)) = strsOf ((pieces l).take k) ++ [.string (text x)] := by
          rw [List.take_add_one, hx, strsOf_append]; rfl
        have HS := hid hst
        have HT := hid htk
        rw [hkb] at HKL
        have HV := hid hv
        have HO := hid ho
        clear hno hwy hwd hb a0 a1 hv ho ak am hkb hw hst htk hall
        have hklen : k ≤ 2000000 := by omega
        gi_wp2_with (first
          | (gi_at_call 186; refine (CallsIn.inRound lp (callsIn_wide.2 HW.out)).mono ?_; rintro e w3 ⟨rfl, hb3⟩; have k3 := boxed_later AK.out hb3; have ck := k3.cell; have hlk := HKL.out _ (AM.out.below hb3); have hv3 := boxed_later HV.out hb3; have cv := hv3.cell; have ho3 := owns_later HO.out hb3)
          | (gi_at_builtin; refine wpListIn_append_own _ rfl _ _ 22 rfl w2.heap.size 9 i0 (.string ByteArray.empty) 1 16 underS hi hz0 hz1 hz2 rfl (by decide) _ _ _ rfl (ho3.alloc _) ⟨w3.heap.size, 0, none⟩ 1 1 [.string (text x)] rfl rfl (cell_one_new _ _ _) (by simp [Value.oneCell']) (by unfold maxLen; omega) (by omega) (by have := hb3.size; simp; omega) ?_; intro v' w4 hown' hgrow _; obtain ⟨g', cap', rfl⟩ := ownsRow_succ hown'; have hv4 : Boxed w4 (w1.heap.size + 1) 22 v := (hv3.alloc _).kept hgrow (hv3.not_row (by decide) ho3); have hc4 := hv4.cell; have hf4 := hv4.frozen))
        clear hlk ck cv hc4 hf4
        have far : ∀ B, B < w2.heap.size → some B ≠ v.ownBlock := fun B hlt e => by have := (ho3.lt _ e.symm).1; omega
        have hs3 := hb3.size
        have same : ∀ j, j < w2.heap.size → j ≠ w1.heap.size + 1 → (w4.setCell ⟨w1.heap.size + 1, 0, none⟩ (.slice (some ⟨g', 0, none⟩) (k + 1) cap')).heap[j]? = W.heap[j]? := fun j h1 h2 =>
          (Below.heap_setCell w4 ⟨w1.heap.size + 1, 0, none⟩ _ j (by simpa using h2)).trans ((hgrow.block j (by simp; omega) (far j h1)).trans ((Below.heap_alloc w3 _ j (by omega)).trans (hb3.block j (by omega))))
        have hk4 : KeepsOthers W w4 := ((others_of_below hb3).trans (KeepsOthers.alloc w3 _)).trans (KeepsOthers.of_grownBy (row := v.ownBlock) hgrow fun j o ej hj => by
          rcases (ho3.alloc _).2 with ⟨rfl, _⟩ | ⟨g, cap, cur, rfl, _, hgb, _⟩
          · simp [Value.ownBlock] at ej
          · obtain rfl : g = j := by simpa [Value.ownBlock] using ej
            rw [hgb] at hj; cases hj; rfl)
        have hk5 := hk4.trans (KeepsOthers.setCell w4 ⟨w1.heap.size + 1, 0, none⟩ (.slice (some ⟨g', 0, none⟩) (k + 1) cap'))
        have hb4 : Below w.heap.size w w4 := ((HB.out.trans (hb3.mono HB.out.size)).alloc (by have := HB.out.size; omega) _).grown hgrow (by have := HB.out.size; simp; omega) (fun j e => by have := (ho3.lt _ e).1; omega)
        refine ⟨hk5, fun j h1 h2 => same j (by omega) (by omega), ⟨_, hv4.set _, ?_, by omega⟩, (same _ (by omega) (by omega)).trans A0.out, (same _ (by omega) (by omega)).trans A1.out, (same _ (by omega) (by omega)).trans AK.out, ?_, HS.out, Nat.le_trans hs hk5.size, hb4.setCell (p := ⟨w1.heap.size + 1, 0, none⟩) (by show w.heap.size ≤ w1.heap.size + 1; omega) _⟩
        · rw [HT.out]
          exact hown'.kept (grownBy_setCell' w4 _ _) (.inr (hv4.not_row (by decide) hown').symm)
        · obtain ⟨es, clock, h1, r⟩ := AM.out
          exact ⟨es, clock, (same mb (by omega) (by omega)).trans h1, r⟩
      · have HN := hid (hno (by unfold wordB; rw [hwd, hkb]; rfl))
        rw [hkb] at HKL
        clear hno hwy hwd hb a0 a1 hv ho ak am hkb
        gi_wp2_with (gi_at_call 186; refine (CallsIn.inRound lp (callsIn_wide.2 HW.out)).mono ?_; rintro e w3 ⟨rfl, hb3⟩; have k3 := boxed_later AK.out hb3; have ck := k3.cell; have hlk := HKL.out _ (AM.out.below hb3); have b0' := boxed_later A0.out hb3; have b1' := boxed_later A1.out hb3; have c0 := b0'.cell; have c1 := (b1'.other (B' := w.heap.size) (by omega) (.slice none 0 0)).cell; have f0 := b0'.frozen; have f1 := (b1'.other (B' := w.heap.size) (by omega) (.slice none 0 0)).frozen)
        have hk3 := ((others_of_below hb3).trans (KeepsOthers.setCell _ ⟨w.heap.size, 0, none⟩ (.slice none 0 0))).trans (KeepsOthers.setCell _ ⟨w.heap.size + 1, 0, none⟩ (.bool false))
        exact ⟨hk3, rfl, HN.out, (b0'.set _).other (by omega) _, (b1'.other (by omega) _).set _, Nat.le_trans hs hk3.size, ((HB.out.trans (hb3.mono HB.out.size)).setCell (p := ⟨w.heap.size, 0, none⟩) (Nat.le_refl _) _).setCell (p := ⟨w.heap.size + 1, 0, none⟩) (by simp) _⟩
  case done =>
    rintro D W hD ⟨⟨v, hv, ho, hk⟩, a0, a1, ak, am, hall, hs, hb⟩ hK
    obtain ⟨va, vn, vc, rfl⟩ : ∃ a n c, v = .slice a n c := by
      rcases ho.2 with ⟨rfl, _⟩ | ⟨g, cap, cur, rfl, _⟩
      · exact ⟨_, _, _, rfl⟩
      · exact ⟨_, _, _, rfl⟩
    have c5 := hv.cell
    have c0 := a0.cell
    have f0 := a0.frozen
    have a1' := a1.other (B' := w.heap.size) (by omega) (.slice va vn vc)
    have c1 := a1'.cell
    have f1 := a1'.frozen
    gi_wp2
    have hkd := (KeepsOthers.setCell W ⟨w.heap.size, 0, none⟩ (.slice va vn vc)).trans (KeepsOthers.setCell _ ⟨w.heap.size + 1, 0, none⟩ (.bool true))
    have hK2 := hkd.same D _ hK rfl
    have b0' : Boxed ((W.setCell ⟨w.heap.size, 0, none⟩ (.slice va vn vc)).setCell ⟨w.heap.size + 1, 0, none⟩ (.bool true)) w.heap.size 22 (.slice va vn vc) := (a0.set _).other (by omega) _
    have b1' := a1'.set (.bool true)
    have hb2 := (hb.setCell (p := ⟨w.heap.size, 0, none⟩) (Nat.le_refl _) (.slice va vn vc)).setCell (p := ⟨w.heap.size + 1, 0, none⟩) (by simp) (.bool true)
    have ho2 := (ho.kept (grownBy_setCell' W w.heap.size (.slice va vn vc)) (.inr (fun e => by have := (ho.lt _ e).1; omega)))
    have ho3 := (ho2.kept (grownBy_setCell' _ (w.heap.size + 1) (.bool true)) (.inr (fun e => by have := (ho2.lt _ e).1; omega)))
    generalize (W.setCell ⟨w.heap.size, 0, none⟩ (.slice va vn vc)).setCell ⟨w.heap.size + 1, 0, none⟩ (.bool true) = W5 at *
    have ho4 := ownsRow_putObj ho3 (.deferred none) hK2 rfl
    rw [List.take_length] at ho4 hall
    have hr : wordsO l = some (pieces l) := by unfold wordsO; rw [hall]; rfl
    refine ⟨by simp, .inl ⟨_, _, rfl, run_takeDeferred hK2, ?_⟩⟩
    refine ⟨_, results_boxes rfl rfl rfl (loadVar_plain underS rfl (b0'.kept (grownBy_putObj' W5 D (.deferred none)) (fun e => by have := Option.some.inj e; omega)).cell) (loadVar_plain underO rfl (b1'.kept (grownBy_putObj' W5 D (.deferred none)) (fun e => by have := Option.some.inj e; omega)).cell), _, by rw [hr]; rfl, ?_, hb2.trans (belowK_b (w := w2) (by omega) W5 D _ _ hD hK2 rfl rfl)⟩
    rw [hr]
    exact Strs.ofOwns (l := pieces l) ho4 (by omega)
  case stop =>
    rintro D c k W hD hk ⟨rfl, hw, a0, a1, hs, hb⟩ hK
    gi_wp2
    refine ⟨by simp, .inl ⟨_, _, rfl, run_takeDeferred hK, ?_⟩⟩
    refine ⟨_, results_boxes rfl rfl rfl (loadVar_plain underS rfl (a0.kept (grownBy_putObj' W D (.deferred none)) (fun e => by have := Option.some.inj e; omega)).cell) (loadVar_plain underO rfl (a1.kept (grownBy_putObj' W D (.deferred none)) (fun e => by have := Option.some.inj e; omega)).cell), _, by rw [hw]; rfl, ?_, hb.trans (belowK_b (w := w2) (by omega) W D _ _ hD hK rfl rfl)⟩
    rw [hw]
    exact Row.nil 1 _

theorem Words_any (l : List UInt8) (hl : l.length ≤ 2000000) (w : World) :
    Calls Tryz.prog 158 #[.string (text l)] w fun e w' => ∃ v, e = .returned (.tuple #[v, .bool (wordsO l).isSome]) ∧ Strs w' v ((wordsO l).getD []) ∧ Below w.heap.size w w' := callsIn_wide.1 (Words_in l hl w)

def rightB (l : List UInt8) : Bool := (wordsO l).isSome
theorem Right_any (l : List UInt8) (hl : l.length ≤ 2000000) (w : World) :
    Calls Tryz.prog 132 #[.string (text l)] w fun e w' => e = .returned (.bool (rightB l)) ∧ Below w.heap.size w w' := by
  have H := hid (fun w => Words_any l hl w)
  go_enter Tryz.func132, Tryz.ntmps132
  go_wp2_with (go_at_call 158; refine (H.out _).mono ?_; rintro e w' ⟨v, rfl, hv, hb⟩)
  go_ret
  exact ⟨rfl, hb⟩
end Go.Proofs.YtkmdclfkmmlloaaGreatDoor.Names
