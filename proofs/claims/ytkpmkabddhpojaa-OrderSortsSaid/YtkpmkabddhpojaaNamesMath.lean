/- Plain mathematics of layer 2: names' characters, words between blanks. -/
import Derived.Test.YtkpmkabddhpojaaUtfRune
set_option linter.unusedVariables false
set_option linter.unusedSimpArgs false
namespace Go.Proofs.Ytkpmkabddhpojaa.Names
open Go Go.Proofs.Ytkpmkabddhpojaa Go.Proofs.Ytkpmkabddhpojaa.Utf

/-- A text's characters; none, if it isn't right. -/
def charsF : Nat → List UInt8 → Option (List Nat)
  | 0, l => if l = [] then some [] else none
  | f + 1, l => if l = [] then some [] else if (rune l).2 = 0 then none else (charsF f (l.drop (rune l).2)).map ((rune l).1 :: ·)
def chars (l : List UInt8) : Option (List Nat) := charsF l.length l

theorem rune_nil : rune [] = (0, 0) := rfl
theorem charsF_eq : ∀ (f g : Nat) (l : List UInt8), l.length ≤ f → l.length ≤ g → charsF f l = charsF g l
  | 0, 0, l, _, _ => rfl
  | 0, g + 1, l, h, _ => by
    have : l = [] := List.eq_nil_of_length_eq_zero (by omega)
    subst this; simp [charsF]
  | f + 1, 0, l, _, h => by
    have : l = [] := List.eq_nil_of_length_eq_zero (by omega)
    subst this; simp [charsF]
  | f + 1, g + 1, l, h, h' => by
    unfold charsF
    split
    · rfl
    · split
      · rfl
      · rename_i hk
        have := rune_le l
        rw [charsF_eq f g (l.drop (rune l).2) (by simp; omega) (by simp; omega)]
theorem chars_nil : chars [] = some [] := rfl
theorem chars_none {l : List UInt8} (h0 : l ≠ []) (h : (rune l).2 = 0) : chars l = none := by
  unfold chars
  cases hl : l.length with
  | zero => exact absurd (List.eq_nil_of_length_eq_zero hl) h0
  | succ n => simp [charsF, h, h0]
theorem chars_step {l : List UInt8} (h : (rune l).2 ≠ 0) : chars l = (chars (l.drop (rune l).2)).map ((rune l).1 :: ·) := by
  have h1 := rune_le l
  have h0 : l ≠ [] := by rintro rfl; exact h rfl
  unfold chars
  cases hl : l.length with
  | zero => omega
  | succ n =>
    rw [charsF, if_neg h0, if_neg h]
    rw [charsF_eq n (l.drop (rune l).2).length _ (by simp; omega) (by simp)]

/-- Induction on a text by its characters. -/
theorem by_chars {p : List UInt8 → Prop} (h0 : p []) (h1 : ∀ l, l ≠ [] → (rune l).2 = 0 → p l) (h2 : ∀ l, (rune l).2 ≠ 0 → p (l.drop (rune l).2) → p l) (l : List UInt8) : p l := by
  generalize hn : l.length = n
  induction n using Nat.strongRecOn generalizing l with
  | _ n ih =>
    by_cases e : l = []
    · subst e; exact h0
    · by_cases h : (rune l).2 = 0
      · exact h1 l e h
      · have := rune_le l
        exact h2 l h (ih (l.drop (rune l).2).length (by simp; omega) _ rfl)

/-- All of them are of a kind. -/
def allq (q : Int → Bool) (l : List UInt8) : Bool := match chars l with | some cs => cs.all (fun c => q c) | none => false
/-- One character of a first kind, and any of another. -/
def shp (p q : Int → Bool) (l : List UInt8) : Bool := match chars l with | some (c :: cs) => p c && cs.all (fun c => q c) | _ => false

theorem allq_nil (q : Int → Bool) : allq q [] = true := rfl
theorem allq_bad {q : Int → Bool} {l : List UInt8} (h0 : l ≠ []) (h : (rune l).2 = 0) : allq q l = false := by unfold allq; rw [chars_none h0 h]
theorem allq_step {q : Int → Bool} {l : List UInt8} (h : (rune l).2 ≠ 0) : allq q l = (q (rune l).1 && allq q (l.drop (rune l).2)) := by
  unfold allq; rw [chars_step h]
  cases chars (l.drop (rune l).2) <;> simp
theorem shp_nil (p q : Int → Bool) : shp p q [] = false := rfl
theorem shp_bad {p q : Int → Bool} {l : List UInt8} (h : (rune l).2 = 0) : shp p q l = false := by
  by_cases h0 : l = []
  · subst h0; rfl
  · unfold shp; rw [chars_none h0 h]
theorem shp_step {p q : Int → Bool} {l : List UInt8} (h : (rune l).2 ≠ 0) : shp p q l = (p (rune l).1 && allq q (l.drop (rune l).2)) := by
  unfold shp allq; rw [chars_step h]
  cases chars (l.drop (rune l).2) <;> simp

/-- Where all characters are told the text is right. -/
theorem check_of_chars (l : List UInt8) : check l = l.length ↔ chars l ≠ none := by
  refine by_chars (p := fun l => check l = l.length ↔ chars l ≠ none) ?_ ?_ ?_ l
  · simp [chars_nil, check_nil]
  · intro l h0 h
    rw [chars_none h0 h, check_stop h]
    have : l.length ≠ 0 := fun e => h0 (List.eq_nil_of_length_eq_zero e)
    simp; omega
  · intro l h ih
    rw [chars_step h, check_step h]
    have := rune_le l
    simp only [List.length_drop] at ih
    constructor
    · intro e
      have := ih.1 (by omega)
      simpa using this
    · intro e
      have := ih.2 (by simpa using e)
      omega
theorem shp_check {p q : Int → Bool} {l : List UInt8} (h : check l ≠ l.length) : shp p q l = false := by
  have : chars l = none := Classical.not_not.1 (fun e => h ((check_of_chars l).2 e))
  unfold shp; rw [this]

def plainB (l : List UInt8) : Bool := shp Utf.first Utf.part l
def wordyB (l : List UInt8) : Bool := shp Utf.first Utf.next l

/-- The keywords. -/
def keys : List (List UInt8) :=
  [[97, 110, 100], [98, 101, 116, 119, 101, 101, 110], [101, 108, 115, 101], [101, 118, 101, 114, 121], [102, 97, 108, 115, 101], [102, 111, 114], [102, 117, 110, 99, 116, 105, 111, 110], [105, 102], [105, 110], [110, 111, 116], [110, 117, 108, 108], [111, 114], [114, 101, 116, 117, 114, 110], [115, 97, 116, 105, 115, 102, 105, 101, 115], [115, 111, 109, 101], [116, 104, 101, 110], [116, 114, 117, 101]]
def keyB (l : List UInt8) : Bool := keys.contains l
def wordB (l : List UInt8) : Bool := wordyB l && !keyB l

/-- Pieces between blanks. -/
def cutAt (x : UInt8) : List UInt8 → List (List UInt8)
  | [] => [[]]
  | c :: r => if c = x then [] :: cutAt x r else match cutAt x r with | a :: b => (c :: a) :: b | [] => [[c]]
def pieces (l : List UInt8) : List (List UInt8) := cutAt 32 l
/-- A name's words; none, if it is none. -/
def wordsO (l : List UInt8) : Option (List (List UInt8)) := if (pieces l).all wordB then some (pieces l) else none

theorem cutAt_ne (x : UInt8) (l : List UInt8) : cutAt x l ≠ [] := by
  cases l with
  | nil => simp [cutAt]
  | cons c r =>
    unfold cutAt
    split
    · simp
    · split <;> simp


/-- The first place of a byte. -/
def firstAt (c : UInt8) : List UInt8 → Option Nat
  | [] => none
  | x :: r => if x = c then some 0 else (firstAt c r).map (· + 1)
theorem firstAt_lt {c : UInt8} : ∀ {l : List UInt8} {i : Nat}, firstAt c l = some i → i < l.length
  | [], i, h => by simp [firstAt] at h
  | x :: r, i, h => by
    unfold firstAt at h
    split at h
    · cases h; simp
    · cases hr : firstAt c r with
      | none => rw [hr] at h; simp at h
      | some j => rw [hr] at h; simp at h; have := firstAt_lt hr; simp; omega
theorem firstAt_at {c : UInt8} : ∀ {l : List UInt8} {i : Nat}, firstAt c l = some i → l[i]? = some c ∧ ∀ k, k < i → l[k]? ≠ some c
  | [], i, h => by simp [firstAt] at h
  | x :: r, i, h => by
    unfold firstAt at h
    split at h
    · rename_i e
      cases h; subst e; simp
    · rename_i e
      cases hr : firstAt c r with
      | none => rw [hr] at h; simp at h
      | some j =>
        rw [hr] at h; simp at h
        obtain ⟨h1, h2⟩ := firstAt_at hr
        subst h
        refine ⟨by simpa using h1, fun k hk => ?_⟩
        cases k with
        | zero => simpa using e
        | succ k => simpa using h2 k (by omega)
theorem firstAt_none {c : UInt8} : ∀ {l : List UInt8}, firstAt c l = none → ∀ k : Nat, l[k]? ≠ some c
  | [], h => by simp
  | x :: r, h => by
    unfold firstAt at h
    split at h
    · cases h
    · rename_i e
      intro k
      cases k with
      | zero => simpa using e
      | succ k => simpa using firstAt_none (by simpa using h) k
/-- It is that place, if the byte stands there and not ahead of it. -/
theorem firstAt_is {c : UInt8} {l : List UInt8} {i : Nat} (h1 : l[i]? = some c) (h2 : ∀ k, k < i → l[k]? ≠ some c) : firstAt c l = some i := by
  cases h : firstAt c l with
  | none => exact absurd h1 (firstAt_none h i)
  | some j =>
    obtain ⟨h3, h4⟩ := firstAt_at h
    rcases Nat.lt_trichotomy i j with e | e | e
    · exact absurd h1 (h4 i e)
    · rw [e]
    · exact absurd h3 (h2 j e)
theorem firstAt_no {c : UInt8} {l : List UInt8} (h : ∀ k : Nat, l[k]? ≠ some c) : firstAt c l = none := by
  cases e : firstAt c l with
  | none => rfl
  | some j => exact absurd (firstAt_at e).1 (h j)

theorem cutAt_none {c : UInt8} : ∀ {l : List UInt8}, firstAt c l = none → cutAt c l = [l]
  | [], _ => rfl
  | x :: r, h => by
    unfold firstAt at h
    split at h
    · cases h
    · rename_i e
      unfold cutAt
      rw [if_neg e, cutAt_none (by simpa using h)]
theorem cutAt_some {c : UInt8} : ∀ {l : List UInt8} {i : Nat}, firstAt c l = some i → cutAt c l = l.take i :: cutAt c (l.drop (i + 1))
  | [], i, h => by simp [firstAt] at h
  | x :: r, i, h => by
    unfold firstAt at h
    split at h
    · rename_i e
      cases h
      simp [cutAt, e]
    · rename_i e
      cases hr : firstAt c r with
      | none => rw [hr] at h; simp at h
      | some j =>
        rw [hr] at h; simp at h
        subst h
        rw [show cutAt c (x :: r) = if x = c then [] :: cutAt c r else match cutAt c r with | a :: b => (x :: a) :: b | [] => [[x]] from rfl, if_neg e, cutAt_some hr]
        simp

/-- A name of XML: its prefix, and what stands behind it. -/
def splitO (l : List UInt8) : Option (List UInt8 × List UInt8) :=
  match firstAt 58 l with
  | none => if plainB l then some ([], l) else none
  | some i => if plainB (l.take i) && plainB (l.drop (i + 1)) then some (l.take i, l.drop (i + 1)) else none
def splitE (l : List UInt8) : Int := if (splitO l).isSome then 0 else 6
def splitA (l : List UInt8) : List UInt8 := match splitO l with | some p => p.1 | none => []
def splitB (l : List UInt8) : List UInt8 := match splitO l with | some p => p.2 | none => []


/-- Ahead of pos the characters are cs. -/
def Got (l : List UInt8) (pos : Nat) (cs : List Nat) : Prop := pos ≤ l.length ∧ cs.length ≤ pos ∧ chars l = (chars (l.drop pos)).map (cs ++ ·)
theorem Got.start (l : List UInt8) : Got l 0 [] := ⟨by omega, by simp, by rw [List.drop_zero]; cases chars l <;> simp⟩
theorem Got.stop {l : List UInt8} {pos : Nat} {cs : List Nat} (h : Got l pos cs) (hp : pos < l.length) (hr : (rune (l.drop pos)).2 = 0) : chars l = none := by
  rw [h.2.2, chars_none (fun e => by have := congrArg List.length e; simp at this; omega) hr]; rfl
theorem Got.next {l : List UInt8} {pos : Nat} {cs : List Nat} (h : Got l pos cs) (hr : (rune (l.drop pos)).2 ≠ 0) : Got l (pos + (rune (l.drop pos)).2) (cs ++ [(rune (l.drop pos)).1]) := by
  have h1 := rune_le (l.drop pos)
  obtain ⟨h2, h3, h4⟩ := h
  simp only [List.length_drop] at h1
  refine ⟨by omega, by simp; omega, ?_⟩
  rw [h4, chars_step hr, List.drop_drop]
  cases chars (l.drop (pos + (rune (l.drop pos)).2)) <;> simp
theorem Got.done {l : List UInt8} {pos : Nat} {cs : List Nat} (h : Got l pos cs) (hp : ¬ pos < l.length) : chars l = some cs := by
  rw [h.2.2, List.drop_of_length_le (by omega), chars_nil]; simp
theorem chars_len : ∀ (l : List UInt8) (cs : List Nat), chars l = some cs → cs.length ≤ l.length := by
  intro l
  refine by_chars (p := fun l => ∀ cs, chars l = some cs → cs.length ≤ l.length) ?_ ?_ ?_ l
  · intro cs h; rw [chars_nil] at h; cases h; simp
  · intro l h0 h cs hc; rw [chars_none h0 h] at hc; cases hc
  · intro l h ih cs hc
    have h1 := rune_le l
    rw [chars_step h] at hc
    cases hd : chars (l.drop (rune l).2) with
    | none => rw [hd] at hc; cases hc
    | some ds =>
      rw [hd] at hc; cases hc
      have := ih ds hd
      simp at this ⊢; omega

end Go.Proofs.Ytkpmkabddhpojaa.Names
