/- Plain mathematics of layer 2, for the statements without the document's answers: names put one behind the other. -/
import Derived.Test.YthggoohchjifnaaDoorNamesMath2
import Derived.Test.YthggoohchjifnaaDoorUtfL
set_option linter.unusedVariables false
set_option linter.unusedSimpArgs false
namespace Go.Proofs.YthggoohchjifnaaDoor.Utf
open Go Go.Proofs.YthggoohchjifnaaDoor
set_option maxRecDepth 100000


theorem chk_fst {x j : Nat} (h : (chk x j).2 ≠ 0) : chk x j = (x, j) := by
  rcases chk_cases x j with e | ⟨e, _⟩
  · rw [e] at h; exact absurd rfl h
  · exact e
/-- A byte below 128 is a character of its own. -/
theorem runeN_low (n b0 b1 b2 b3 : Nat) (h : (runeN n b0 b1 b2 b3).2 ≠ 0) (hl : b0 < 128 ∨ (1 < (runeN n b0 b1 b2 b3).2 ∧ b1 < 128) ∨ (2 < (runeN n b0 b1 b2 b3).2 ∧ b2 < 128) ∨ (3 < (runeN n b0 b1 b2 b3).2 ∧ b3 < 128)) : runeN n b0 b1 b2 b3 = (b0, 1) := by
  unfold runeN at h hl ⊢
  by_cases e : n = 0
  · rw [if_pos e] at h; exact absurd rfl h
  rw [if_neg e] at h hl ⊢
  by_cases e0 : b0 < 128
  · rw [if_pos e0] at h hl ⊢
    exact chk_fst h
  rw [if_neg e0] at h hl ⊢
  by_cases e1 : b0 < 192
  · rw [if_pos e1] at h; exact absurd rfl h
  rw [if_neg e1] at h hl ⊢
  by_cases e2 : b0 < 224
  · rw [if_pos e2] at h hl ⊢
    by_cases c : 2 ≤ n ∧ b1 / 64 = 2
    · rw [if_pos c] at h hl ⊢
      rw [chk_fst h] at hl
      simp only at hl; omega
    · rw [if_neg c] at h; exact absurd rfl h
  rw [if_neg e2] at h hl ⊢
  by_cases e3 : b0 < 240
  · rw [if_pos e3] at h hl ⊢
    by_cases c : 3 ≤ n ∧ b1 / 64 = 2 ∧ b2 / 64 = 2
    · rw [if_pos c] at h hl ⊢
      rw [chk_fst h] at hl
      simp only at hl; omega
    · rw [if_neg c] at h; exact absurd rfl h
  rw [if_neg e3] at h hl ⊢
  by_cases e4 : b0 < 248
  · rw [if_pos e4] at h hl ⊢
    by_cases c : 4 ≤ n ∧ b1 / 64 = 2 ∧ b2 / 64 = 2 ∧ b3 / 64 = 2
    · rw [if_pos c] at h hl ⊢
      rw [chk_fst h] at hl
      simp only at hl; omega
    · rw [if_neg c] at h; exact absurd rfl h
  rw [if_neg e4] at h; exact absurd rfl h
theorem rune_low {l : List UInt8} (h : (rune l).2 ≠ 0) {j : Nat} (hj : j < (rune l).2) (hb : nth l j < 128) : rune l = (nth l 0, 1) := by
  have h4 := (rune_le l).2
  unfold rune at h hj h4 ⊢
  refine runeN_low _ _ _ _ _ h ?_
  rcases (by omega : j = 0 ∨ j = 1 ∨ j = 2 ∨ j = 3) with rfl | rfl | rfl | rfl
  · exact .inl hb
  · exact .inr (.inl ⟨hj, hb⟩)
  · exact .inr (.inr (.inl ⟨hj, hb⟩))
  · exact .inr (.inr (.inr ⟨hj, hb⟩))
end Go.Proofs.YthggoohchjifnaaDoor.Utf

namespace Go.Proofs.YthggoohchjifnaaDoor.Names
open Go Go.Proofs.YthggoohchjifnaaDoor Go.Proofs.YthggoohchjifnaaDoor.Utf
set_option maxRecDepth 100000

theorem rune_append {a : List UInt8} (b : List UInt8) (h : (rune a).2 ≠ 0) : rune (a ++ b) = rune a := by
  have h1 := rune_le a
  exact rune_own a (a ++ b) _ rfl h (by simp; omega) (fun i hi => nth_append_left a b i (by omega))
theorem drop_append_le (a b : List UInt8) (k : Nat) (h : k ≤ a.length) : (a ++ b).drop k = a.drop k ++ b := by
  rw [List.drop_append_of_le_length h]
/-- Characters, put one behind the other. -/
theorem chars_append : ∀ (a : List UInt8) (b : List UInt8) (cs : List Nat), chars a = some cs → chars (a ++ b) = (chars b).map (cs ++ ·) := by
  intro a b
  refine by_chars (p := fun a => ∀ cs, chars a = some cs → chars (a ++ b) = (chars b).map (cs ++ ·)) ?_ ?_ ?_ a
  · intro cs h
    rw [chars_nil] at h; cases h
    rw [List.nil_append]
    cases chars b <;> simp
  · intro a h0 h cs hc
    rw [chars_none h0 h] at hc; cases hc
  · intro a h ih cs hc
    rw [chars_step h] at hc
    cases hd : chars (a.drop (rune a).2) with
    | none => rw [hd] at hc; cases hc
    | some ds =>
      rw [hd] at hc; cases hc
      have h1 := rune_append b h
      have h2 : (rune (a ++ b)).2 ≠ 0 := by rw [h1]; exact h
      rw [chars_step h2, h1, drop_append_le a b _ (rune_le a).1, ih ds hd]
      cases chars b <;> simp

theorem shp_iff {p q : Int → Bool} {l : List UInt8} : shp p q l = true ↔ ∃ (c : Nat) (cs : List Nat), chars l = some (c :: cs) ∧ p c = true ∧ cs.all (fun c => q c) = true := by
  unfold shp
  constructor
  · intro h
    cases hc : chars l with
    | none => rw [hc] at h; cases h
    | some ds =>
      cases ds with
      | nil => rw [hc] at h; cases h
      | cons c cs =>
        rw [hc] at h
        simp only [Bool.and_eq_true] at h
        exact ⟨c, cs, rfl, h.1, h.2⟩
  · rintro ⟨c, cs, hc, h1, h2⟩
    rw [hc]; simp only [h1, h2, Bool.and_self]
theorem shp_append {p q : Int → Bool} {a b : List UInt8} {ds : List Nat} (h : shp p q a = true) (hb : chars b = some ds) : shp p q (a ++ b) = ds.all (fun c => q c) := by
  obtain ⟨c, cs, hc, h1, h2⟩ := shp_iff.1 h
  have e := chars_append a b _ hc
  rw [hb] at e
  unfold shp
  rw [e]
  simp only [Option.map_some, List.cons_append, h1, Bool.true_and, List.all_append, h2]
/-- A byte below 128 that is of no kind stands nowhere in a name. -/
theorem allq_no {q : Int → Bool} {x : UInt8} (hx : x.toNat < 128) (hq : q (x.toNat : Nat) = false) : ∀ l : List UInt8, allq q l = true → ∀ i : Nat, l[i]? ≠ some x := by
  intro l
  refine by_chars (p := fun l => allq q l = true → ∀ i : Nat, l[i]? ≠ some x) ?_ ?_ ?_ l
  · intro _ i; simp
  · intro l h0 h ha; rw [allq_bad h0 h] at ha; cases ha
  · intro l h ih ha i hi
    rw [allq_step h, Bool.and_eq_true] at ha
    have hlt := (List.getElem?_eq_some_iff.1 hi).1
    have hn : nth l i = x.toNat := by
      rw [List.getElem?_eq_getElem hlt] at hi
      rw [← nth_get hlt, Option.some.inj hi]
    rcases Nat.lt_or_ge i (rune l).2 with hlt2 | hge
    · have hr := rune_low h hlt2 (by omega)
      rw [hr] at ha hlt2
      have : i = 0 := by simpa using hlt2
      subst this
      rw [hn] at ha
      simp only at ha
      rw [hq] at ha
      exact absurd ha.1 (by simp)
    · refine ih ha.2 (i - (rune l).2) ?_
      rw [List.getElem?_drop, Nat.add_sub_cancel' hge]; exact hi
theorem shp_no {p q : Int → Bool} {x : UInt8} (hx : x.toNat < 128) (hp : p (x.toNat : Nat) = false) (hq : q (x.toNat : Nat) = false) {l : List UInt8} (h : shp p q l = true) : ∀ i : Nat, l[i]? ≠ some x := by
  intro i hi
  by_cases h0 : (rune l).2 = 0
  · rw [shp_bad h0] at h; cases h
  · rw [shp_step h0, Bool.and_eq_true] at h
    have hlt := (List.getElem?_eq_some_iff.1 hi).1
    have hn : nth l i = x.toNat := by
      rw [List.getElem?_eq_getElem hlt] at hi
      rw [← nth_get hlt, Option.some.inj hi]
    rcases Nat.lt_or_ge i (rune l).2 with hlt2 | hge
    · have hr := rune_low h0 hlt2 (by omega)
      rw [hr] at h hlt2
      have : i = 0 := by simpa using hlt2
      subst this
      rw [hn] at h
      simp only at h
      rw [hp] at h
      exact absurd h.1 (by simp)
    · refine allq_no hx hq _ h.2 (i - (rune l).2) ?_
      rw [List.getElem?_drop, Nat.add_sub_cancel' hge]; exact hi

theorem plain_no_colon {l : List UInt8} (h : plainB l = true) : firstAt 58 l = none := firstAt_no (shp_no (by decide) (by decide) (by decide) h)
theorem wordy_no_blank {l : List UInt8} (h : wordyB l = true) : firstAt 32 l = none := firstAt_no (shp_no (by decide) (by decide) (by decide) h)
theorem word_wordy {l : List UInt8} (h : wordB l = true) : wordyB l = true := by unfold wordB at h; rw [Bool.and_eq_true] at h; exact h.1

/-- The first place, in two texts with that byte between. -/
theorem firstAt_between {c : UInt8} {a : List UInt8} (b : List UInt8) (h : firstAt c a = none) : firstAt c (a ++ c :: b) = some a.length := by
  refine firstAt_is (by simp) fun k hk => ?_
  rw [List.getElem?_append_left hk]
  exact firstAt_none h k
theorem firstAt_ahead {c : UInt8} {a : List UInt8} {i : Nat} (b : List UInt8) (h : firstAt c a = some i) : firstAt c (a ++ b) = some i := by
  have hl := firstAt_lt h
  obtain ⟨h1, h2⟩ := firstAt_at h
  refine firstAt_is (by rw [List.getElem?_append_left hl]; exact h1) fun k hk => ?_
  rw [List.getElem?_append_left (by omega)]
  exact h2 k hk

theorem split_between (s t : List UInt8) : splitO (s ++ 58 :: t) = if plainB s && plainB t then some (s, t) else none := by
  cases h : firstAt 58 s with
  | none =>
    unfold splitO
    rw [firstAt_between t h]
    simp only [List.take_left]
    rw [show (s ++ 58 :: t).drop (s.length + 1) = t from by rw [List.drop_append]; simp]
  | some i =>
    have hl := firstAt_lt h
    have hs : plainB s = false := by
      cases hp : plainB s
      · rfl
      · rw [plain_no_colon hp] at h; cases h
    unfold splitO
    rw [firstAt_ahead _ h, hs, Bool.false_and]
    simp only
    have hq : plainB ((s ++ 58 :: t).drop (i + 1)) = false := by
      cases hp : plainB ((s ++ 58 :: t).drop (i + 1))
      · rfl
      · have := firstAt_none (plain_no_colon hp) (s.length - (i + 1))
        rw [List.getElem?_drop] at this
        rw [show i + 1 + (s.length - (i + 1)) = s.length from by omega] at this
        simp at this
    rw [hq, Bool.and_false]
    rfl
theorem split_plain {s : List UInt8} (h : plainB s = true) : splitO s = some ([], s) := by
  unfold splitO; rw [plain_no_colon h]; simp only [h, if_true]
theorem split_two (s t : List UInt8) : splitO ((s ++ 58 :: t) ++ 58 :: s) = none := by
  rw [split_between]
  have : plainB (s ++ 58 :: t) = false := by
    cases hp : plainB (s ++ 58 :: t)
    · rfl
    · have := firstAt_none (plain_no_colon hp) s.length
      simp at this
  rw [this, Bool.false_and]; rfl

/-- A digit behind a name is a part of it; ahead it isn't; a blank isn't. -/
theorem chars_seven : chars [55] = some [55] := by decide +kernel
theorem chars_blank : chars [32] = some [32] := by decide +kernel
theorem plain_seven {s : List UInt8} (h : plainB s = true) : plainB (s ++ [55]) = true := by
  unfold plainB; rw [shp_append h chars_seven]; decide
theorem wordy_seven {s : List UInt8} (h : wordyB s = true) : wordyB (s ++ [55]) = true := by
  unfold wordyB; rw [shp_append h chars_seven]; decide
theorem plain_blank {s : List UInt8} (h : plainB s = true) : plainB (s ++ [32]) = false := by
  unfold plainB; rw [shp_append h chars_blank]; decide
theorem rune_seven (s : List UInt8) : rune (55 :: s) = (55, 1) := by
  have h := rune_append (a := [55]) s (by decide +kernel)
  rw [List.cons_append, List.nil_append] at h
  rw [h]; decide +kernel
theorem seven_plain (s : List UInt8) : plainB (55 :: s) = false := by
  unfold plainB; rw [shp_step (by rw [rune_seven]; decide), rune_seven, show Utf.first ((55 : Nat) : Int) = false from by decide, Bool.false_and]
theorem seven_wordy (s : List UInt8) : wordyB (55 :: s) = false := by
  unfold wordyB; rw [shp_step (by rw [rune_seven]; decide), rune_seven, show Utf.first ((55 : Nat) : Int) = false from by decide, Bool.false_and]
theorem wordy_plain {s : List UInt8} (h : wordyB s = true) : plainB s = true := by
  obtain ⟨c, cs, hc, h1, h2⟩ := shp_iff.1 h
  refine shp_iff.2 ⟨c, cs, hc, h1, ?_⟩
  rw [List.all_eq_true] at h2 ⊢
  intro x hx
  have := h2 x hx
  rw [Utf.part_iff]
  exact .inl this
theorem keys_end : (keys.all fun k => decide (k.getLast? ≠ some 55)) = true := by decide +kernel
theorem word_seven {s : List UInt8} (h : wordB s = true) : wordB (s ++ [55]) = true := by
  unfold wordB
  rw [wordy_seven (word_wordy h), Bool.true_and, Bool.not_eq_true', keyB, ← Bool.not_eq_true, List.contains_iff_mem]
  intro hm
  have := List.all_eq_true.1 keys_end _ hm
  simp at this
theorem seven_word (s : List UInt8) : wordB (55 :: s) = false := by unfold wordB; rw [seven_wordy, Bool.false_and]
theorem words_one {s : List UInt8} (h : wordB s = true) : wordsO s = some [s] := by
  unfold wordsO pieces
  rw [cutAt_none (wordy_no_blank (word_wordy h))]
  simp [h]

/-- The pieces of two texts with a blank between are those of both. -/
theorem pieces_between (s t : List UInt8) : pieces (s ++ 32 :: t) = pieces s ++ pieces t := by
  unfold pieces
  induction s with
  | nil => simp [cutAt]
  | cons a r ih =>
    rw [List.cons_append, cutAt_cons, cutAt_cons, ih]
    by_cases h : a = 32
    · rw [if_pos h, if_pos h]; rfl
    · rw [if_neg h, if_neg h]
      cases hr : cutAt 32 r with
      | nil => exact absurd hr (cutAt_ne 32 r)
      | cons p b => rfl
theorem words_between (s t : List UInt8) : wordsO (s ++ 32 :: t) = match wordsO s, wordsO t with | some a, some b => some (a ++ b) | _, _ => none := by
  unfold wordsO
  rw [pieces_between, List.all_append]
  cases h1 : (pieces s).all wordB <;> cases h2 : (pieces t).all wordB <;> simp
theorem pieces_nil : pieces [] = [[]] := rfl
theorem word_nil : wordB [] = false := by decide +kernel
theorem words_nil : wordsO [] = none := by unfold wordsO; rw [pieces_nil]; simp [word_nil]

/-- Words with a blank between two. -/
def joined : List (List UInt8) → List UInt8
  | [] => []
  | [a] => a
  | a :: b :: r => a ++ 32 :: joined (b :: r)
theorem joined_cut : ∀ l : List UInt8, joined (pieces l) = l
  | [] => rfl
  | a :: r => by
    have ih := joined_cut r
    unfold pieces at ih ⊢
    rw [cutAt_cons]
    cases hr : cutAt 32 r with
    | nil => exact absurd hr (cutAt_ne 32 r)
    | cons p b =>
      rw [hr] at ih
      by_cases h : a = 32
      · rw [if_pos h]
        simp only [joined, List.nil_append]
        rw [ih, h]
      · rw [if_neg h]
        cases b with
        | nil => simp only [joined] at ih ⊢; rw [ih]
        | cons q c => simp only [joined] at ih ⊢; rw [← ih]; rfl
theorem joined_snoc : ∀ (ws : List (List UInt8)) (w : List UInt8), ws ≠ [] → joined (ws ++ [w]) = joined ws ++ 32 :: w
  | [], w, h => absurd rfl h
  | [a], w, _ => rfl
  | a :: b :: r, w, _ => by
    have ih := joined_snoc (b :: r) w (by simp)
    simp only [List.cons_append, joined] at ih ⊢
    rw [ih]; simp
theorem joined_len : ∀ (ws : List (List UInt8)) (k : Nat), (joined (ws.take k)).length ≤ (joined ws).length
  | [], k => by simp
  | [a], k => by cases k <;> simp [joined]
  | a :: b :: r, 0 => by simp [joined]
  | a :: b :: r, 1 => by simp [joined]
  | a :: b :: r, k + 2 => by
    have ih := joined_len (b :: r) (k + 1)
    simp only [List.take_succ_cons, joined] at ih ⊢
    simp only [List.length_append, List.length_cons] at ih ⊢
    omega

/-- A beginning of a name, cut between characters, is one. -/
theorem shp_begin {p q : Int → Bool} {l : List UInt8} {pos : Nat} (h : shp p q l = true) (hp : pos < l.length) (hh : pos = 0 ∨ (shp p q (l.take pos) = true ∧ allq q (l.drop pos) = true)) :
    (rune (l.drop pos)).2 ≠ 0 ∧ shp p q (l.take (pos + (rune (l.drop pos)).2)) = true ∧ allq q (l.drop (pos + (rune (l.drop pos)).2)) = true := by
  have hr := rune_le (l.drop pos)
  have hdl : (l.drop pos).length = l.length - pos := by simp
  have htk : l.take (pos + (rune (l.drop pos)).2) = l.take pos ++ (l.drop pos).take (rune (l.drop pos)).2 := by rw [List.take_add]
  -- the characters of one character's bytes
  have one : (rune (l.drop pos)).2 ≠ 0 → chars ((l.drop pos).take (rune (l.drop pos)).2) = some [(rune (l.drop pos)).1] := by
    intro hne
    have e : rune ((l.drop pos).take (rune (l.drop pos)).2) = rune (l.drop pos) := rune_own (l.drop pos) _ _ rfl hne (by simp; omega) (fun i hi => nth_take _ _ _ hi)
    have e3 : ((l.drop pos).take (rune (l.drop pos)).2).drop (rune (l.drop pos)).2 = [] := by simp
    rw [chars_step (by rw [e]; exact hne), e, e3, chars_nil]
    rfl
  rcases hh with rfl | ⟨h1, h2⟩
  · rw [List.drop_zero] at *
    by_cases hne : (rune l).2 = 0
    · rw [shp_bad hne] at h; cases h
    · rw [shp_step hne, Bool.and_eq_true] at h
      refine ⟨hne, ?_, by rw [Nat.zero_add]; exact h.2⟩
      rw [Nat.zero_add]
      exact shp_iff.2 ⟨_, [], one hne, h.1, rfl⟩
  · have h0 : l.drop pos ≠ [] := fun e => by rw [e] at hdl; simp at hdl; omega
    by_cases hne : (rune (l.drop pos)).2 = 0
    · rw [allq_bad h0 hne] at h2; cases h2
    · rw [allq_step hne, Bool.and_eq_true, List.drop_drop] at h2
      refine ⟨hne, ?_, h2.2⟩
      rw [htk, shp_append h1 (one hne)]
      simp [h2.1]
end Go.Proofs.YthggoohchjifnaaDoor.Names
