/- Plain mathematics of layer 2, continued: pieces between blanks, character by character. -/
import Derived.Test.YthggoohchjifnaaDoorNamesMath
set_option linter.unusedVariables false
set_option linter.unusedSimpArgs false
namespace Go.Proofs.YthggoohchjifnaaDoor.Names
open Go Go.Proofs.YthggoohchjifnaaDoor Go.Proofs.YthggoohchjifnaaDoor.Utf

theorem cutAt_cons (c a : UInt8) (r : List UInt8) : cutAt c (a :: r) = if a = c then [] :: cutAt c r else match cutAt c r with | p :: b => (a :: p) :: b | [] => [[a]] := rfl
theorem cutAt_snoc_same (c : UInt8) : ∀ m : List UInt8, cutAt c (m ++ [c]) = cutAt c m ++ [[]]
  | [] => by simp [cutAt]
  | a :: r => by
    have ih := cutAt_snoc_same c r
    rw [List.cons_append, cutAt_cons, cutAt_cons, ih]
    by_cases h : a = c
    · rw [if_pos h, if_pos h]; rfl
    · rw [if_neg h, if_neg h]
      cases hr : cutAt c r with
      | nil => exact absurd hr (cutAt_ne c r)
      | cons p b => rfl
theorem cutAt_snoc_other (c x : UInt8) (hx : x ≠ c) : ∀ (m : List UInt8) (ini : List (List UInt8)) (la : List UInt8), cutAt c m = ini ++ [la] → cutAt c (m ++ [x]) = ini ++ [la ++ [x]]
  | [], ini, la, h => by
    cases ini with
    | nil =>
      have e : la = [] := by simp [cutAt] at h; exact h
      subst e
      simp [cutAt, hx]
    | cons p q =>
      have := congrArg List.length h
      simp [cutAt] at this
  | a :: r, ini, la, h => by
    rw [List.cons_append, cutAt_cons]
    rw [cutAt_cons] at h
    by_cases e : a = c
    · rw [if_pos e] at h ⊢
      cases ini with
      | nil =>
        simp only [List.nil_append, List.cons.injEq] at h
        exact absurd h.2 (cutAt_ne c r)
      | cons p q =>
        simp only [List.cons_append, List.cons.injEq] at h
        rw [cutAt_snoc_other c x hx r q la h.2, ← h.1]; rfl
    · rw [if_neg e] at h ⊢
      cases hr : cutAt c r with
      | nil => exact absurd hr (cutAt_ne c r)
      | cons p b =>
        rw [hr] at h
        simp only at h
        cases ini with
        | nil =>
          simp only [List.nil_append, List.cons.injEq] at h
          obtain ⟨rfl, rfl⟩ := h
          rw [cutAt_snoc_other c x hx r [] p (by rw [hr]; rfl)]
          rfl
        | cons p' q =>
          simp only [List.cons_append, List.cons.injEq] at h
          obtain ⟨rfl, rfl⟩ := h
          rw [cutAt_snoc_other c x hx r (p :: q) la (by rw [hr]; rfl)]
          rfl
theorem cutAt_length (c : UInt8) : ∀ m : List UInt8, (cutAt c m).length ≤ m.length + 1
  | [] => by simp [cutAt]
  | a :: r => by
    have ih := cutAt_length c r
    rw [cutAt_cons]
    split
    · simp; omega
    · cases hr : cutAt c r with
      | nil => simp
      | cons p b => rw [hr] at ih; simp at ih ⊢; omega
theorem cutAt_piece (c : UInt8) : ∀ (m : List UInt8) (p : List UInt8), p ∈ cutAt c m → p.length ≤ m.length
  | [], p, h => by simp [cutAt] at h; simp [h]
  | a :: r, p, h => by
    rw [cutAt_cons] at h
    split at h
    · rcases List.mem_cons.1 h with rfl | h
      · simp
      · have := cutAt_piece c r p h; simp; omega
    · cases hr : cutAt c r with
      | nil => rw [hr] at h; simp at h; simp [h]
      | cons q b =>
        rw [hr] at h
        simp only at h
        rcases List.mem_cons.1 h with rfl | h
        · have := cutAt_piece c r q (by rw [hr]; simp); simp; omega
        · have := cutAt_piece c r p (by rw [hr]; simp [h]); simp; omega
theorem last_split (ps : List (List UInt8)) (h : ps ≠ []) : ∃ ini la, ps = ini ++ [la] := ⟨ps.dropLast, ps.getLast h, (List.dropLast_concat_getLast h).symm⟩
theorem set_last (ini : List (List UInt8)) (la lb : List UInt8) : strsOf (ini ++ [lb]) = (strsOf (ini ++ [la])).set ini.length (.string (text lb)) := by
  simp [strsOf]
theorem text_append (a b : List UInt8) : text a ++ text b = text (a ++ b) := by
  have h : (text a ++ text b).data.toList = (text (a ++ b)).data.toList := by
    rw [text_data, ByteArray.data_append]
    simp [text]
  generalize text a ++ text b = x at *
  generalize text (a ++ b) = y at *
  obtain ⟨⟨x⟩⟩ := x
  obtain ⟨⟨y⟩⟩ := y
  simp only at h
  rw [h]
theorem text_one (l : List UInt8) (k : Nat) (hk : k < l.length) : (text l).extract k (k + 1) = text [l[k]] := by
  rw [text_cut, Nat.add_sub_cancel_left]
  congr 1
  rw [List.drop_eq_getElem_cons hk]; rfl
end Go.Proofs.YthggoohchjifnaaDoor.Names
