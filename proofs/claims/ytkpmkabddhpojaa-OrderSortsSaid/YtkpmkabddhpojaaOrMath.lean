/- Layer 14, mathematics: things that need others: what is laid in order, what is reached, what is stuck. Hangs on no program. -/
import Derived.Test.YtkpmkabddhpojaaRow
set_option linter.unusedVariables false
set_option linter.unusedSimpArgs false
namespace Go.Proofs.Ytkpmkabddhpojaa
namespace Or

/-- What the thing t needs. -/
def row (N : List (List Nat)) (t : Nat) : List Nat := N.getD t []
/-- All numbers are those of things. -/
def Right (N : List (List Nat)) : Prop := ∀ r ∈ N, ∀ k ∈ r, k < N.length
/-- All that t needs is laid, and t isn't. -/
def fits (N : List (List Nat)) (out : List Nat) (t : Nat) : Bool := !(out.contains t) && (row N t).all fun k => out.contains k
def pick (N : List (List Nat)) (line out : List Nat) : Option Nat := line.find? (fits N out)
/-- What is laid, thing by thing, the first in line that may be. -/
inductive Gr (N : List (List Nat)) (line : List Nat) : List Nat → Prop
  | nil : Gr N line []
  | step {out : List Nat} {t : Nat} : Gr N line out → pick N line out = some t → Gr N line (out ++ [t])
def Done (N : List (List Nat)) (line out : List Nat) : Prop := Gr N line out ∧ pick N line out = none

theorem fits_iff (N : List (List Nat)) (out : List Nat) (t : Nat) : fits N out t = true ↔ t ∉ out ∧ ∀ k ∈ row N t, k ∈ out := by
  simp [fits]
theorem row_lt {N : List (List Nat)} (h : Right N) {t k : Nat} (hk : k ∈ row N t) : k < N.length ∧ t < N.length := by
  unfold row at hk
  rcases Nat.lt_or_ge t N.length with ht | ht
  · rw [List.getD_eq_getElem?_getD, List.getElem?_eq_getElem ht] at hk
    exact ⟨h _ (List.getElem_mem ht) _ hk, ht⟩
  · rw [List.getD_eq_getElem?_getD, List.getElem?_eq_none ht] at hk
    simp at hk

theorem pick_some {N : List (List Nat)} {line out : List Nat} {t : Nat} (h : pick N line out = some t) : t ∈ line ∧ t ∉ out ∧ ∀ k ∈ row N t, k ∈ out := by
  have h1 := List.find?_some h
  have h2 := List.mem_of_find?_eq_some h
  exact ⟨h2, (fits_iff _ _ _).1 h1⟩
theorem pick_none {N : List (List Nat)} {line out : List Nat} : pick N line out = none ↔ ∀ t ∈ line, fits N out t = false := by
  unfold pick; rw [List.find?_eq_none]; simp

theorem snoc_inv {α : Type} {a b : List α} {x y : α} (h : a ++ [x] = b ++ [y]) : a = b ∧ x = y := by
  have := List.append_inj' h rfl
  simpa using this

theorem Gr.take {N : List (List Nat)} {line b : List Nat} (h : Gr N line b) : ∀ p c r, b = p ++ c :: r → Gr N line p ∧ pick N line p = some c := by
  induction h with
  | nil => intro p c r e; simp at e
  | @step out t hg hp ih =>
    intro p c r e
    rcases List.eq_nil_or_concat r with rfl | ⟨r', z, rfl⟩
    · obtain ⟨rfl, rfl⟩ := snoc_inv e
      exact ⟨hg, hp⟩
    · have e2 : out ++ [t] = (p ++ c :: r') ++ [z] := by simpa [List.concat_eq_append] using e
      obtain ⟨rfl, rfl⟩ := snoc_inv e2
      exact ih p c r' rfl

theorem Gr.pre {N : List (List Nat)} {line a b : List Nat} (h : Gr N line a) (hb : Done N line b) : ∃ r, b = a ++ r := by
  induction h with
  | nil => exact ⟨b, rfl⟩
  | @step out t hg hp ih =>
    obtain ⟨r, rfl⟩ := ih
    cases r with
    | nil => rw [List.append_nil] at hb; rw [hb.2] at hp; cases hp
    | cons c r =>
      have := (hb.1.take out c r rfl).2
      rw [this] at hp
      injection hp with hp
      subst hp
      exact ⟨r, by simp⟩
/-- There is one. -/
theorem Done.unique {N : List (List Nat)} {line a b : List Nat} (h : Done N line a) (k : Done N line b) : a = b := by
  obtain ⟨r, rfl⟩ := h.1.pre k
  obtain ⟨s, e⟩ := k.1.pre h
  rw [List.append_assoc] at e
  have := List.append_cancel_left (as := a) (bs := []) (cs := r ++ s) (by simpa using e)
  have : r = [] := by
    rcases r with _ | ⟨x, r⟩
    · rfl
    · simp at this
  simp [this]

theorem Gr.mem {N : List (List Nat)} {line a : List Nat} (h : Gr N line a) : ∀ t ∈ a, t ∈ line := by
  induction h with
  | nil => simp
  | @step out t hg hp ih =>
    intro x hx
    rcases List.mem_append.1 hx with hx | hx
    · exact ih x hx
    · simp at hx; subst hx; exact (pick_some hp).1
theorem Gr.nodup {N : List (List Nat)} {line a : List Nat} (h : Gr N line a) : a.Nodup := by
  induction h with
  | nil => simp
  | @step out t hg hp ih =>
    rw [List.nodup_append]
    refine ⟨ih, by simp, fun x hx y hy => ?_⟩
    simp at hy; subst hy
    rintro rfl
    exact (pick_some hp).2.1 hx
/-- What is laid has its needs laid. -/
theorem Gr.needs {N : List (List Nat)} {line a : List Nat} (h : Gr N line a) : ∀ t ∈ a, ∀ k ∈ row N t, k ∈ a := by
  induction h with
  | nil => simp
  | @step out t hg hp ih =>
    intro x hx k hk
    rcases List.mem_append.1 hx with hx | hx
    · exact List.mem_append_left _ (ih x hx k hk)
    · simp at hx; subst hx
      exact List.mem_append_left _ ((pick_some hp).2.2 k hk)
/-- Each stands behind all that it needs. -/
theorem Gr.behind {N : List (List Nat)} {line a : List Nat} (h : Gr N line a) : ∀ p t r, a = p ++ t :: r → ∀ k ∈ row N t, k ∈ p := by
  intro p t r e
  exact (pick_some (h.take p t r e).2).2.2

/-- So many different numbers below n are no more than n. -/
theorem nodup_le : ∀ (n : Nat) (l : List Nat), l.Nodup → (∀ x ∈ l, x < n) → l.length ≤ n
  | 0, l, _, h => by
    cases l with
    | nil => simp
    | cons x l => exact absurd (h x (by simp)) (by omega)
  | n + 1, l, hd, h => by
    by_cases hm : n ∈ l
    · have h1 := nodup_le n (l.erase n) (hd.erase n) (fun x hx => by
        have h2 : x ∈ l := List.mem_of_mem_erase hx
        have h3 : x ≠ n := by
          rintro rfl
          exact (List.Nodup.not_mem_erase hd) hx
        have := h x h2; omega)
      rw [List.length_erase_of_mem hm] at h1
      omega
    · have := nodup_le n l hd (fun x hx => by
        have h2 := h x hx
        have : x ≠ n := by rintro rfl; exact hm hx
        omega)
      omega
/-- n different numbers below n are all of them. -/
theorem nodup_full (n : Nat) (l : List Nat) (hd : l.Nodup) (h : ∀ x ∈ l, x < n) (hl : n ≤ l.length) : ∀ x, x < n → x ∈ l := by
  intro x hx
  false_or_by_contra
  rename_i hn
  have := nodup_le n (x :: l) (List.nodup_cons.2 ⟨hn, hd⟩) (by simp; exact ⟨hx, h⟩)
  simp at this; omega

/-- Where all things stand in line, in either order the same are laid. -/
theorem Done.same {N : List (List Nat)} {la lb a b : List Nat} (h : Done N la a) (k : Done N lb b) (hm : ∀ t, t ∈ la ↔ t ∈ lb) : ∀ t, t ∈ a → t ∈ b := by
  have key : ∀ {a}, Gr N la a → ∀ t ∈ a, t ∈ b := by
    intro a hg
    induction hg with
    | nil => simp
    | @step out t hg hp ih =>
      intro x hx
      rcases List.mem_append.1 hx with hx | hx
      · exact ih x hx
      · simp at hx; subst hx
        false_or_by_contra
        rename_i hn
        have h1 := pick_some hp
        have h2 := pick_none.1 k.2 x ((hm x).1 h1.1)
        have h3 : fits N b x = true := (fits_iff _ _ _).2 ⟨hn, fun k hk => ih _ (h1.2.2 k hk)⟩
        rw [h3] at h2; cases h2
  exact key h.1

/-- The things that are marked so, rising. -/
def on (m : List Bool) (so : Bool) : List Nat := (List.range m.length).filter fun t => m.getD t false == so
theorem mem_on {m : List Bool} {so : Bool} {t : Nat} : t ∈ on m so ↔ t < m.length ∧ m.getD t false = so := by
  simp [on]
/-- What is reached from a. -/
inductive Rch (N : List (List Nat)) (a : Nat) : Nat → Prop
  | self : Rch N a a
  | step {b c : Nat} : Rch N a b → c ∈ row N b → Rch N a c
theorem Rch.trans {N : List (List Nat)} {a b c : Nat} (h : Rch N a b) (k : Rch N b c) : Rch N a c := by
  induction k with
  | self => exact h
  | step _ hc ih => exact ih.step hc
theorem Rch.lt {N : List (List Nat)} (hr : Right N) {a b : Nat} (h : Rch N a b) (ha : a < N.length) : b < N.length := by
  cases h with
  | self => exact ha
  | step _ hc => exact (row_lt hr hc).1
/-- What is in a set that has a and all that what is in it needs. -/
theorem Rch.closed {N : List (List Nat)} {a b : Nat} (h : Rch N a b) {S : Nat → Prop} (ha : S a) (hs : ∀ b, S b → ∀ c ∈ row N b, S c) : S b := by
  induction h with
  | self => exact ha
  | step _ hc ih => exact hs _ ih _ hc
theorem on_eq {m m' : List Bool} {so : Bool} (hl : m.length = m'.length) (h : ∀ t < m.length, (m.getD t false = so ↔ m'.getD t false = so)) : on m so = on m' so := by
  unfold on
  rw [← hl]
  apply List.filter_congr
  intro t ht
  have := h t (by simpa using ht)
  by_cases h1 : m.getD t false = so
  · rw [h1, this.1 h1]
  · have h2 : ¬ m'.getD t false = so := fun e => h1 (this.2 e)
    simp only [beq_eq_false_iff_ne.2 h1, beq_eq_false_iff_ne.2 h2]

/-- The things that are stuck. -/
def stuck (n : Nat) (out : List Nat) : List Nat := (List.range n).filter fun t => !(out.contains t)
theorem mem_stuck {n t : Nat} {out : List Nat} : t ∈ stuck n out ↔ t < n ∧ t ∉ out := by simp [stuck]

end Or
end Go.Proofs.Ytkpmkabddhpojaa
