/- Layer 14, mathematics: heaps. Hangs on no program. -/
import Derived.Test.YtkpmkabddhpojaaRow
set_option linter.unusedVariables false
set_option linter.unusedSimpArgs false
namespace Go.Proofs.Ytkpmkabddhpojaa
namespace Or
/-- Two change places. -/
def sw (l : List Nat) (i j : Nat) : List Nat := (l.set i (l.getD j 0)).set j (l.getD i 0)
theorem sw_length (l : List Nat) (i j : Nat) : (sw l i j).length = l.length := by simp [sw]
theorem sw_at (l : List Nat) {i j : Nat} (hi : i < l.length) (hj : j < l.length) (c : Nat) : (sw l i j).getD c 0 = if c = j then l.getD i 0 else if c = i then l.getD j 0 else l.getD c 0 := by
  unfold sw
  simp only [List.getD_eq_getElem?_getD, List.getElem?_set, List.length_set]
  by_cases h1 : c = j
  · subst h1; simp [hj]
  · rw [if_neg (fun e => h1 e.symm), if_neg h1]
    by_cases h2 : c = i
    · subst h2; simp [hi]
    · rw [if_neg (fun e => h2 e.symm), if_neg h2]
theorem sw_perm (l : List Nat) {i j : Nat} (hi : i < l.length) (hj : j < l.length) : (sw l i j).Perm l := by
  have h := Array.swap_perm (xs := l.toArray) (i := i) (j := j) (by simpa using hi) (by simpa using hj)
  have h2 : (l.toArray.swap i j (by simpa using hi) (by simpa using hj)).toList = sw l i j := by
    simp [sw, Array.swap, hi, hj]
  rw [← h2]
  simpa [Array.perm_iff_toList_perm] using h

abbrev at_ (l : List Nat) (i : Nat) : Nat := l.getD i 0
/-- Each is no less than the one above it. -/
def HeapN (l : List Nat) (n : Nat) : Prop := ∀ c, 0 < c → c < n → l.getD ((c - 1) / 2) 0 ≤ l.getD c 0
abbrev Heap (l : List Nat) : Prop := HeapN l l.length
theorem heap_min {l : List Nat} {n : Nat} (h : HeapN l n) : ∀ i, i < n → l.getD 0 0 ≤ l.getD i 0 := by
  intro i
  induction i using Nat.strongRecOn with
  | ind i ih =>
    intro hi
    rcases Nat.eq_zero_or_pos i with rfl | h0
    · exact Nat.le_refl _
    · exact Nat.le_trans (ih ((i - 1) / 2) (by omega) (by omega)) (h i h0 hi)

/-- A heap but for j, which may be less than what is above it. -/
structure Upp (l : List Nat) (j : Nat) : Prop where
  lt : j < l.length
  a : ∀ c, 0 < c → c < l.length → c ≠ j → l.getD ((c - 1) / 2) 0 ≤ l.getD c 0
  b : ∀ c, 0 < c → c < l.length → (c - 1) / 2 = j → 0 < j → l.getD ((j - 1) / 2) 0 ≤ l.getD c 0
theorem getD_snoc (l : List Nat) (k i : Nat) : (l ++ [k]).getD i 0 = if i < l.length then l.getD i 0 else if i = l.length then k else 0 := by
  simp only [List.getD_eq_getElem?_getD]
  by_cases h : i < l.length
  · rw [if_pos h, List.getElem?_append_left h]
  · rw [if_neg h, List.getElem?_append_right (by omega)]
    by_cases h2 : i = l.length
    · subst h2; simp
    · rw [if_neg h2]
      have : ∃ m, i - l.length = m + 1 := ⟨i - l.length - 1, by omega⟩
      obtain ⟨m, hm⟩ := this
      rw [hm]; simp
theorem upp_push {l : List Nat} (h : Heap l) (k : Nat) : Upp (l ++ [k]) l.length where
  lt := by simp
  a := fun c h0 hc hne => by
    have hc' : c < l.length := by simp at hc; omega
    rw [getD_snoc, getD_snoc, if_pos (by omega), if_pos hc']
    exact h c h0 hc'
  b := fun c h0 hc he _ => by simp at hc; omega
theorem upp_stop {l : List Nat} {j : Nat} (h : Upp l j) (hs : j = 0 ∨ l.getD ((j - 1) / 2) 0 ≤ l.getD j 0) : Heap l := by
  intro c h0 hc
  by_cases e : c = j
  · subst e
    rcases hs with e | e
    · omega
    · exact e
  · exact h.a c h0 hc e
theorem upp_swap {l : List Nat} {j : Nat} (h : Upp l j) (h0 : 0 < j) (hl : l.getD j 0 < l.getD ((j - 1) / 2) 0) : Upp (sw l ((j - 1) / 2) j) ((j - 1) / 2) := by
  obtain ⟨i, hi⟩ : ∃ i, (j - 1) / 2 = i := ⟨_, rfl⟩
  rw [hi] at hl ⊢
  have hij : i < j := by omega
  have hjl := h.lt
  have hil : i < l.length := by omega
  have S := sw_at l hil hjl
  refine ⟨by rw [sw_length]; exact hil, fun c hc0 hc hne => ?_, fun c hc0 hc hp hi0 => ?_⟩
  · rw [sw_length] at hc
    rw [S, S]
    by_cases e1 : c = j
    · subst e1
      rw [hi, if_neg (by omega), if_pos rfl, if_pos rfl]; omega
    · rw [if_neg e1, if_neg hne]
      by_cases e2 : (c - 1) / 2 = j
      · rw [if_pos e2]
        have := h.b c hc0 hc e2 h0
        rwa [hi] at this
      · rw [if_neg e2]
        have ha := h.a c hc0 hc e1
        by_cases e3 : (c - 1) / 2 = i
        · rw [if_pos e3]
          rw [e3] at ha; omega
        · rw [if_neg e3]; exact ha
  · rw [sw_length] at hc
    rw [S, S, if_neg (by omega), if_neg (by omega)]
    have hi1 := h.a i hi0 hil (by omega)
    by_cases e1 : c = j
    · rw [if_pos e1]; exact hi1
    · rw [if_neg e1, if_neg (by omega)]
      have ha := h.a c hc0 hc e1
      rw [hp] at ha
      exact Nat.le_trans hi1 ha

/-- A heap below n but for i, which may be more than what is below it. -/
structure Dn (l : List Nat) (i n : Nat) : Prop where
  le : n ≤ l.length
  a : ∀ c, 0 < c → c < n → (c - 1) / 2 ≠ i → l.getD ((c - 1) / 2) 0 ≤ l.getD c 0
  b : 0 < i → ∀ c, 0 < c → c < n → (c - 1) / 2 = i → l.getD ((i - 1) / 2) 0 ≤ l.getD c 0
theorem dn_stop {l : List Nat} {i n : Nat} (h : Dn l i n) (hs : ∀ c, 0 < c → c < n → (c - 1) / 2 = i → l.getD i 0 ≤ l.getD c 0) : HeapN l n := by
  intro c h0 hc
  by_cases e : (c - 1) / 2 = i
  · rw [e]; exact hs c h0 hc e
  · exact h.a c h0 hc e
theorem dn_swap {l : List Nat} {i n j : Nat} (h : Dn l i n) (hj : j < n) (hj0 : 0 < j) (hp : (j - 1) / 2 = i) (hm : ∀ c, 0 < c → c < n → (c - 1) / 2 = i → l.getD j 0 ≤ l.getD c 0) (hl : l.getD j 0 < l.getD i 0) : Dn (sw l i j) j n := by
  have hle := h.le
  have hjl : j < l.length := by omega
  have hil : i < l.length := by omega
  have S := sw_at l hil hjl
  refine ⟨by rw [sw_length]; exact hle, fun c hc0 hc hne => ?_, fun _ c hc0 hc hpj => ?_⟩
  · rw [S, S, if_neg hne]
    by_cases e1 : (c - 1) / 2 = i
    · rw [if_pos e1]
      by_cases e2 : c = j
      · rw [if_pos e2]; omega
      · rw [if_neg e2, if_neg (by omega)]; exact hm c hc0 hc e1
    · rw [if_neg e1]
      have e2 : c ≠ j := fun e => e1 (by rw [e]; exact hp)
      rw [if_neg e2]
      by_cases e3 : c = i
      · rw [if_pos e3, e3]; exact h.b (by omega) j hj0 hj hp
      · rw [if_neg e3]; exact h.a c hc0 hc e1
  · rw [S, S, hp, if_neg (by omega), if_pos rfl, if_neg (by omega), if_neg (by omega)]
    have := h.a c hc0 hc (by omega)
    rwa [hpj] at this
theorem dn_pop {l : List Nat} {n : Nat} (h : Heap l) (hn : l.length = n + 1) : Dn (sw l 0 n) 0 n := by
  have S := sw_at l (i := 0) (j := n) (by omega) (by omega)
  refine ⟨by rw [sw_length]; omega, fun c hc0 hc hne => ?_, fun h0 => by omega⟩
  rw [S, S, if_neg (by omega), if_neg hne, if_neg (by omega), if_neg (by omega)]
  exact h c hc0 (by omega)
theorem take_heap {l : List Nat} {n : Nat} (h : HeapN l n) (hn : n ≤ l.length) : Heap (l.take n) := by
  intro c h0 hc
  rw [List.length_take, Nat.min_eq_left hn] at hc
  have e : ∀ k, k < n → (l.take n).getD k 0 = l.getD k 0 := fun k hk => by simp [List.getD_eq_getElem?_getD, List.getElem?_take, hk]
  rw [e _ (by omega), e _ hc]
  exact h c h0 hc
theorem take_last {l : List Nat} {n : Nat} (hn : l.length = n + 1) : l = l.take n ++ [l.getD n 0] := by
  have h := List.take_append_drop n l
  have : l.drop n = [l.getD n 0] := by
    have h3 : l.drop n = l[n] :: l.drop (n + 1) := List.drop_eq_getElem_cons (by omega)
    have h4 : l.drop (n + 1) = [] := List.drop_of_length_le (by omega)
    have h5 : l.getD n 0 = l[n] := by simp [show n < l.length by omega]
    rw [h3, h4, h5]
  rw [this] at h
  exact h.symm
end Or
end Go.Proofs.Ytkpmkabddhpojaa
