/- Layer 9, mathematics that hangs on no program: names that begin with a text, in their order; the longest among names of two rows. -/
import Derived.Test.YthggoohchjifnaaDoorScMath
import Derived.Test.YthggoohchjifnaaDoorNamesMath3
set_option linter.unusedVariables false
set_option linter.unusedSimpArgs false
namespace Go.Proofs.YthggoohchjifnaaDoor.Sc
open Go Go.Op Go.Proofs.YthggoohchjifnaaDoor Go.Proofs.YthggoohchjifnaaDoor.Names

theorem less_pre : ∀ (p a b : List UInt8), bytesLess (p ++ a) (p ++ b) = bytesLess a b
  | [], _, _ => rfl
  | c :: p, a, b => by
    have h := less_pre p a b
    show (decide (c < c) || (c == c && bytesLess (p ++ a) (p ++ b))) = _
    rw [h]
    simp
theorem pre_less {x a : List UInt8} (h : x.isPrefixOf a = true) : bytesLess a x = false := by
  obtain ⟨b, rfl⟩ := List.isPrefixOf_iff_prefix.1 h
  have := less_pre x b []
  rw [List.append_nil] at this
  rw [this, less_nil]
theorem pre_down : ∀ {x a b : List UInt8}, x.isPrefixOf b = true → bytesLess a x = false → bytesLess a b = true → x.isPrefixOf a = true
  | [], a, b, _, _, _ => by cases a <;> rfl
  | c :: x, a, [], h, _, _ => by simp [List.isPrefixOf] at h
  | c :: x, [], d :: b, _, h2, _ => by simp [bytesLess] at h2
  | c :: x, e :: a, d :: b, h, h2, h3 => by
    simp only [List.isPrefixOf, Bool.and_eq_true, beq_iff_eq] at h ⊢
    obtain ⟨rfl, h⟩ := h
    rw [less_cons] at h3
    have h2' : ¬ (e < c ∨ (e = c ∧ bytesLess a x = true)) := fun k => by rw [less_cons.2 k] at h2; cases h2
    have hne : ¬ e < c := fun k => h2' (.inl k)
    obtain ⟨e1, h3'⟩ := h3.resolve_left hne
    subst e1
    refine ⟨rfl, pre_down h ?_ h3'⟩
    cases h4 : bytesLess a x
    · rfl
    · exact absurd (.inr ⟨rfl, h4⟩) h2'

theorem filter_window {α : Type} (q : α → Bool) (l : List α) (a n : Nat) (h : a + n ≤ l.length) (h1 : ∀ i (hi : i < l.length), i < a → q l[i] = false) (h2 : ∀ i (hi : i < l.length), a ≤ i → i < a + n → q l[i] = true)
    (h3 : ∀ i (hi : i < l.length), a + n ≤ i → q l[i] = false) : l.filter q = (l.drop a).take n := by
  have e : l = l.take a ++ ((l.drop a).take n ++ (l.drop a).drop n) := by rw [List.take_append_drop, List.take_append_drop]
  have f1 : (l.take a).filter q = [] := List.filter_eq_nil_iff.2 fun x hx => by
    obtain ⟨i, hi, rfl⟩ := List.mem_iff_getElem.1 hx
    rw [List.length_take] at hi
    rw [List.getElem_take, h1 i (by omega) (by omega)]; simp
  have f2 : ((l.drop a).take n).filter q = (l.drop a).take n := List.filter_eq_self.2 fun x hx => by
    obtain ⟨i, hi, rfl⟩ := List.mem_iff_getElem.1 hx
    rw [List.length_take, List.length_drop] at hi
    rw [List.getElem_take, List.getElem_drop, h2 (a + i) (by omega) (by omega) (by omega)]
  have f3 : ((l.drop a).drop n).filter q = [] := List.filter_eq_nil_iff.2 fun x hx => by
    obtain ⟨i, hi, rfl⟩ := List.mem_iff_getElem.1 hx
    rw [List.length_drop, List.length_drop] at hi
    rw [List.getElem_drop, List.getElem_drop, h3 (a + (n + i)) (by omega) (by omega)]; simp
  rw [e, List.filter_append, List.filter_append, f1, f2, f3, ← e]
  simp

/-- Of texts in their order, all with the same front: those that go on with x are a window. -/
theorem going_on {l : List (List UInt8)} (hr : Rise l) (pre x : List UInt8) (hp : ∀ y ∈ l, pre.isPrefixOf y = true) (a n : Nat) (hn : a + n ≤ l.length)
    (h1 : ∀ i (hi : i < l.length), i < a → bytesLess (l[i].drop pre.length) x = true) (h2 : ∀ i (hi : i < l.length), a ≤ i → bytesLess (l[i].drop pre.length) x = false)
    (h3 : ∀ i (hi : i < l.length), a ≤ i → i < a + n → x.isPrefixOf (l[i].drop pre.length) = true) (h4 : ∀ (hi : a + n < l.length), x.isPrefixOf (l[a + n].drop pre.length) = false) :
    l.filter (fun y => x.isPrefixOf (y.drop pre.length)) = (l.drop a).take n := by
  have cut : ∀ y ∈ l, y = pre ++ y.drop pre.length := fun y hy => by
    obtain ⟨z, rfl⟩ := List.isPrefixOf_iff_prefix.1 (hp y hy)
    simp
  have less : ∀ i j (hi : i < l.length) (hj : j < l.length), i < j → bytesLess (l[i].drop pre.length) (l[j].drop pre.length) = true := fun i j hi hj hij => by
    have h := List.pairwise_iff_getElem.1 hr i j hi hj hij
    rw [cut _ (List.getElem_mem hi), cut _ (List.getElem_mem hj), less_pre] at h
    exact h
  refine filter_window _ l a n hn (fun i hi hia => ?_) h3 (fun i hi hin => ?_)
  · cases h : x.isPrefixOf (l[i].drop pre.length)
    · rfl
    · have := pre_less h; rw [h1 i hi hia] at this; cases this
  · cases h : x.isPrefixOf (l[i].drop pre.length)
    · rfl
    · rcases Nat.lt_or_ge (a + n) i with c | c
      · have := pre_down h (h2 (a + n) (by omega) (by omega)) (less (a + n) i (by omega) hi c)
        rw [h4 (by omega)] at this; cases this
      · have e : i = a + n := by omega
        subst e; rw [h4 hi] at h; cases h

theorem said_joined : ∀ ws : List (List UInt8), said ws = joined ws
  | [] => rfl
  | [w] => rfl
  | w :: x :: r => by
    have := said_joined (x :: r)
    simp only [said, joined] at this ⊢
    rw [this]
/-- One word more. -/
theorem said_snoc (ws : List (List UInt8)) (w : List UInt8) : said (ws ++ [w]) = said ws ++ (if ws = [] then w else 32 :: w) := by
  by_cases h : ws = []
  · subst h; simp [said]
  · rw [if_neg h, said_joined, said_joined, joined_snoc ws w h]
theorem said_take {ws : List (List UInt8)} {i : Nat} (h : i < ws.length) : said (ws.take (i + 1)) = said (ws.take i) ++ (if i = 0 then ws[i] else 32 :: ws[i]) := by
  rw [List.take_succ_eq_append_getElem h, said_snoc]
  congr 1
  by_cases h0 : i = 0
  · subst h0; simp
  · rw [if_neg h0, if_neg]
    intro e
    have := congrArg List.length e
    rw [List.length_take, List.length_nil] at this; omega
theorem said_len (ws : List (List UInt8)) (k : Nat) : (said (ws.take k)).length ≤ (said ws).length := by
  rw [said_joined, said_joined]; exact joined_len ws k
theorem pre_app (a b y : List UInt8) (h : a.isPrefixOf y = true) : b.isPrefixOf (y.drop a.length) = (a ++ b).isPrefixOf y := by
  obtain ⟨z, rfl⟩ := List.isPrefixOf_iff_prefix.1 h
  rw [List.drop_left, Bool.eq_iff_iff, List.isPrefixOf_iff_prefix, List.isPrefixOf_iff_prefix, List.prefix_append_right_inj]
theorem pre_of_app {a b y : List UInt8} (h : (a ++ b).isPrefixOf y = true) : a.isPrefixOf y = true := by
  obtain ⟨z, rfl⟩ := List.isPrefixOf_iff_prefix.1 h
  rw [List.append_assoc]
  exact List.isPrefixOf_iff_prefix.2 (List.prefix_append _ _)
/-- Those that begin with a text, and then go on. -/
theorem filter_on (l : List (List UInt8)) (a b : List UInt8) : (l.filter fun y => a.isPrefixOf y).filter (fun y => b.isPrefixOf (y.drop a.length)) = l.filter fun y => (a ++ b).isPrefixOf y := by
  rw [List.filter_filter]
  apply List.filter_congr
  intro y _
  cases h : a.isPrefixOf y
  · cases h2 : (a ++ b).isPrefixOf y
    · simp
    · rw [pre_of_app h2] at h; cases h
  · rw [pre_app a b y h]; simp
theorem filter_nil (l : List (List UInt8)) : (l.filter fun y => ([] : List UInt8).isPrefixOf y) = l := List.filter_eq_self.2 fun y _ => by cases y <;> rfl
theorem rise_filter {l : List (List UInt8)} (h : Rise l) (q : List UInt8 → Bool) : Rise (l.filter q) := List.Pairwise.filter q h
/-- Of those that begin with a text the first one is that text, if it is there. -/
theorem first_pre {l : List (List UInt8)} (h : Rise l) (p : List UInt8) {y : List UInt8} {r : List (List UInt8)} (he : (l.filter fun y => p.isPrefixOf y) = y :: r) : (y.length = p.length ↔ p ∈ l) ∧ (y.length = p.length → y = p) := by
  have hy : y ∈ l.filter fun y => p.isPrefixOf y := by rw [he]; simp
  obtain ⟨hyl, hyp⟩ := List.mem_filter.1 hy
  obtain ⟨z, rfl⟩ := List.isPrefixOf_iff_prefix.1 hyp
  have e1 : (p ++ z).length = p.length → p ++ z = p := fun e => by
    have : z = [] := List.eq_nil_of_length_eq_zero (by rw [List.length_append] at e; omega)
    rw [this, List.append_nil]
  refine ⟨⟨fun e => by rw [← e1 e]; exact hyl, fun hm => ?_⟩, e1⟩
  have hpl : p ∈ (p ++ z) :: r := by
    rw [← he]
    exact List.mem_filter.2 ⟨hm, List.isPrefixOf_iff_prefix.2 (List.prefix_refl _)⟩
  rcases List.mem_cons.1 hpl with e | hr
  · rw [← e]
  · have hf := rise_filter h fun y => p.isPrefixOf y
    rw [he] at hf
    have h1 := (List.pairwise_cons.1 hf).1 p hr
    have h2 := pre_less (x := p) (a := p ++ z) hyp
    rw [h2] at h1; cases h1
theorem longN_succ (l ws : List (List UInt8)) (n : Nat) : longN l ws (n + 1) = if said (ws.take (n + 1)) ∈ l then n + 1 else longN l ws n := rfl
theorem longN_nil (ws : List (List UInt8)) : ∀ n, longN [] ws n = 0
  | 0 => rfl
  | n + 1 => by rw [longN_succ, if_neg (by simp), longN_nil ws n]
/-- Names of two rows. -/
theorem longN_app (a b ws : List (List UInt8)) : ∀ n, longN (a ++ b) ws n = max (longN a ws n) (longN b ws n)
  | 0 => rfl
  | n + 1 => by
    have ih := longN_app a b ws n
    have la := longN_le a ws n
    have lb := longN_le b ws n
    rw [longN_succ, longN_succ, longN_succ]
    by_cases h1 : said (ws.take (n + 1)) ∈ a
    · rw [if_pos (List.mem_append.2 (.inl h1)), if_pos h1]
      split <;> omega
    · by_cases h2 : said (ws.take (n + 1)) ∈ b
      · rw [if_pos (List.mem_append.2 (.inr h2)), if_neg h1, if_pos h2]; omega
      · rw [if_neg (fun h => (List.mem_append.1 h).elim h1 h2), if_neg h1, if_neg h2, ih]
/-- If none goes on, none is found behind. -/
theorem longN_stop {l ws : List (List UInt8)} {i : Nat} (hi : i ≤ ws.length) (h : ∀ y ∈ l, (said (ws.take i)).isPrefixOf y = false) : ∀ n, i ≤ n + 1 → n ≤ ws.length → i ≠ 0 → longN l ws n = longN l ws (i - 1) ∨ n < i - 1
  | n, hn, hnl, h0 => by
    have key : ∀ k, i ≤ k → k ≤ ws.length → said (ws.take k) ∉ l := fun k hk hkl hm => by
      have h1 := h _ hm
      have h2 : (said (ws.take i)).isPrefixOf (said (ws.take k)) = true := by
        obtain ⟨d, rfl⟩ : ∃ d, k = i + d := ⟨k - i, by omega⟩
        clear hk hm h1
        induction d with
        | zero => exact List.isPrefixOf_iff_prefix.2 (List.prefix_refl _)
        | succ d ih =>
          rw [← Nat.add_assoc, said_take (by omega)]
          exact List.isPrefixOf_iff_prefix.2 ((List.isPrefixOf_iff_prefix.1 (ih (by omega))).trans (List.prefix_append _ _))
      rw [h1] at h2; cases h2
    left
    induction n with
    | zero =>
      have : i = 1 := by omega
      subst this; rfl
    | succ n ih =>
      rcases Nat.lt_or_ge (n + 1) i with c | c
      · have : n + 1 = i - 1 := by omega
        rw [this]
      · rw [longN_succ, if_neg (key (n + 1) c hnl)]
        exact ih (by omega) (by omega)
/-- The text that is found. -/
theorem longN_same {l m : List (List UInt8)} (h : ∀ z, z ∈ l ↔ z ∈ m) (ws : List (List UInt8)) : ∀ n, longN l ws n = longN m ws n
  | 0 => rfl
  | n + 1 => by
    rw [longN_succ, longN_succ, longN_same h ws n]
    by_cases hm : said (ws.take (n + 1)) ∈ l
    · rw [if_pos hm, if_pos ((h _).1 hm)]
    · rw [if_neg hm, if_neg (fun k => hm ((h _).2 k))]
end Go.Proofs.YthggoohchjifnaaDoor.Sc
