/- Layer 9, mathematics that hangs on no program: names in the order of their bytes, each once; the longest that words begin with. -/
import Derived.Test.YtkpmkabddhpojaaNamesMath
set_option linter.unusedVariables false
set_option linter.unusedSimpArgs false
namespace Go.Proofs.Ytkpmkabddhpojaa.Sc
open Go Go.Op

theorem less_irrefl : ∀ a : List UInt8, bytesLess a a = false
  | [] => rfl
  | a :: x => by
    have h := less_irrefl x
    unfold bytesLess
    rw [h]
    simp
theorem less_cons {a b : UInt8} {x y : List UInt8} : bytesLess (a :: x) (b :: y) = true ↔ a < b ∨ (a = b ∧ bytesLess x y = true) := by
  show (decide (a < b) || (a == b && bytesLess x y)) = true ↔ _
  rw [Bool.or_eq_true, Bool.and_eq_true, decide_eq_true_iff, beq_iff_eq]
theorem less_nil (a : List UInt8) : bytesLess a [] = false := by cases a <;> rfl
theorem less_trans : ∀ {a b c : List UInt8}, bytesLess a b = true → bytesLess b c = true → bytesLess a c = true
  | a, [], c, h1, _ => by rw [less_nil] at h1; cases h1
  | a, b :: y, [], _, h2 => by rw [less_nil] at h2; cases h2
  | [], b :: y, c :: z, _, _ => rfl
  | a :: x, b :: y, c :: z, h1, h2 => by
    rw [less_cons] at h1 h2 ⊢
    rcases h1 with h1 | ⟨rfl, h1⟩ <;> rcases h2 with h2 | ⟨rfl, h2⟩
    · exact .inl (UInt8.lt_trans h1 h2)
    · exact .inl h1
    · exact .inl h2
    · exact .inr ⟨rfl, less_trans h1 h2⟩
theorem less_total : ∀ {a b : List UInt8}, a ≠ b → bytesLess a b = true ∨ bytesLess b a = true
  | [], [], h => absurd rfl h
  | [], b :: y, _ => .inl rfl
  | a :: x, [], _ => .inr rfl
  | a :: x, b :: y, h => by
    rw [less_cons, less_cons]
    by_cases e : a = b
    · subst e
      have hx : x ≠ y := fun e => h (by rw [e])
      rcases less_total hx with h | h
      · exact .inl (.inr ⟨rfl, h⟩)
      · exact .inr (.inr ⟨rfl, h⟩)
    · have hn : a.toNat ≠ b.toNat := fun x => e (UInt8.toNat_inj.1 x)
      rcases Nat.lt_or_gt_of_ne hn with h | h
      · exact .inl (.inl (UInt8.lt_iff_toNat_lt.2 h))
      · exact .inr (.inl (UInt8.lt_iff_toNat_lt.2 h))
theorem less_ne {a b : List UInt8} (h : bytesLess a b = true) : a ≠ b := fun e => by rw [e, less_irrefl] at h; cases h
theorem less_asymm {a b : List UInt8} (h : bytesLess a b = true) : bytesLess b a = false := by
  cases h2 : bytesLess b a
  · rfl
  · have := less_trans h h2; rw [less_irrefl] at this; cases this

/-- In their order, each once. -/
def Rise (l : List (List UInt8)) : Prop := l.Pairwise (fun a b => bytesLess a b = true)
theorem Rise.unique : ∀ {a b : List (List UInt8)}, Rise a → Rise b → (∀ x, x ∈ a ↔ x ∈ b) → a = b
  | [], [], _, _, _ => rfl
  | [], y :: b, _, _, h => by have := (h y).2 (by simp); cases this
  | x :: a, [], _, _, h => by have := (h x).1 (by simp); cases this
  | x :: a, y :: b, ha, hb, h => by
    have ha' := List.pairwise_cons.1 ha
    have hb' := List.pairwise_cons.1 hb
    have e : x = y := by
      rcases List.mem_cons.1 ((h x).1 (by simp)) with e | hx
      · exact e
      rcases List.mem_cons.1 ((h y).2 (by simp)) with e | hy
      · exact e.symm
      have h1 := hb'.1 x hx
      have h2 := ha'.1 y hy
      rw [less_asymm h1] at h2; cases h2
    subst e
    congr 1
    refine Rise.unique ha'.2 hb'.2 fun z => ?_
    constructor
    · intro hz
      rcases List.mem_cons.1 ((h z).1 (List.mem_cons_of_mem _ hz)) with e | h3
      · exact absurd e.symm (less_ne (ha'.1 z hz))
      · exact h3
    · intro hz
      rcases List.mem_cons.1 ((h z).2 (List.mem_cons_of_mem _ hz)) with e | h3
      · exact absurd e.symm (less_ne (hb'.1 z hz))
      · exact h3

/-- One more name. -/
def ins (x : List UInt8) : List (List UInt8) → List (List UInt8)
  | [] => [x]
  | y :: l => if x = y then y :: l else if bytesLess x y = true then x :: y :: l else y :: ins x l
theorem ins_mem (x : List UInt8) : ∀ (l : List (List UInt8)) (z : List UInt8), z ∈ ins x l ↔ z = x ∨ z ∈ l
  | [], z => by simp [ins]
  | y :: l, z => by
    unfold ins
    split
    · rename_i h; subst h; simp
    · split
      · simp
      · rw [List.mem_cons, ins_mem x l z, List.mem_cons]
        constructor
        · rintro (h | h | h)
          · exact .inr (.inl h)
          · exact .inl h
          · exact .inr (.inr h)
        · rintro (h | h | h)
          · exact .inr (.inl h)
          · exact .inl h
          · exact .inr (.inr h)
theorem ins_rise (x : List UInt8) : ∀ {l : List (List UInt8)}, Rise l → Rise (ins x l)
  | [], _ => by unfold ins Rise; simp
  | y :: l, h => by
    have h' := List.pairwise_cons.1 h
    unfold ins
    split
    · exact h
    · rename_i hxy
      split
      · rename_i hl
        refine List.pairwise_cons.2 ⟨fun z hz => ?_, h⟩
        rcases List.mem_cons.1 hz with e | hz
        · rw [e]; exact hl
        · exact less_trans hl (h'.1 z hz)
      · rename_i hl
        refine List.pairwise_cons.2 ⟨fun z hz => ?_, ins_rise x h'.2⟩
        rcases (ins_mem x l z).1 hz with e | hz
        · rw [e]; exact (less_total hxy).resolve_left hl
        · exact h'.1 z hz
/-- Where it stands. -/
theorem ins_at {x : List UInt8} {a b : List (List UInt8)} (h : Rise (a ++ b)) (ha : ∀ y ∈ a, bytesLess y x = true) (hb : ∀ y ∈ b, bytesLess x y = true) : ins x (a ++ b) = a ++ x :: b := by
  refine Rise.unique (ins_rise x h) ?_ fun z => ?_
  · have hp := List.pairwise_append.1 h
    refine List.pairwise_append.2 ⟨hp.1, List.pairwise_cons.2 ⟨hb, hp.2.1⟩, fun y hy z hz => ?_⟩
    rcases List.mem_cons.1 hz with e | hz
    · rw [e]; exact ha y hy
    · exact hp.2.2 y hy z hz
  · rw [ins_mem]; simp only [List.mem_append, List.mem_cons]
    constructor
    · rintro (h | h | h)
      · exact .inr (.inl h)
      · exact .inl h
      · exact .inr (.inr h)
    · rintro (h | h | h)
      · exact .inr (.inl h)
      · exact .inl h
      · exact .inr (.inr h)
theorem ins_there {x : List UInt8} {l : List (List UInt8)} (h : Rise l) (hx : x ∈ l) : ins x l = l :=
  Rise.unique (ins_rise x h) h fun z => by
    rw [ins_mem]
    exact ⟨fun h => h.elim (fun e => e ▸ hx) id, .inr⟩
/-- More names. -/
def put (l more : List (List UInt8)) : List (List UInt8) := more.foldl (fun l x => ins x l) l
theorem put_mem (more : List (List UInt8)) : ∀ (l : List (List UInt8)) (z : List UInt8), z ∈ put l more ↔ z ∈ l ∨ z ∈ more := by
  induction more with
  | nil => intro l z; simp [put]
  | cons x more ih =>
    intro l z
    show z ∈ put (ins x l) more ↔ _
    rw [ih, ins_mem, List.mem_cons]
    constructor
    · rintro ((h | h) | h)
      · exact .inr (.inl h)
      · exact .inl h
      · exact .inr (.inr h)
    · rintro (h | h | h)
      · exact .inl (.inr h)
      · exact .inl (.inl h)
      · exact .inr h
theorem put_rise (more : List (List UInt8)) : ∀ {l : List (List UInt8)}, Rise l → Rise (put l more) := by
  induction more with
  | nil => intro l h; exact h
  | cons x more ih => intro l h; exact ih (ins_rise x h)
/-- The order in which names are given, and how often, plays no part. -/
theorem put_same {l m a b : List (List UInt8)} (hl : Rise l) (hm : Rise m) (h : ∀ z, (z ∈ l ∨ z ∈ a) ↔ (z ∈ m ∨ z ∈ b)) : put l a = put m b :=
  Rise.unique (put_rise a hl) (put_rise b hm) fun z => by rw [put_mem, put_mem]; exact h z

/-- Words, with a blank between two. -/
def said : List (List UInt8) → List UInt8
  | [] => []
  | [w] => w
  | w :: x :: r => w ++ 32 :: said (x :: r)
/-- The greatest number of the first n words that are a name: 0, if none are. -/
def longN (l ws : List (List UInt8)) : Nat → Nat
  | 0 => 0
  | n + 1 => if said (ws.take (n + 1)) ∈ l then n + 1 else longN l ws n
theorem longN_le (l ws : List (List UInt8)) : ∀ n, longN l ws n ≤ n
  | 0 => Nat.le_refl _
  | n + 1 => by unfold longN; split; exact Nat.le_refl _; exact Nat.le_succ_of_le (longN_le l ws n)
theorem longN_mem (l ws : List (List UInt8)) : ∀ n, longN l ws n ≠ 0 → said (ws.take (longN l ws n)) ∈ l
  | 0, h => absurd rfl h
  | n + 1, h => by
    unfold longN at h ⊢
    split at h
    · rename_i hm; rw [if_pos hm]; exact hm
    · rename_i hm; rw [if_neg hm]; exact longN_mem l ws n h
theorem longN_max (l ws : List (List UInt8)) : ∀ n k, k ≤ n → k ≠ 0 → said (ws.take k) ∈ l → k ≤ longN l ws n
  | 0, k, h, h0, _ => absurd (Nat.le_zero.1 h) h0
  | n + 1, k, h, h0, hk => by
    unfold longN
    split
    · exact h
    · rename_i hm
      rcases Nat.lt_or_ge n k with c | c
      · have e : k = n + 1 := by omega
        subst e; exact absurd hk hm
      · exact longN_max l ws n k c h0 hk
/-- More names: no shorter. -/
theorem longN_mono {l m : List (List UInt8)} (h : ∀ z ∈ l, z ∈ m) (ws : List (List UInt8)) (n : Nat) : longN l ws n ≤ longN m ws n := by
  by_cases h0 : longN l ws n = 0
  · omega
  · exact longN_max m ws n _ (longN_le l ws n) h0 (h _ (longN_mem l ws n h0))
end Go.Proofs.Ytkpmkabddhpojaa.Sc
