/- Layer 1: contracts of Rune, Check and Put. -/
import Derived.Test.YthggoohchjifnaaDoorUtfB
import Derived.Test.YthggoohchjifnaaDoorUtfRune
import Derived.Test.YthggoohchjifnaaDoorRow
import Derived.Test.YthggoohchjifnaaDoorShelf
import Derived.Outline
set_option linter.unusedVariables false
set_option linter.unusedSimpArgs false
namespace Go.Proofs.YthggoohchjifnaaDoor.Utf
open Go Go.Proofs.YthggoohchjifnaaDoor Go.RowKit

theorem under9 : Tryd.prog.underlying 9 = some .string := Tryd.underlying9
theorem underB : Tryd.prog.underlying 44 = some (.slice 5) := Tryd.underlying44
theorem under8 : Tryd.prog.underlying 5 = some (.int .u8) := Tryd.underlying5
theorem size8 (W : World) : (sizeOf 5).run Tryd.prog W = .ok 1 W := Tryd.sizeOf5 W

/-- What begins asks. -/
def beg (l : List UInt8) (r : Int) : Bool := if r = 65533 then Lib.hasPrefix l [239, 191, 189] else fine r

theorem begins_any (s : ByteArray) (r : Int) (h0 : 0 ≤ r) (h1 : r ≤ 2147483647) (w : World) :
    Calls Tryd.prog 95 #[.string s, .int .i32 r] w fun e w' => e = .returned (.bool (beg s.data.toList r)) ∧ w = w' := by
  by_cases hr : r = 65533
  · subst hr
    go_enter Tryd.func95, Tryd.ntmps95
    go_wp2_with (first
      | (go_at_call 46; refine (Tryd.strings_HasPrefix _ _ _).mono ?_; rintro e w' ⟨rfl, rfl⟩)
      | (go_at_call 97; refine (Fine_any _ _).mono ?_; rintro e w' ⟨rfl, rfl⟩))
    all_goals go_ret
    all_goals exact ⟨rfl, rfl⟩
  · have hb : (r == 65533) = false := by simpa using hr
    go_enter Tryd.func95, Tryd.ntmps95
    go_wp2_with (first
      | (go_at_call 46; refine (Tryd.strings_HasPrefix _ _ _).mono ?_; rintro e w' ⟨rfl, rfl⟩)
      | (go_at_call 97; refine (Fine_any _ _).mono ?_; rintro e w' ⟨rfl, rfl⟩))
    all_goals go_ret
    all_goals exact ⟨ret_bool (by simp [beg, hr]), rfl⟩


theorem nth_data (s : ByteArray) (i : Nat) : (s.get! i).toNat = nth s.data.toList i := by
  obtain ⟨⟨l⟩⟩ := s
  simp only [nth, ByteArray.get!, List.getD]
  by_cases h : i < l.length
  · simp [h]
  · simp [h]; rfl
theorem nth_drop (l : List UInt8) (a i : Nat) : nth (l.drop a) i = nth l (a + i) := by simp [nth, List.getD]

theorem pre_iff (l : List UInt8) : Lib.hasPrefix l [239, 191, 189] = decide (3 ≤ l.length ∧ nth l 0 = 239 ∧ nth l 1 = 191 ∧ nth l 2 = 189) := by
  rw [Bool.eq_iff_iff, decide_eq_true_eq]
  match l with
  | [] => simp [Lib.hasPrefix, nth]
  | [a] => simp [Lib.hasPrefix, nth, List.isPrefixOf]
  | [a, b] => simp [Lib.hasPrefix, nth, List.isPrefixOf]
  | a :: b :: c :: r =>
    simp only [Lib.hasPrefix, nth, List.isPrefixOf, Bool.and_eq_true, beq_iff_eq, List.length_cons, List.getD_cons_zero, List.getD_cons_succ, Bool.and_true]
    constructor
    · rintro ⟨rfl, rfl, rfl⟩; exact ⟨by omega, rfl, rfl, rfl⟩
    · rintro ⟨_, h1, h2, h3⟩; exact ⟨UInt8.toNat_inj.1 h1.symm, UInt8.toNat_inj.1 h2.symm, UInt8.toNat_inj.1 h3.symm⟩

/-- The language's reading at a place, and what the program asks of it: it is the document's. -/
theorem decode_rune (l : List UInt8) (i : Nat) (hi : i < l.length) :
    ((rune (l.drop i)).2 = 0 ∧ beg (l.drop i) (Utf8.decode (text l) i).1 = false) ∨
    ((rune (l.drop i)).2 ≠ 0 ∧ beg (l.drop i) (Utf8.decode (text l) i).1 = true ∧ Utf8.decode (text l) i = rune (l.drop i)) := by
  rw [Lib.decode_at]
  simp only [nth_data, text_data, text_size]
  have hg := go_eq (l.length - i) (nth l i) (nth l (i + 1)) (nth l (i + 2)) (nth l (i + 3)) (by omega) (nth_lt _ _) (nth_lt _ _) (nth_lt _ _) (nth_lt _ _)
  have hr : rune (l.drop i) = runeN (l.length - i) (nth l i) (nth l (i + 1)) (nth l (i + 2)) (nth l (i + 3)) := by
    simp only [rune, nth_drop, List.length_drop, Nat.add_zero]
  rw [← hg] at hr
  generalize hd : Lib.decodeN (l.length - i) (nth l i) (nth l (i + 1)) (nth l (i + 2)) (nth l (i + 3)) = d at *
  have hk : 1 ≤ d.2 := by
    rw [← hd]; unfold Lib.decodeN
    repeat' split
    all_goals simp
  unfold goN at hr
  rw [hd] at hr
  unfold fin at hr
  unfold beg
  rw [pre_iff]
  simp only [nth_drop, List.length_drop, Nat.add_zero]
  by_cases e : d.1 = 65533
  · rw [if_pos e] at hr
    have e' : ((d.1 : Nat) : Int) = 65533 := by omega
    rw [if_pos e']
    by_cases p : 3 ≤ l.length - i ∧ nth l i = 239 ∧ nth l (i + 1) = 191 ∧ nth l (i + 2) = 189
    · rw [if_pos p] at hr
      exact .inr ⟨by rw [hr]; omega, by simpa using p, hr.symm⟩
    · rw [if_neg p] at hr
      exact .inl ⟨by rw [hr], by simpa using p⟩
  · rw [if_neg e] at hr
    have e' : ¬ ((d.1 : Nat) : Int) = 65533 := by omega
    rw [if_neg e']
    by_cases p : fine (d.1 : Int) = true
    · rw [if_pos p] at hr
      exact .inr ⟨by rw [hr]; omega, p, hr.symm⟩
    · rw [if_neg p] at hr
      exact .inl ⟨by rw [hr], by simpa using p⟩

/-- Just the first four bytes play a part. -/
theorem rune_take (l : List UInt8) (k : Nat) (hk : k = l.length ∨ (4 ≤ k ∧ k ≤ l.length)) : rune (l.take k) = rune l := by
  rcases hk with rfl | ⟨h4, hl⟩
  · rw [List.take_length]
  · have e : ∀ i, i < 4 → nth (l.take k) i = nth l i := by
      intro i hi; simp [nth, List.getD, List.getElem?_take, show i < k by omega]
    unfold rune
    rw [e 0 (by omega), e 1 (by omega), e 2 (by omega), e 3 (by omega)]
    exact runeN_le _ _ _ _ _ _ (.inr ⟨by simp; omega, by omega⟩)


/-- The tables of the language's library hold what their initialisers lay. -/
def Tabs (w : World) : Prop := Lib.Utf8Tabs 0 1 w
theorem Tabs.lt {w : World} (h : Tabs w) : 0 < w.heap.size ∧ 1 < w.heap.size :=
  ⟨World.block_lt_of_cell? _ _ (h.1 0 (by omega)), World.block_lt_of_cell? _ _ (h.2 0 (by omega)).1⟩
theorem Tabs.below {w w' : World} (h : Tabs w) {B : Nat} (hb : Below B w w') (hB : w.heap.size ≤ B) : Tabs w' := by
  have hl := h.lt
  refine ⟨fun c hc => ?_, fun i hi => ⟨?_, ?_⟩⟩
  · rw [hb.cell (p := ⟨_, c, none⟩) (Nat.lt_of_lt_of_le hl.1 hB)]; exact h.1 c hc
  · rw [hb.cell (p := ⟨_, 2 * i, none⟩) (Nat.lt_of_lt_of_le hl.2 hB)]; exact (h.2 i hi).1
  · rw [hb.cell (p := ⟨_, 2 * i + 1, none⟩) (Nat.lt_of_lt_of_le hl.2 hB)]; exact (h.2 i hi).2

/-- What Rune answers. -/
def runeR (l : List UInt8) (i : Int) : Nat × Nat × Int :=
  if i < 0 ∨ (l.length : Int) ≤ i then (0, 0, 3) else if (rune (l.drop i.toNat)).2 = 0 then (0, 0, 4) else ((rune (l.drop i.toNat)).1, (rune (l.drop i.toNat)).2, 0)
def runeV (r : Nat × Nat × Int) : Value := .tuple #[.int .i64 r.1, .int .i64 r.2.1, .int .i64 r.2.2]

end Go.Proofs.YthggoohchjifnaaDoor.Utf
