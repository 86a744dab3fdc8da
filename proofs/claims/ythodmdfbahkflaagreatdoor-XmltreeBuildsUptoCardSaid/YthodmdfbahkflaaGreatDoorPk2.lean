/- Layer 1: contracts of Rune, Check and Put. | How arguments are read: from what the statements' form says of an argument to what the walks ask. Over any program. | Plain mathematics of layer 3: digits, numbers, references. No program in it. | Layer 1: contract of Check. | Layer 1: contracts of Put, and of the document's own answers. | Layer 1: contracts of the document's own answers: low, Rune, Check. | Layer 1: contracts of the document's own answers: Rune, Check. | Layer 1: the document's examples hold. | Plain mathematics of layer 1: what is put is read; where bytes aren't right. | Plain mathematics of layer 3: what a text tells, and escaping it. -/
import Derived.Test.YthodmdfbahkflaaGreatDoorPk1
import Derived.Test.YthodmdfbahkflaaGreatDoorShelf
import Derived.Outline
import Derived.ProofKit
import Derived.OpenShut
import Derived.ShutString
import Derived.ChangeOld
import Derived.Below
import Derived.SizedLaws
import Derived.Lib.RuneBytes
set_option linter.unusedVariables false
set_option linter.unusedSimpArgs false
namespace Go.Proofs.YthodmdfbahkflaaGreatDoor.Utf
open Go Go.Proofs.YthodmdfbahkflaaGreatDoor Go.RowKit

theorem under9 : Tryz.prog.underlying 9 = some .string := Tryz.underlying9
theorem underB : Tryz.prog.underlying 24 = some (.slice 5) := Tryz.underlying24
theorem under8 : Tryz.prog.underlying 5 = some (.int .u8) := Tryz.underlying5
theorem size8 (W : World) : (sizeOf 5).run Tryz.prog W = .ok 1 W := Tryz.sizeOf5 W

/-- What begins asks. -/
def beg (l : List UInt8) (r : Int) : Bool := if r = 65533 then Lib.hasPrefix l [239, 191, 189] else fine r

theorem begins_any (s : ByteArray) (r : Int) (h0 : 0 ≤ r) (h1 : r ≤ 2147483647) (w : World) :
    Calls Tryz.prog 40 #[.string s, .int .i32 r] w fun e w' => e = .returned (.bool (beg s.data.toList r)) ∧ w = w' := by
  by_cases hr : r = 65533
  · subst hr
    go_enter Tryz.func40, Tryz.ntmps40
    go_wp2_with (first
      | (go_at_call 68; refine (Tryz.strings_HasPrefix _ _ _).mono ?_; rintro e w' ⟨rfl, rfl⟩)
      | (go_at_call 69; refine (Fine_any _ _).mono ?_; rintro e w' ⟨rfl, rfl⟩))
    all_goals go_ret
    all_goals exact ⟨rfl, rfl⟩
  · have hb : (r == 65533) = false := by simpa using hr
    go_enter Tryz.func40, Tryz.ntmps40
    go_wp2_with (first
      | (go_at_call 68; refine (Tryz.strings_HasPrefix _ _ _).mono ?_; rintro e w' ⟨rfl, rfl⟩)
      | (go_at_call 69; refine (Fine_any _ _).mono ?_; rintro e w' ⟨rfl, rfl⟩))
    all_goals go_ret
    all_goals exact ⟨ret_bool (by simp [beg, hr]), rfl⟩


theorem nth_data (s : ByteArray) (i : Nat) : (s.get! i).toNat = nth s.data.toList i := by
  obtain ⟨⟨l⟩⟩ := s
  simp only [nth, ByteArray.get!, List.getD]
  by_cases h : i < l.length
  · simp [h]
  · simp [h]; rfl
theorem nth_drop (l : List UInt8) (a i : Nat) : nth (l.drop a) i = nth l (a + i) := by simp [nth, List.getD]

theorem pre_iff (l : List UInt8) : Lib.hasPrefix l [239, 191, 189] = decide (3 ≤ l.length ∧ nth l 0 = 239 ∧ nth l 1 = 191 ∧ nth l 2 = 189) := by
  rw [Bool.eq_iff_iff, decide_eq_true_eq]
  match l with
  | [] => simp [Lib.hasPrefix, nth]
  | [a] => simp [Lib.hasPrefix, nth, List.isPrefixOf]
  | [a, b] => simp [Lib.hasPrefix, nth, List.isPrefixOf]
  | a :: b :: c :: r =>
    simp only [Lib.hasPrefix, nth, List.isPrefixOf, Bool.and_eq_true, beq_iff_eq, List.length_cons, List.getD_cons_zero, List.getD_cons_succ, Bool.and_true]
    constructor
    · rintro ⟨rfl, rfl, rfl⟩; exact ⟨by omega, rfl, rfl, rfl⟩
    · rintro ⟨_, h1, h2, h3⟩; exact ⟨UInt8.toNat_inj.1 h1.symm, UInt8.toNat_inj.1 h2.symm, UInt8.toNat_inj.1 h3.symm⟩

/-- The language's reading at a place, and what the program asks of it: it is the document's. -/
theorem decode_rune (l : List UInt8) (i : Nat) (hi : i < l.length) :
    ((rune (l.drop i)).2 = 0 ∧ beg (l.drop i) (Utf8.decode (text l) i).1 = false) ∨
    ((rune (l.drop i)).2 ≠ 0 ∧ beg (l.drop i) (Utf8.decode (text l) i).1 = true ∧ Utf8.decode (text l) i = rune (l.drop i)) := by
  rw [Lib.decode_at]
  simp only [nth_data, text_data, text_size]
  have hg := go_eq (l.length - i) (nth l i) (nth l (i + 1)) (nth l (i + 2)) (nth l (i + 3)) (by omega) (nth_lt _ _) (nth_lt _ _) (nth_lt _ _) (nth_lt _ _)
  have hr : rune (l.drop i) = runeN (l.length - i) (nth l i) (nth l (i + 1)) (nth l (i + 2)) (nth l (i + 3)) := by
    simp only [rune, nth_drop, List.length_drop, Nat.add_zero]
  rw [← hg] at hr
  generalize hd : Lib.decodeN (l.length - i) (nth l i) (nth l (i + 1)) (nth l (i + 2)) (nth l (i + 3)) = d at *
  have hk : 1 ≤ d.2 := by
    rw [← hd]; unfold Lib.decodeN
    repeat' split
    all_goals simp
  unfold goN at hr
  rw [hd] at hr
  unfold fin at hr
  unfold beg
  rw [pre_iff]
  simp only [nth_drop, List.length_drop, Nat.add_zero]
  by_cases e : d.1 = 65533
  · rw [if_pos e] at hr
    have e' : ((d.1 : Nat) : Int) = 65533 := by omega
    rw [if_pos e']
    by_cases p : 3 ≤ l.length - i ∧ nth l i = 239 ∧ nth l (i + 1) = 191 ∧ nth l (i + 2) = 189
    · rw [if_pos p] at hr
      exact .inr ⟨by rw [hr]; omega, by simpa using p, hr.symm⟩
    · rw [if_neg p] at hr
      exact .inl ⟨by rw [hr], by simpa using p⟩
  · rw [if_neg e] at hr
    have e' : ¬ ((d.1 : Nat) : Int) = 65533 := by omega
    rw [if_neg e']
    by_cases p : fine (d.1 : Int) = true
    · rw [if_pos p] at hr
      exact .inr ⟨by rw [hr]; omega, p, hr.symm⟩
    · rw [if_neg p] at hr
      exact .inl ⟨by rw [hr], by simpa using p⟩

/-- Just the first four bytes play a part. -/
theorem rune_take (l : List UInt8) (k : Nat) (hk : k = l.length ∨ (4 ≤ k ∧ k ≤ l.length)) : rune (l.take k) = rune l := by
  rcases hk with rfl | ⟨h4, hl⟩
  · rw [List.take_length]
  · have e : ∀ i, i < 4 → nth (l.take k) i = nth l i := by
      intro i hi; simp [nth, List.getD, List.getElem?_take, show i < k by omega]
    unfold rune
    rw [e 0 (by omega), e 1 (by omega), e 2 (by omega), e 3 (by omega)]
    exact runeN_le _ _ _ _ _ _ (.inr ⟨by simp; omega, by omega⟩)


/-- The tables of the language's library hold what their initialisers lay. -/
def Tabs (w : World) : Prop := Lib.Utf8Tabs 1 2 w
theorem Tabs.lt {w : World} (h : Tabs w) : 1 < w.heap.size ∧ 2 < w.heap.size :=
  ⟨World.block_lt_of_cell? _ _ (h.1 0 (by omega)), World.block_lt_of_cell? _ _ (h.2 0 (by omega)).1⟩
theorem Tabs.below {w w' : World} (h : Tabs w) {B : Nat} (hb : Below B w w') (hB : w.heap.size ≤ B) : Tabs w' := by
  have hl := h.lt
  refine ⟨fun c hc => ?_, fun i hi => ⟨?_, ?_⟩⟩
  · rw [hb.cell (p := ⟨_, c, none⟩) (Nat.lt_of_lt_of_le hl.1 hB)]; exact h.1 c hc
  · rw [hb.cell (p := ⟨_, 2 * i, none⟩) (Nat.lt_of_lt_of_le hl.2 hB)]; exact (h.2 i hi).1
  · rw [hb.cell (p := ⟨_, 2 * i + 1, none⟩) (Nat.lt_of_lt_of_le hl.2 hB)]; exact (h.2 i hi).2

/-- What Rune answers. -/
def runeR (l : List UInt8) (i : Int) : Nat × Nat × Int :=
  if i < 0 ∨ (l.length : Int) ≤ i then (0, 0, 3) else if (rune (l.drop i.toNat)).2 = 0 then (0, 0, 4) else ((rune (l.drop i.toNat)).1, (rune (l.drop i.toNat)).2, 0)
def runeV (r : Nat × Nat × Int) : Value := .tuple #[.int .i64 r.1, .int .i64 r.2.1, .int .i64 r.2.2]

set_option maxHeartbeats 1000000 in
theorem Rune_any (v : Value) (l : List UInt8) (i : Int) (w : World) (hT : Tabs w) (hv : Bytes w v l) :
    Calls Tryz.prog 100 #[v, .int .i64 i] w fun e w' => e = .returned (runeV (runeR l i)) ∧ Below w.heap.size w w' := by
  have hlen := fun W => hv.len (P := Tryz.prog) 24 3 5 underB W
  have hle := hv.le
  by_cases h0 : i < 0
  · have e : runeR l i = (0, 0, 3) := by unfold runeR; rw [if_pos (.inl h0)]
    rw [e]
    go_enter Tryz.func100, Tryz.ntmps100
    go_wp2
    go_ret3
    exact ⟨rfl, Below.refl _ _⟩
  · by_cases h1 : (l.length : Int) ≤ i
    · have e : runeR l i = (0, 0, 3) := by unfold runeR; rw [if_pos (.inr h1)]
      rw [e]
      go_enter Tryz.func100, Tryz.ntmps100
      go_wp2
      go_ret3
      exact ⟨rfl, Below.refl _ _⟩
    · obtain ⟨k, rfl⟩ := Int.eq_ofNat_of_zero_le (by omega : 0 ≤ i)
      have hk : k < l.length := by omega
      obtain ⟨v', a1, _, _, hv'⟩ := hv.sub k (min l.length (k + 4)) (by omega) (by omega) 24 5 underB size8
      have hm : min (l.length : Int) ((k : Int) + 4) = ((min l.length (k + 4) : Nat) : Int) := by omega
      have hc := hv'.conv (P := Tryz.prog) 24 9 5 underB under8 under9
      obtain ⟨m, hmm⟩ : ∃ m, List.take (min l.length (k + 4) - k) (List.drop k l) = m := ⟨_, rfl⟩
      have hr : rune m = rune (l.drop k) := by rw [← hmm]; exact rune_take _ _ (by simp; omega)
      have hml : 0 < m.length := by rw [← hmm]; simp; omega
      rw [hmm] at hc
      have e : runeR l (k : Int) = if (rune m).2 = 0 then (0, 0, 4) else ((rune m).1, (rune m).2, 0) := by
        unfold runeR; rw [if_neg (by omega), Int.toNat_natCast, hr]
      have hd : Lib.decodeGo (text m) = Utf8.decode (text m) 0 := by
        unfold Lib.decodeGo; rw [if_neg (by rw [text_size]; omega)]
      have hdr := decode_rune m 0 hml
      rw [List.drop_zero] at hdr
      have hd1 := decode_le (text m) 0
      have cD := Tryz.utf8_DecodeRuneInString (text m) w hT
      rw [hd] at cD
      obtain ⟨d, hdd⟩ : ∃ d, Utf8.decode (text m) 0 = d := ⟨_, rfl⟩
      rw [hdd] at cD hdr hd1
      have hbt := fun w => begins_any (text m) d.1 (by omega) (by omega) w
      rw [text_data] at hbt
      have CD := hid cD
      have CB := hid hbt
      rw [e]
      clear e hv hv' hr hd hdd cD hbt hmm
      rcases hdr with ⟨z, hb⟩ | ⟨z, hb, hdr⟩
      · rw [if_pos z]
        rw [hb] at CB
        clear z hb
        go_enter Tryz.func100, Tryz.ntmps100
        go_wp2_with (first
          | (go_at_call 88; refine CD.out.mono ?_; rintro e w' ⟨rfl, hw⟩)
          | (go_at_call 40; refine (CB.out _).mono ?_; rintro e w' ⟨rfl, rfl⟩))
        go_ret3
        exact ⟨rfl, hw⟩
      · rw [if_neg z, ← hdr]
        rw [hb] at CB
        clear z hb hdr
        go_enter Tryz.func100, Tryz.ntmps100
        go_wp2_with (first
          | (go_at_call 88; refine CD.out.mono ?_; rintro e w' ⟨rfl, hw⟩)
          | (go_at_call 40; refine (CB.out _).mono ?_; rintro e w' ⟨rfl, rfl⟩))
        go_ret3
        exact ⟨rfl, hw⟩

end Go.Proofs.YthodmdfbahkflaaGreatDoor.Utf
namespace Go.Proofs.YthodmdfbahkflaaGreatDoor
open Go Go.ChangeShapes Go.WideShapes Go.ChangeAt Go.RowKit

section
variable {H : Type} {enc : TypeId × Value → H} {P : Program} {W : World} {sp : Nat → Bool}

end
end Go.Proofs.YthodmdfbahkflaaGreatDoor
namespace Go.Proofs.YthodmdfbahkflaaGreatDoor.Ent
open Go.Proofs.YthodmdfbahkflaaGreatDoor.Utf

/-- A digit's value; 99: it is none. -/
def dv (b : Nat) : Nat := if 48 ≤ b ∧ b ≤ 57 then b - 48 else if 97 ≤ b ∧ b ≤ 102 then b - 87 else if 65 ≤ b ∧ b ≤ 70 then b - 55 else 99
/-- Is it a digit of a base? -/
def isd (base : Nat) (b : UInt8) : Bool := decide (dv b.toNat < base)
theorem isd_iff (base : Nat) (b : UInt8) : isd base b = true ↔ dv b.toNat < base := by simp [isd]
theorem isd_semi {base : Nat} (h : base ≤ 16) : isd base 59 = false := by
  have : dv (59 : UInt8).toNat = 99 := by decide
  simp only [isd, this, decide_eq_false_iff_not]; omega

/-- The number that digits are. -/
def val (base : Nat) : Nat → List UInt8 → Nat
  | x, [] => x
  | x, b :: r => val base (base * x + dv b.toNat) r
theorem val_snoc (base : Nat) : ∀ (l : List UInt8) (x : Nat) (b : UInt8), val base x (l ++ [b]) = base * val base x l + dv b.toNat
  | [], x, b => rfl
  | a :: r, x, b => by rw [List.cons_append, val, val, val_snoc base r]
theorem val_lt {base : Nat} (hb : 1 ≤ base) : ∀ (l : List UInt8) (x B : Nat), x < B → (∀ b ∈ l, isd base b = true) → val base x l < B * base ^ l.length
  | [], x, B, h, _ => by simpa [val] using h
  | a :: r, x, B, h, hd => by
    have ha := (isd_iff base a).1 (hd a (by simp))
    have hx : base * x + dv a.toNat < B * base := by
      have : base * x + base ≤ base * B := by rw [← Nat.mul_succ]; exact Nat.mul_le_mul_left _ h
      rw [Nat.mul_comm B base]; omega
    have := val_lt hb r (base * x + dv a.toNat) (B * base) hx (fun b hb => hd b (by simp [hb]))
    rw [val, List.length_cons, Nat.pow_succ, Nat.mul_comm (base ^ r.length) base, ← Nat.mul_assoc]
    exact this

/-- Of digits, no more than so many, and a ; behind: the number, how many bytes with the ;. 0, 0: there is none. -/
def numb (base most : Nat) (l : List UInt8) : Nat × Nat :=
  if (l.takeWhile (isd base)).length ≤ most ∧ l.takeWhile (isd base) ≠ [] ∧ l[(l.takeWhile (isd base)).length]? = some 59 ∧ fine (val base 0 (l.takeWhile (isd base))) = true then
    (val base 0 (l.takeWhile (isd base)), (l.takeWhile (isd base)).length + 1) else (0, 0)
/-- The number that digits are, if they are some, no more than so many, and it may be a character. -/
def numd (base most : Nat) (d : List UInt8) : Option Nat :=
  if d.length ≤ most ∧ d ≠ [] ∧ d.all (isd base) = true ∧ fine (val base 0 d) = true then some (val base 0 d) else none

theorem takeWhile_stop (q : UInt8 → Bool) : ∀ (x : List UInt8) (b : UInt8) (r : List UInt8), x.all q = true → q b = false → (x ++ b :: r).takeWhile q = x
  | [], b, r, _, hb => by simp [hb]
  | a :: x, b, r, h, hb => by
    simp only [List.all_cons, Bool.and_eq_true] at h
    simp only [List.cons_append, List.takeWhile_cons, h.1, if_true]
    rw [takeWhile_stop q x b r h.2 hb]
theorem takeWhile_short (q : UInt8 → Bool) : ∀ (x y : List UInt8), x.all q = false → (x ++ y).takeWhile q = x.takeWhile q ∧ (x.takeWhile q).length < x.length
  | [], y, h => by simp at h
  | a :: x, y, h => by
    by_cases ha : q a = true
    · simp only [List.all_cons, ha, Bool.true_and] at h
      have := takeWhile_short q x y h
      simp only [List.cons_append, List.takeWhile_cons, ha, if_true, this.1, List.length_cons]
      exact ⟨trivial, by have := this.2; omega⟩
    · simp [List.takeWhile_cons, ha]
theorem takeWhile_all (q : UInt8 → Bool) : ∀ (x : List UInt8), x.all q = true → x.takeWhile q = x
  | [], _ => rfl
  | a :: x, h => by
    simp only [List.all_cons, Bool.and_eq_true] at h
    simp only [List.takeWhile_cons, h.1, if_true, takeWhile_all q x h.2]

/-- Up to the first ; digits, or there is none. -/
theorem numb_semi {base most : Nat} (hb : base ≤ 16) (x r : List UInt8) (hx : 59 ∉ x) :
    numb base most (x ++ 59 :: r) = match numd base most x with | some c => (c, x.length + 1) | none => (0, 0) := by
  by_cases ha : x.all (isd base) = true
  · have e := takeWhile_stop (isd base) x 59 r ha (isd_semi hb)
    have e2 : (x ++ 59 :: r)[x.length]? = some 59 := by simp
    unfold numb numd
    rw [e, e2]
    by_cases h : x.length ≤ most ∧ x ≠ [] ∧ fine (val base 0 x) = true
    · rw [if_pos ⟨h.1, h.2.1, rfl, h.2.2⟩, if_pos ⟨h.1, h.2.1, ha, h.2.2⟩]
    · rw [if_neg (fun k => h ⟨k.1, k.2.1, k.2.2.2⟩), if_neg (fun k => h ⟨k.1, k.2.1, k.2.2.2⟩)]
  · obtain ⟨e, h⟩ := takeWhile_short (isd base) x (59 :: r) (by simpa using ha)
    unfold numb numd
    rw [e, if_neg, if_neg (fun k => ha k.2.2.1)]
    rintro ⟨_, _, h3, _⟩
    rw [List.getElem?_append_left h] at h3
    exact hx (List.mem_of_getElem? h3)
theorem numb_none {base most : Nat} (l : List UInt8) (h : 59 ∉ l) : numb base most l = (0, 0) := by
  unfold numb
  rw [if_neg]
  rintro ⟨_, _, h3, _⟩
  exact h (List.mem_of_getElem? h3)
theorem numb_le (base most : Nat) (l : List UInt8) : (numb base most l).2 ≤ l.length ∧ ((numb base most l).2 ≠ 0 → fine (numb base most l).1 = true ∧ 2 ≤ (numb base most l).2 ∧ (numb base most l).2 ≤ most + 1) := by
  unfold numb
  split
  · rename_i h
    have := (List.getElem?_eq_some_iff.1 h.2.2.1).1
    have h2 : 0 < (l.takeWhile (isd base)).length := List.length_pos_iff.2 h.2.1
    exact ⟨by simp only; omega, fun _ => ⟨h.2.2.2, by simp only; omega, by simp only; omega⟩⟩
  · exact ⟨by simp, fun h => by simp at h⟩

/-- A text's beginning. -/
def pre (p l : List UInt8) : Bool := p.isPrefixOf l
theorem pre_iff (p l : List UInt8) : pre p l = true ↔ ∃ r, l = p ++ r := by
  unfold pre
  rw [List.isPrefixOf_iff_prefix]
  exact ⟨fun ⟨r, h⟩ => ⟨r, h.symm⟩, fun ⟨r, h⟩ => ⟨r, h.symm⟩⟩
theorem pre_len {p l : List UInt8} (h : pre p l = true) : p.length ≤ l.length := by
  obtain ⟨r, rfl⟩ := (pre_iff p l).1 h
  simp

/-- The references that are names. -/
def nameds : List (List UInt8 × Nat) := [([97, 109, 112], 38), ([108, 116], 60), ([103, 116], 62), ([113, 117, 111, 116], 34), ([97, 112, 111, 115], 39)]
def up (k : Nat) (r : Nat × Nat) : Nat × Nat := if r.2 = 0 then (0, 0) else (r.1, r.2 + k)
/-- At a &: the character, how many bytes; 0, 0: there is none. -/
def refer (l : List UInt8) : Nat × Nat :=
  match nameds.find? (fun p => pre (38 :: (p.1 ++ [59])) l) with
  | some p => (p.2, p.1.length + 2)
  | none => if pre [38, 35, 120] l = true then up 3 (numb 16 6 (l.drop 3)) else if pre [38, 35] l = true then up 2 (numb 10 7 (l.drop 2)) else (0, 0)
/-- What stands between & and ;. -/
def named (x : List UInt8) : Option Nat := (nameds.find? (fun p => p.1 == x)).map (·.2)
def referred (x : List UInt8) : Option Nat := if pre [35, 120] x = true then numd 16 6 (x.drop 2) else if pre [35] x = true then numd 10 7 (x.drop 1) else named x

theorem pre_semi : ∀ (p x r : List UInt8), 59 ∉ p → 59 ∉ x → (pre (p ++ [59]) (x ++ 59 :: r) = (p == x))
  | [], [], r, _, _ => by simp [pre]
  | [], a :: x, r, _, hx => by
    have : (59 : UInt8) ≠ a := fun e => hx (by simp [e])
    simp [pre, List.isPrefixOf, this]
  | a :: p, [], r, hp, _ => by
    have : a ≠ 59 := fun e => hp (by simp [e])
    simp [pre, List.isPrefixOf, this]
  | a :: p, b :: x, r, hp, hx => by
    have ih := pre_semi p x r (fun h => hp (by simp [h])) (fun h => hx (by simp [h]))
    unfold pre at ih ⊢
    simp only [List.cons_append, List.isPrefixOf, ih]
    rw [List.cons_beq_cons]
theorem pre_in : ∀ (p x r : List UInt8), 59 ∉ p → (pre p (x ++ 59 :: r) = pre p x)
  | [], x, r, _ => by simp [pre]
  | a :: p, [], r, hp => by
    have : a ≠ 59 := fun e => hp (by simp [e])
    simp [pre, List.isPrefixOf, this]
  | a :: p, b :: x, r, hp => by
    have ih := pre_in p x r (fun h => hp (by simp [h]))
    unfold pre at ih ⊢
    simp only [List.cons_append, List.isPrefixOf, ih]
theorem pre_cons (a : UInt8) (p l : List UInt8) : pre (a :: p) (a :: l) = pre p l := by simp [pre, List.isPrefixOf]
theorem pre_mem {p l : List UInt8} (h : pre p l = true) {x : UInt8} (hx : x ∈ p) : x ∈ l := by
  obtain ⟨r, rfl⟩ := (pre_iff p l).1 h
  simp [hx]

theorem find_congr {α : Type} (p q : α → Bool) : ∀ l : List α, (∀ a ∈ l, p a = q a) → l.find? p = l.find? q
  | [], _ => rfl
  | a :: l, h => by rw [List.find?_cons, List.find?_cons, h a (by simp), find_congr p q l (fun b hb => h b (by simp [hb]))]

/-- Up to the first ; the reference, or there is none. -/
theorem refer_semi (x r : List UInt8) (hx : 59 ∉ x) : refer (38 :: (x ++ 59 :: r)) = match referred x with | some c => (c, x.length + 2) | none => (0, 0) := by
  have key : ∀ q : List UInt8 × Nat, q ∈ nameds → pre (38 :: (q.1 ++ [59])) (38 :: (x ++ 59 :: r)) = (q.1 == x) := by
    intro q hq
    rw [pre_cons, pre_semi _ _ _ _ hx]
    have : nameds.all (fun q => !q.1.contains 59) = true := by decide
    have := List.all_eq_true.1 this q hq
    simpa using this
  have hfind : nameds.find? (fun p => pre (38 :: (p.1 ++ [59])) (38 :: (x ++ 59 :: r))) = nameds.find? (fun p => p.1 == x) := find_congr _ _ _ key
  have h3 : pre [38, 35, 120] (38 :: (x ++ 59 :: r)) = pre [35, 120] x := by rw [pre_cons, pre_in _ _ _ (by decide)]
  have h2 : pre [38, 35] (38 :: (x ++ 59 :: r)) = pre [35] x := by rw [pre_cons, pre_in _ _ _ (by decide)]
  unfold refer
  rw [hfind, h3, h2]
  cases hf : nameds.find? (fun p => p.1 == x) with
  | some p =>
    have hp : p.1 = x := by simpa using List.find?_some hf
    have hmem := List.mem_of_find?_eq_some hf
    have hno : pre [35, 120] x = false ∧ pre [35] x = false := by
      have : nameds.all (fun q => !pre [35, 120] q.1 && !pre [35] q.1) = true := by decide
      have := List.all_eq_true.1 this p hmem
      rw [hp] at this
      simpa using this
    have hn : named x = some p.2 := by unfold named; rw [hf]; rfl
    unfold referred
    rw [hno.1, hno.2, hn]
    simp [hp]
  | none =>
    have hn : named x = none := by unfold named; rw [hf]; rfl
    unfold referred
    rw [hn]
    by_cases a : pre [35, 120] x = true
    · obtain ⟨y, rfl⟩ := (pre_iff _ _).1 a
      rw [if_pos a, if_pos a]
      have hy : 59 ∉ y := fun h => hx (by simp [h])
      have e : (38 :: ([35, 120] ++ y ++ 59 :: r)).drop 3 = y ++ 59 :: r := by simp
      rw [e, numb_semi (by omega) y r hy]
      simp only [List.cons_append, List.nil_append, List.drop_succ_cons, List.drop_zero]
      cases hd : numd 16 6 y with
      | none => simp [up]
      | some c => simp [up]
    · rw [if_neg a, if_neg a]
      by_cases b : pre [35] x = true
      · obtain ⟨y, rfl⟩ := (pre_iff _ _).1 b
        rw [if_pos b, if_pos b]
        have hy : 59 ∉ y := fun h => hx (by simp [h])
        have e : (38 :: ([35] ++ y ++ 59 :: r)).drop 2 = y ++ 59 :: r := by simp
        rw [e, numb_semi (by omega) y r hy]
        simp only [List.cons_append, List.nil_append, List.drop_succ_cons, List.drop_zero]
        cases hd : numd 10 7 y with
        | none => simp [up]
        | some c => simp [up]
      · rw [if_neg b, if_neg b]
theorem refer_none (m : List UInt8) (h : 59 ∉ m) : refer (38 :: m) = (0, 0) := by
  have key : ∀ q : List UInt8 × Nat, pre (38 :: (q.1 ++ [59])) (38 :: m) = false := by
    intro q
    rw [← Bool.not_eq_true]
    intro hp
    rw [pre_cons] at hp
    exact h (pre_mem hp (by simp))
  unfold refer
  have hfind : nameds.find? (fun p => pre (38 :: (p.1 ++ [59])) (38 :: m)) = none := by
    rw [List.find?_eq_none]; intro q _; rw [key q]; simp
  rw [hfind]
  have h3 : 59 ∉ (38 :: m).drop 3 := fun e => h (List.mem_of_mem_drop (by simpa using e : 59 ∈ m.drop 2))
  have h2 : 59 ∉ (38 :: m).drop 2 := fun e => h (List.mem_of_mem_drop (by simpa using e : 59 ∈ m.drop 1))
  rw [numb_none _ h3, numb_none _ h2]
  simp [up]

theorem up_snd (k : Nat) (r : Nat × Nat) (h : (up k r).2 ≠ 0) : r.2 ≠ 0 ∧ up k r = (r.1, r.2 + k) := by
  unfold up at h ⊢
  by_cases e : r.2 = 0
  · rw [if_pos e] at h; exact absurd rfl h
  · rw [if_neg e]; exact ⟨e, rfl⟩
theorem refer_le (l : List UInt8) : (refer l).2 ≤ l.length ∧ ((refer l).2 ≠ 0 → fine (refer l).1 = true ∧ 1 ≤ (refer l).2 ∧ (refer l).2 ≤ 10) := by
  unfold refer
  cases hf : nameds.find? (fun p => pre (38 :: (p.1 ++ [59])) l) with
  | some p =>
    have h1 := List.find?_some hf
    have h2 := pre_len h1
    simp only [List.length_cons, List.length_append, List.length_nil] at h2
    have : nameds.all (fun q => fine q.2 && decide (q.1.length ≤ 8)) = true := by decide
    have := List.all_eq_true.1 this p (List.mem_of_find?_eq_some hf)
    simp only [Bool.and_eq_true, decide_eq_true_eq] at this
    exact ⟨by simp only; omega, fun _ => ⟨this.1, by simp only; omega, by simp only; omega⟩⟩
  | none =>
    simp only
    split
    · rename_i h
      have hp := pre_len h
      have h1 := numb_le 16 6 (l.drop 3)
      simp only [List.length_cons, List.length_nil, List.length_drop] at hp h1
      by_cases e : (up 3 (numb 16 6 (l.drop 3))).2 = 0
      · exact ⟨by omega, fun k => absurd e k⟩
      · obtain ⟨e1, e2⟩ := up_snd _ _ e
        rw [e2]
        have h3 := h1.2 e1
        exact ⟨by simp only; omega, fun _ => ⟨h3.1, by simp only; omega, by simp only; omega⟩⟩
    · split
      · rename_i h
        have hp := pre_len h
        have h1 := numb_le 10 7 (l.drop 2)
        simp only [List.length_cons, List.length_nil, List.length_drop] at hp h1
        by_cases e : (up 2 (numb 10 7 (l.drop 2))).2 = 0
        · exact ⟨by omega, fun k => absurd e k⟩
        · obtain ⟨e1, e2⟩ := up_snd _ _ e
          rw [e2]
          have h3 := h1.2 e1
          exact ⟨by simp only; omega, fun _ => ⟨h3.1, by simp only; omega, by simp only; omega⟩⟩
      · exact ⟨by simp, fun h => by simp at h⟩

/-- The first ;. -/
theorem semi_split : ∀ (m : List UInt8), 59 ∈ m → ∃ x r, m = x ++ 59 :: r ∧ 59 ∉ x
  | [], h => by simp at h
  | a :: m, h => by
    by_cases e : a = 59
    · exact ⟨[], m, by simp [e], by simp⟩
    · obtain ⟨x, r, h1, h2⟩ := semi_split m (by
        rcases List.mem_cons.1 h with h | h
        · exact absurd h.symm e
        · exact h)
      exact ⟨a :: x, r, by simp [h1], by
        intro h
        rcases List.mem_cons.1 h with h | h
        · exact e h.symm
        · exact h2 h⟩
end Go.Proofs.YthodmdfbahkflaaGreatDoor.Ent
namespace Go.Proofs.YthodmdfbahkflaaGreatDoor.Utf
open Go Go.Proofs.YthodmdfbahkflaaGreatDoor Go.RowKit

/-- The error that Check answers. -/
def checkE (l : List UInt8) : Int := if check l = l.length then 0 else 4
theorem checkE_ok {l : List UInt8} (h : check l = l.length) : checkE l = 0 := by unfold checkE; rw [if_pos h]
theorem checkE_no {l : List UInt8} (h : check l ≠ l.length) : checkE l = 4 := by unfold checkE; rw [if_neg h]

/-- Ahead of pos all is right. -/
def Upto (l : List UInt8) (pos : Nat) : Prop := pos ≤ l.length ∧ check l = pos + check (l.drop pos)
theorem Upto.start (l : List UInt8) : Upto l 0 := ⟨by omega, by simp⟩
theorem Upto.next {l : List UInt8} {pos : Nat} (h : Upto l pos) (hr : (rune (l.drop pos)).2 ≠ 0) : Upto l (pos + (rune (l.drop pos)).2) := by
  have h1 := rune_le (l.drop pos)
  have h2 := check_step hr
  rw [List.drop_drop] at h2
  simp at h1
  exact ⟨by have := h.1; omega, by rw [h.2, h2]; omega⟩
theorem Upto.stop {l : List UInt8} {pos : Nat} (h : Upto l pos) (hp : pos < l.length) (hr : (rune (l.drop pos)).2 = 0) : check l = pos ∧ checkE l = 4 := by
  have e : check l = pos := by rw [h.2, check_stop hr]; omega
  exact ⟨e, checkE_no (by omega)⟩
theorem Upto.done {l : List UInt8} {pos : Nat} (h : Upto l pos) (hp : ¬ pos < l.length) : check l = l.length ∧ checkE l = 0 := by
  have e : pos = l.length := by have := h.1; omega
  have e2 : check l = l.length := by rw [h.2, e]; simp [check_nil]
  exact ⟨e2, checkE_ok e2⟩

set_option maxHeartbeats 1000000 in
set_option maxRecDepth 100000 in
theorem Check_any (v : Value) (l : List UInt8) (w : World) (hv : Bytes w v l) :
    Calls Tryz.prog 27 #[v] w fun e w' => e = .returned (.tuple #[.int .i64 (check l), .int .i64 (checkE l)]) ∧ Below w.heap.size w w' := by
  have hlen := fun W => hv.len (P := Tryz.prog) 24 3 5 underB W
  have hc := hv.conv (P := Tryz.prog) 24 9 5 underB under8 under9
  have hle := hv.le
  have hsz := text_size l
  have HS := hid hsz
  clear hsz hv
  go_enter Tryz.func27, Tryz.ntmps27
  go_wp2_with fail
  go_loopw [5] (fun _ w' => ∃ pos : Nat, w' = w.iter (text l) pos ∧ Upto l pos) (fun _ w' => l.length - w'.iterPos w.heap.size)
  case atStart => exact ⟨0, rfl, Upto.start l⟩
  case round =>
    obtain ⟨pos, rfl, hu⟩ := hrel
    by_cases hp : pos < l.length
    · have hps : pos < (text l).size := by rw [HS.out]; exact hp
      have hnx : ∀ ty, (Instr.next (.pointer (some ⟨w.heap.size, 0, none⟩)) true ty).run Tryz.prog (w.iter (text l) pos) = _ := fun ty => run_next_any w (text l) pos ty hps
      have hd1 := decode_le (text l) pos
      have hdr := decode_rune l pos hp
      obtain ⟨d, hdd⟩ : ∃ d, Utf8.decode (text l) pos = d := ⟨_, rfl⟩
      rw [hdd] at hdr hd1 hnx
      have hbt := fun w => begins_any (text (l.drop pos)) d.1 (by omega) (by omega) w
      rw [text_data] at hbt
      have CB := hid hbt
      have hx : (text l).extract pos (text l).size = text (l.drop pos) := text_extract l pos
      have HU := hid hu
      have hnn : (0 : Int) ≤ (pos : Int) := by omega
      have hpn : (pos : Int) ≤ ((text l).size : Int) := by omega
      clear hbt hdd hu
      rcases hdr with ⟨z, hb⟩ | ⟨z, hb, hdr⟩
      · rw [hb] at CB
        have Z := hid z
        clear z hb
        go_wp2_with (first
          | (go_at_call 40; refine (CB.out _).mono ?_; rintro e w' ⟨rfl, rfl⟩))
        go_ret2
        have := HU.out.stop hp Z.out
        refine ⟨by rw [this.1, this.2]; rfl, ?_⟩
        exact (Below.refl _ _).alloc (Nat.le_refl _) _
      · rw [hb] at CB
        have Z := hid z
        have ZD := hid hdr
        clear z hb hdr
        go_wp2_with (first
          | (go_at_call 40; refine (CB.out _).mono ?_; rintro e w' ⟨rfl, rfl⟩))
        go_roundw
        case rel => exact ⟨_, rfl, by rw [ZD.out]; exact HU.out.next Z.out⟩
        case measure =>
          have := (rune_some (l := l.drop pos) (c := (rune (l.drop pos)).1) (k := (rune (l.drop pos)).2) rfl Z.out).2.2.2.1
          rw [← ZD.out] at this
          simp
          omega
    · have hps : ¬ pos < (text l).size := by rw [HS.out]; exact hp
      have hnx : ∀ ty, (Instr.next (.pointer (some ⟨w.heap.size, 0, none⟩)) true ty).run Tryz.prog (w.iter (text l) pos) = _ := fun ty => run_next_end w (text l) pos ty hps
      have HU := hid hu
      clear hu
      go_wp2
      go_ret2
      have := HU.out.done hp
      refine ⟨by rw [this.1, this.2]; rfl, ?_⟩
      exact (Below.refl _ _).alloc (Nat.le_refl _) _

end Go.Proofs.YthodmdfbahkflaaGreatDoor.Utf
namespace Go.Proofs.YthodmdfbahkflaaGreatDoor.Utf
open Go Go.Proofs.YthodmdfbahkflaaGreatDoor Go.RowKit

/-- A character's bytes. -/
def enc (c : Int) : List UInt8 := Lib.encodeRune c
theorem cells_enc (c : Int) : Lib.runeCells c = cellsOf (enc c) := (Lib.byteCells_encodeRune c).symm
theorem enc_len (c : Int) : 1 ≤ (enc c).length ∧ (enc c).length ≤ 4 := by
  have h := Lib.runeCells_le c
  rw [Lib.runeCells_length] at h
  exact h

theorem enc_one {c : Int} (h : 0 ≤ c) (h' : c < 128) : cellsOf (enc c) = [.int .u8 c] := by
  rw [← cells_enc, Lib.runeCells, Lib.encodeRuneZ_one h (by omega)]; rfl
theorem enc_two {c : Int} (h : 128 ≤ c) (h' : c < 2048) : cellsOf (enc c) = [.int .u8 (192 + c / 64), .int .u8 (128 + c % 64)] := by
  rw [← cells_enc, Lib.runeCells, Lib.encodeRuneZ_two h (by omega)]; rfl
theorem enc_three {c : Int} (h : 2048 ≤ c) (h' : c < 65536) (hf : fine c = true) : cellsOf (enc c) = [.int .u8 (224 + c / 4096), .int .u8 (128 + c / 64 % 64), .int .u8 (128 + c % 64)] := by
  have := (fine_iff c).1 hf
  rw [← cells_enc, Lib.runeCells, Lib.encodeRuneZ_three (by omega)]; rfl
theorem enc_four {c : Int} (h : 65536 ≤ c) (hf : fine c = true) : cellsOf (enc c) = [.int .u8 (240 + c / 262144), .int .u8 (128 + c / 4096 % 64), .int .u8 (128 + c / 64 % 64), .int .u8 (128 + c % 64)] := by
  have := (fine_iff c).1 hf
  rw [← cells_enc, Lib.runeCells, Lib.encodeRuneZ_four h (by omega)]; rfl
theorem enc_width {c : Nat} (hf : fine (c : Int) = true) : (enc c).length = width c := by
  have hl : (enc c).length = (cellsOf (enc (c : Int))).length := by rw [cellsOf_length]
  rw [hl]
  rcases (by omega : c < 128 ∨ (128 ≤ c ∧ c < 2048) ∨ (2048 ≤ c ∧ c < 65536) ∨ 65536 ≤ c) with h | ⟨h, h'⟩ | ⟨h, h'⟩ | h
  · rw [width_one h, enc_one (by omega) (by omega)]; rfl
  · rw [width_two h h', enc_two (by omega) (by omega)]; rfl
  · rw [width_three h h', enc_three (by omega) (by omega) hf]; rfl
  · rw [width_four h, enc_four (by omega) hf]; rfl

/-- The document's bytes of a character that may be. -/
theorem RPut_any (c : Int) (hf : fine c = true) (w : World) :
    Calls Tryz.prog 85 #[.int .i64 c] w fun e w' => ∃ v', e = .returned v' ∧ Bytes w' v' (enc c) ∧ Below w.heap.size w w' := by
  have hr := (fine_iff c).1 hf
  have h0 : 0 ≤ c := by omega
  have h1 : c ≤ 1114111 := by omega
  clear hr
  have hl : (enc c).length = (cellsOf (enc c)).length := by rw [cellsOf_length]
  rcases (by omega : c < 128 ∨ (128 ≤ c ∧ c < 2048) ∨ (2048 ≤ c ∧ c < 65536) ∨ 65536 ≤ c) with h | ⟨h, h'⟩ | ⟨h, h'⟩ | h
  · have he := enc_one h0 h
    have HE := hid he
    have HL := hid hl
    clear he hl hf
    go_enter Tryz.func85, Tryz.ntmps85
    go_wp2
    go_ret
    refine ⟨_, rfl, ?_, (Below.refl _ _).alloc (Nat.le_refl _) _⟩
    unfold Bytes
    rw [HL.out, HE.out]
    exact Row.ofBuild w _ _ _ rfl (by simp)
  · have he := enc_two h h'
    have HE := hid he
    have HL := hid hl
    clear he hl hf
    go_enter Tryz.func85, Tryz.ntmps85
    go_wp2
    go_ret
    refine ⟨_, rfl, ?_, (Below.refl _ _).alloc (Nat.le_refl _) _⟩
    unfold Bytes
    rw [HL.out, HE.out]
    exact Row.ofBuild w _ _ _ rfl (by simp)
  · have he := enc_three h h' hf
    have HE := hid he
    have HL := hid hl
    clear he hl hf
    go_enter Tryz.func85, Tryz.ntmps85
    go_wp2
    go_ret
    refine ⟨_, rfl, ?_, (Below.refl _ _).alloc (Nat.le_refl _) _⟩
    unfold Bytes
    rw [HL.out, HE.out]
    exact Row.ofBuild w _ _ _ rfl (by simp)
  · have he := enc_four h hf
    have HE := hid he
    have HL := hid hl
    clear he hl hf
    go_enter Tryz.func85, Tryz.ntmps85
    go_wp2
    go_ret
    refine ⟨_, rfl, ?_, (Below.refl _ _).alloc (Nat.le_refl _) _⟩
    unfold Bytes
    rw [HL.out, HE.out]
    exact Row.ofBuild w _ _ _ rfl (by simp)

end Go.Proofs.YthodmdfbahkflaaGreatDoor.Utf
namespace Go.Proofs.YthodmdfbahkflaaGreatDoor.Utf
open Go Go.Proofs.YthodmdfbahkflaaGreatDoor Go.RowKit

/-- The lower six bits of bytes, together; -1: one of them isn't from 128 to 191. -/
def lowV : Int → List UInt8 → Int
  | n, [] => n
  | n, b :: r => if b.toNat / 64 = 2 then lowV (64 * n + (b.toNat - 128)) r else -1
theorem lowV_at (n : Int) (l : List UInt8) (k : Nat) (hk : k < l.length) : lowV n (l.drop k) = if l[k].toNat / 64 = 2 then lowV (64 * n + (l[k].toNat - 128)) (l.drop (k + 1)) else -1 := by
  rw [List.drop_eq_getElem_cons hk, lowV]

def LowRel (l : List UInt8) (k : Nat) (m : Int) : Prop := k ≤ l.length ∧ lowV m (l.drop k) = lowV 0 l ∧ 0 ≤ m ∧ (k = 0 → m = 0) ∧ (k = 1 → m < 64) ∧ (k = 2 → m < 4096) ∧ (k = 3 → m < 262144)

set_option maxHeartbeats 1000000 in
theorem low_any (v : Value) (l : List UInt8) (w : World) (hv : Bytes w v l) (hl : l.length ≤ 3) :
    Calls Tryz.prog 83 #[v] w fun e w' => e = .returned (.int .i64 (lowV 0 l)) ∧ w = w' := by
  have hlen := fun W => hv.len (P := Tryz.prog) 24 3 5 underB W
  go_enter Tryz.func83, Tryz.ntmps83
  go_wp2_with fail
  go_loop [3, 4] (fun n i => ∃ (k : Nat) (m : Int), i = .int .i64 k ∧ n = .int .i64 m ∧ LowRel l k m) (fun _ i => l.length - (intOf i).toNat)
  case atStart => exact ⟨0, 0, rfl, rfl, by unfold LowRel; simp⟩
  case round =>
    obtain ⟨k, m, rfl, rfl, hr⟩ := hrel
    have hk := hr.1
    have hm0 := hr.2.2.1
    have hm1 : m < 262144 := by
      obtain ⟨h1, h2, h3, h4, h5, h6, h7⟩ := hr
      rcases (by omega : k = 0 ∨ k = 1 ∨ k = 2 ∨ k = 3) with e | e | e | e
      · have := h4 e; omega
      · have := h5 e; omega
      · have := h6 e; omega
      · have := h7 e; omega
    have HR := hid hr
    clear hr
    by_cases hlt : k < l.length
    · obtain ⟨b, o, ha, hc⟩ := hv.at k hlt 24 5 underB size8
      have hla := lowV_at m l k hlt
      have hb8 := UInt8.toNat_lt l[k]
      obtain ⟨x, hx⟩ : ∃ x, l[k].toNat = x := ⟨_, rfl⟩
      rw [hx] at hc hla hb8
      have HL := hid hla
      clear hx hla hv
      by_cases hb : x / 64 = 2
      · have t1 : ¬ ((x : Int) < 128) := by omega
        have t2 : ¬ ((191 : Int) < x) := by omega
        go_wp2
        go_round
        case rel =>
          refine ⟨k + 1, _, by go_num, rfl, ?_⟩
          obtain ⟨h1, h2, h3, h4, h5, h6, h7⟩ := HR.out
          have h8 := HL.out
          rw [if_pos hb] at h8
          refine ⟨by omega, ?_, by omega, by omega, fun e => ?_, fun e => ?_, fun e => ?_⟩
          · rw [← h2, h8]
            congr 1
            omega
          · have := h4 (by omega); omega
          · have := h5 (by omega); omega
          · have := h6 (by omega); omega
        case measure => simp [intOf]; omega
      · have t1 : (x : Int) < 128 ∨ (191 : Int) < x := by omega
        rcases t1 with t1 | t1
        · go_wp2
          go_ret
          have h8 := HL.out
          rw [if_neg hb, HR.out.2.1] at h8
          exact ⟨by rw [h8]; rfl, rfl⟩
        · have t2 : ¬ ((x : Int) < 128) := by omega
          go_wp2
          go_ret
          have h8 := HL.out
          rw [if_neg hb, HR.out.2.1] at h8
          exact ⟨by rw [h8]; rfl, rfl⟩
    · go_wp2
      go_ret
      have h8 := HR.out.2.1
      rw [List.drop_of_length_le (by omega), lowV] at h8
      exact ⟨by rw [← h8]; rfl, rfl⟩

end Go.Proofs.YthodmdfbahkflaaGreatDoor.Utf
namespace Go.Proofs.YthodmdfbahkflaaGreatDoor.Utf
open Go Go.Proofs.YthodmdfbahkflaaGreatDoor Go.RowKit
set_option maxRecDepth 100000

theorem lowV_neg : ∀ (l : List UInt8) (n : Int), 0 ≤ n → (lowV n l < 0 ↔ ∃ b ∈ l, b.toNat / 64 ≠ 2)
  | [], n, h => by simp [lowV]; exact h
  | b :: r, n, h => by
    have hb := UInt8.toNat_lt b
    rw [lowV]
    by_cases e : b.toNat / 64 = 2
    · rw [if_pos e, lowV_neg r _ (by omega)]
      simp [e]
    · rw [if_neg e]
      simp [e]


/-- What Rune tells, in its own steps: of n bytes, the first one from base on. -/
structure Big (l : List UInt8) (n base p : Nat) : Prop where
  short : l.length < n → rune l = (0, 0)
  wrong : n ≤ l.length → lowV 0 ((l.drop 1).take (n - 1)) < 0 → rune l = (0, 0)
  right : n ≤ l.length → 0 ≤ lowV 0 ((l.drop 1).take (n - 1)) → ∃ x : Nat, (x : Int) = ((nth l 0 - base : Nat) : Int) * (p : Int) + lowV 0 ((l.drop 1).take (n - 1)) ∧ rune l = chk x n

theorem big2 (l : List UInt8) (h : 192 ≤ nth l 0 ∧ nth l 0 < 224) : Big l 2 192 64 := by
  have e : l.length ≠ 0 := by
    intro e; have : l = [] := List.eq_nil_of_length_eq_zero e
    subst this; simp [nth] at h
  have er : rune l = (if 2 ≤ l.length ∧ nth l 1 / 64 = 2 then chk ((nth l 0 - 192) * 64 + (nth l 1 - 128)) 2 else (0, 0)) := by
    unfold rune runeN; rw [if_neg e, if_neg (by omega), if_neg (by omega), if_pos (by omega)]
  refine ⟨fun hs => by rw [er, if_neg (by omega)], fun hl hw => ?_, fun hl hw => ?_⟩
  all_goals
    have e1 : (l.drop 1).take (2 - 1) = [l[1]] := by
      rw [List.drop_eq_getElem_cons (by omega)]; rfl
    rw [e1] at hw
  · rw [lowV_neg _ _ (by omega)] at hw
    simp at hw
    rw [nth_get (by omega)] at hw
    rw [er, if_neg (by omega)]
  · have h1 := nth_get (l := l) (i := 1) (by omega)
    by_cases c1 : l[1].toNat / 64 = 2
    · refine ⟨_, ?_, by rw [er, if_pos ⟨hl, by rw [← h1]; exact c1⟩]⟩
      rw [e1, lowV, if_pos c1, lowV, ← h1]
      have := UInt8.toNat_lt l[1]
      omega
    · rw [lowV, if_neg c1] at hw; omega

theorem big3 (l : List UInt8) (h : 224 ≤ nth l 0 ∧ nth l 0 < 240) : Big l 3 224 4096 := by
  have e : l.length ≠ 0 := by
    intro e; have : l = [] := List.eq_nil_of_length_eq_zero e
    subst this; simp [nth] at h
  have er : rune l = (if 3 ≤ l.length ∧ nth l 1 / 64 = 2 ∧ nth l 2 / 64 = 2 then chk ((nth l 0 - 224) * 4096 + (nth l 1 - 128) * 64 + (nth l 2 - 128)) 3 else (0, 0)) := by
    unfold rune runeN; rw [if_neg e, if_neg (by omega), if_neg (by omega), if_neg (by omega), if_pos (by omega)]
  refine ⟨fun hs => by rw [er, if_neg (by omega)], fun hl hw => ?_, fun hl hw => ?_⟩
  all_goals
    have e1 : (l.drop 1).take (3 - 1) = [l[1], l[2]] := by
      rw [List.drop_eq_getElem_cons (by omega), List.drop_eq_getElem_cons (by omega)]; rfl
    rw [e1] at hw
  · rw [lowV_neg _ _ (by omega)] at hw
    simp at hw
    rw [nth_get (by omega), nth_get (by omega)] at hw
    rw [er, if_neg (by omega)]
  · have h1 := nth_get (l := l) (i := 1) (by omega)
    have h2 := nth_get (l := l) (i := 2) (by omega)
    by_cases c1 : l[1].toNat / 64 = 2
    · by_cases c2 : l[2].toNat / 64 = 2
      · refine ⟨_, ?_, by rw [er, if_pos ⟨hl, by rw [← h1]; exact c1, by rw [← h2]; exact c2⟩]⟩
        rw [e1, lowV, if_pos c1, lowV, if_pos c2, lowV, ← h1, ← h2]
        have := UInt8.toNat_lt l[1]
        have := UInt8.toNat_lt l[2]
        generalize l[1].toNat = a1 at *
        generalize l[2].toNat = a2 at *
        omega
      · rw [lowV, if_pos c1, lowV, if_neg c2] at hw; omega
    · rw [lowV, if_neg c1] at hw; omega

theorem four_eq (K a b c d : Nat) (hb : 128 ≤ b) (hc : 128 ≤ c) (hd : 128 ≤ d) :
    ((a * K + (b - 128) * 4096 + (c - 128) * 64 + (d - 128) : Nat) : Int) = (a : Int) * (K : Int) + (64 * (64 * (64 * 0 + ((b : Int) - 128)) + ((c : Int) - 128)) + ((d : Int) - 128)) := by
  have e1 : ((b - 128 : Nat) : Int) = (b : Int) - 128 := by omega
  have e2 : ((c - 128 : Nat) : Int) = (c : Int) - 128 := by omega
  have e3 : ((d - 128 : Nat) : Int) = (d : Int) - 128 := by omega
  rw [Int.natCast_add, Int.natCast_add, Int.natCast_add, Int.natCast_mul, Int.natCast_mul, Int.natCast_mul, e1, e2, e3]
  generalize (a : Int) * (K : Int) = z
  omega

def k18 : Nat := 262144
theorem val4_eq (a b c d : Nat) : val4 a b c d = (a - 240) * k18 + (b - 128) * 4096 + (c - 128) * 64 + (d - 128) := by unfold val4 k18; rfl

theorem big4 (l : List UInt8) (h : 240 ≤ nth l 0 ∧ nth l 0 < 248) : Big l 4 240 k18 := by
  have e : l.length ≠ 0 := by
    intro e; have : l = [] := List.eq_nil_of_length_eq_zero e
    subst this; simp [nth] at h
  have er : rune l = (if 4 ≤ l.length ∧ nth l 1 / 64 = 2 ∧ nth l 2 / 64 = 2 ∧ nth l 3 / 64 = 2 then chk (val4 (nth l 0) (nth l 1) (nth l 2) (nth l 3)) 4 else (0, 0)) := by
    unfold rune runeN; rw [if_neg e, if_neg (by omega), if_neg (by omega), if_neg (by omega), if_neg (by omega), if_pos (by omega)]
  refine ⟨fun hs => by rw [er, if_neg (by omega)], fun hl hw => ?_, fun hl hw => ?_⟩
  all_goals
    have e1 : (l.drop 1).take (4 - 1) = [l[1], l[2], l[3]] := by
      rw [List.drop_eq_getElem_cons (by omega), List.drop_eq_getElem_cons (by omega), List.drop_eq_getElem_cons (by omega)]; rfl
    rw [e1] at hw
  · rw [lowV_neg _ _ (by omega)] at hw
    simp at hw
    rw [nth_get (by omega), nth_get (by omega), nth_get (by omega)] at hw
    rw [er, if_neg (by omega)]
  · have h1 := nth_get (l := l) (i := 1) (by omega)
    have h2 := nth_get (l := l) (i := 2) (by omega)
    have h3 := nth_get (l := l) (i := 3) (by omega)
    by_cases c1 : l[1].toNat / 64 = 2
    · by_cases c2 : l[2].toNat / 64 = 2
      · by_cases c3 : l[3].toNat / 64 = 2
        · refine ⟨_, ?_, by rw [er, if_pos ⟨hl, by rw [← h1]; exact c1, by rw [← h2]; exact c2, by rw [← h3]; exact c3⟩]⟩
          rw [e1, lowV, if_pos c1, lowV, if_pos c2, lowV, if_pos c3, lowV, ← h1, ← h2, ← h3, val4_eq]
          exact four_eq _ _ _ _ _ (by omega) (by omega) (by omega)
        · rw [lowV, if_pos c1, lowV, if_pos c2, lowV, if_neg c3] at hw; omega
      · rw [lowV, if_pos c1, lowV, if_neg c2] at hw; omega
    · rw [lowV, if_neg c1] at hw; omega

theorem lowV_lt' : ∀ (l : List UInt8) (n : Int) (B : Int), 0 ≤ n → n < B → 1 ≤ B → lowV n l < B * 64 ^ l.length
  | [], n, B, h, h', _ => by simpa [lowV] using h'
  | b :: r, n, B, h, h', hB => by
    have hb := UInt8.toNat_lt b
    rw [lowV]
    by_cases e : b.toNat / 64 = 2
    · rw [if_pos e]
      have := lowV_lt' r (64 * n + (b.toNat - 128)) (B * 64) (by omega) (by omega) (by omega)
      rw [List.length_cons, Int.pow_succ, show B * (64 ^ r.length * 64) = B * 64 * 64 ^ r.length from by rw [Int.mul_comm (64 ^ r.length) 64, Int.mul_assoc]]
      exact this
    · rw [if_neg e]
      have : 0 < B * 64 ^ (b :: r).length := Int.mul_pos (by omega) (Int.pow_pos (by omega))
      omega
theorem lowV_lt (l : List UInt8) (h : l.length ≤ 3) : lowV 0 l < 262144 := by
  have := lowV_lt' l 0 1 (by omega) (by omega) (by omega)
  rcases (by omega : l.length = 0 ∨ l.length = 1 ∨ l.length = 2 ∨ l.length = 3) with e | e | e | e <;> rw [e] at this <;> simp at this <;> omega

/-- The top's value behind k - 1 rounds. -/
def TopRel (n k : Nat) (t m : Int) : Prop := 1 ≤ k ∧ k ≤ n ∧ 0 ≤ m ∧ (k = 1 → m = t) ∧ (k = 2 → m = 64 * t) ∧ (k = 3 → m = 4096 * t) ∧ (k = 4 → m = 262144 * t)

def pairV (r : Nat × Nat) : Value := .tuple #[.int .i64 r.1, .int .i64 r.2]
theorem RRune_none (v : Value) (w : World) (hv : Bytes w v []) :
    Calls Tryz.prog 49 #[v] w fun e w' => e = .returned (pairV (rune [])) ∧ Below w.heap.size w w' := by
  have hlen := fun W => hv.len (P := Tryz.prog) 24 3 5 underB W
  simp only [List.length_nil] at hlen
  go_enter Tryz.func49, Tryz.ntmps49
  go_wp2
  go_ret2
  exact ⟨rfl, Below.refl _ _⟩

set_option maxHeartbeats 1000000 in
theorem RRune_low (v : Value) (l : List UInt8) (w : World) (hv : Bytes w v l) (hn : 0 < l.length) (hx : nth l 0 < 128) :
    Calls Tryz.prog 49 #[v] w fun e w' => e = .returned (pairV (rune l)) ∧ Below w.heap.size w w' := by
  have hlen := fun W => hv.len (P := Tryz.prog) 24 3 5 underB W
  have hr : rune l = chk (nth l 0) 1 := by unfold rune runeN; rw [if_neg (by omega), if_pos hx]
  obtain ⟨b, o, ha, hc⟩ := hv.atI 0 (by omega) (by omega) 24 5 underB size8
  rw [show (0 : Int).toNat = 0 from rfl] at hc
  have hle := hv.le
  obtain ⟨v', a1, _, _, hv'⟩ := hv.subI 1 1 (by omega) (by omega) (by omega) 24 5 underB size8
  have hlo := low_any v' _ w hv' (by simp)
  have e0 : (1 - 1 : Int).toNat = 0 := rfl
  rw [e0, List.take_zero, lowV] at hlo
  obtain ⟨y, hxx⟩ : ∃ y, nth l 0 = y := ⟨_, rfl⟩
  rw [hxx] at hr hc hx
  have hxx1 : ((l.length : Int) == 0) = false := by rw [beq_eq_false_iff_ne]; omega
  have HR := hid hr
  have HLo := hid hlo
  clear hxx hr hv hv' hlo
  go_enter Tryz.func49, Tryz.ntmps49
  go_wp2_with (go_at_call 83; refine HLo.out.mono ?_; rintro e w' ⟨rfl, rfl⟩)
  go_loop [6, 8] (fun t i => t = .int .i64 y ∧ i = .int .i64 1) (fun _ _ => 0)
  case atStart => exact ⟨rfl, rfl⟩
  case round =>
    obtain ⟨rfl, rfl⟩ := hrel
    by_cases hf : fine (y : Int) = true
    · have hRF := fun W => RFine_any (y : Int) W
      rw [hf] at hRF
      have HF := hid hRF
      have HP := hid (fun W => RPut_any (y : Int) hf W)
      have hwd := enc_width hf
      have HWD := hid hwd
      by_cases hwn : width y = 1
      · have hres := chk_fine hf hwn
        have HRES := hid hres
        have HWN := hid hwn
        clear hRF hf hwd hres hwn
        go_wp2_with (first
          | (go_at_call 84; refine (HF.out _).mono ?_; rintro e w' ⟨rfl, rfl⟩)
          | (go_at_call 85; go_must (refine (HP.out _).mono ?_; rintro e w' ⟨v2, rfl, hb2, hbel⟩; have hl2 := fun W => hb2.len (P := Tryz.prog) 24 3 5 underB W; rw [HWD.out, HWN.out] at hl2; clear hb2)))
        go_ret2
        exact ⟨by rw [HR.out, HRES.out]; rfl, hbel⟩
      · have hres := chk_not (c := y) (k := 1) (fun e => hwn e.2)
        have HRES := hid hres
        have hwb : ((width y : Int) == 1) = false := by rw [beq_eq_false_iff_ne]; omega
        have hwb2 : ((width y : Int) != 1) = true := by rw [bne_iff_ne]; omega
        clear hRF hf hwd hres hwn
        go_wp2_with (first
          | (go_at_call 84; refine (HF.out _).mono ?_; rintro e w' ⟨rfl, rfl⟩)
          | (go_at_call 85; go_must (refine (HP.out _).mono ?_; rintro e w' ⟨v2, rfl, hb2, hbel⟩; have hl2 := fun W => hb2.len (P := Tryz.prog) 24 3 5 underB W; rw [HWD.out] at hl2; clear hb2)))
        go_ret2
        exact ⟨by rw [HR.out, HRES.out]; rfl, hbel⟩
    · have hRF := fun W => RFine_any (y : Int) W
      have hff : fine (y : Int) = false := by simpa using hf
      rw [hff] at hRF
      have HF := hid hRF
      have hres := chk_not (c := y) (k := 1) (fun e => hf e.1)
      have HRES := hid hres
      clear hRF hf hff hres
      go_wp2_with (go_at_call 84; refine (HF.out _).mono ?_; rintro e w' ⟨rfl, rfl⟩)
      go_ret2
      exact ⟨by rw [HR.out, HRES.out]; rfl, Below.refl _ _⟩

set_option maxHeartbeats 2000000 in
theorem RRune_2 (v : Value) (l : List UInt8) (w : World) (hv : Bytes w v l) (hx : 192 ≤ nth l 0 ∧ nth l 0 < 224) :
    Calls Tryz.prog 49 #[v] w fun e w' => e = .returned (pairV (rune l)) ∧ Below w.heap.size w w' := by
  have hlen := fun W => hv.len (P := Tryz.prog) 24 3 5 underB W
  have hB := big2 l hx
  have hn : 0 < l.length := by
    rcases Nat.eq_zero_or_pos l.length with e | e
    · have : l = [] := List.eq_nil_of_length_eq_zero e
      subst this; simp [nth] at hx
    · exact e
  obtain ⟨b, o, ha, hc⟩ := hv.atI 0 (by omega) (by omega) 24 5 underB size8
  rw [show (0 : Int).toNat = 0 from rfl] at hc
  have hle := hv.le
  have hxx1 : ((l.length : Int) == 0) = false := by rw [beq_eq_false_iff_ne]; omega
  by_cases hs : l.length < 2
  · have hr := hB.short hs
    have HR := hid hr
    clear hr hB hv
    generalize nth l 0 = x at *
    go_enter Tryz.func49, Tryz.ntmps49
    go_wp2_with fail
    go_ret2
    exact ⟨by rw [HR.out]; rfl, Below.refl _ _⟩
  · obtain ⟨v', a1, _, _, hv'⟩ := hv.subI 1 2 (by omega) (by omega) (by omega) 24 5 underB size8
    have hlo := low_any v' _ w hv' (by simp; omega)
    rw [show (1 : Int).toNat = 1 from rfl, show (2 - 1 : Int).toNat = 2 - 1 from rfl] at hlo
    have hw := hB.wrong (by omega)
    have hri := hB.right (by omega)
    have hbd := lowV_lt ((l.drop 1).take (2 - 1)) (by simp; omega)
    clear hB hv hv'
    generalize lowV 0 ((l.drop 1).take (2 - 1)) = r at *
    have HLo := hid hlo
    generalize nth l 0 = x at *
    by_cases hr0 : r < 0
    · have hr := hw hr0
      have HR := hid hr
      clear hlo hw hri hr hbd
      go_enter Tryz.func49, Tryz.ntmps49
      go_wp2_with (go_at_call 83; refine HLo.out.mono ?_; rintro e w' ⟨rfl, rfl⟩)
      go_ret2
      exact ⟨by rw [HR.out]; rfl, Below.refl _ _⟩
    · obtain ⟨y, hy, hr⟩ := hri (by omega)
      obtain ⟨z, rfl⟩ : ∃ z, x = 192 + z := ⟨x - 192, by omega⟩
      rw [Nat.add_sub_cancel_left] at hy
      have HR := hid hr
      have HY := hid hy
      have hz : (z : Int) < 32 := by omega
      have hcb : (((192 + z : Nat)) : Int) = 192 + (z : Int) := by omega
      rw [hcb] at hc
      clear hlo hw hri hr hcb hy
      go_enter Tryz.func49, Tryz.ntmps49
      go_wp2_with (go_at_call 83; refine HLo.out.mono ?_; rintro e w' ⟨rfl, rfl⟩)
      go_loop [6, 8] (fun t i => ∃ (k : Nat) (m : Int), i = .int .i64 k ∧ t = .int .i64 m ∧ TopRel 2 k z m) (fun _ i => 2 - (intOf i).toNat)
      case atStart => exact ⟨1, z, rfl, by first | rfl | (simp; omega), by unfold TopRel; omega⟩
      case round =>
        obtain ⟨k, m, rfl, rfl, ht⟩ := hrel
        have HT := hid ht
        have hk1 := ht.1
        have hk2 := ht.2.1
        have hm0 := ht.2.2.1
        have hm1 : m < 8126464 := by unfold TopRel at ht; omega
        by_cases hlt : k < 2
        · clear ht
          go_wp2
          go_round
          case rel => exact ⟨k + 1, _, by go_num, rfl, by have := HT.out; unfold TopRel at *; omega⟩
          case measure => simp [intOf]; omega
        · have hmy : m + r = y := by
            have := HY.out
            unfold TopRel at ht
            omega
          have HM := hid hmy
          clear ht
          by_cases hf : fine (y : Int) = true
          · have hRF := fun W => RFine_any (y : Int) W
            rw [hf] at hRF
            have HF := hid hRF
            have HP := hid (fun W => RPut_any (y : Int) hf W)
            have hwd := enc_width hf
            have HWD := hid hwd
            by_cases hwn : width y = 2
            · have hres := chk_fine hf hwn
              have HRES := hid hres
              have HWN := hid hwn
              clear hRF hf hwd hres hwn
              go_wp2_with (first
                | (go_at_call 84; refine (HF.out _).mono ?_; rintro e w' ⟨rfl, rfl⟩)
                | (go_at_call 85; go_must (refine (HP.out _).mono ?_; rintro e w' ⟨v2, rfl, hb2, hbel⟩; have hl2 := fun W => hb2.len (P := Tryz.prog) 24 3 5 underB W; rw [HWD.out, HWN.out] at hl2; clear hb2)))
              go_ret2
              exact ⟨by rw [HR.out, HRES.out]; rfl, hbel⟩
            · have hres := chk_not (c := y) (k := 2) (fun e => hwn e.2)
              have HRES := hid hres
              have hwb : ((width y : Int) == 2) = false := by rw [beq_eq_false_iff_ne]; omega
              have hwb2 : ((width y : Int) != 2) = true := by rw [bne_iff_ne]; omega
              clear hRF hf hwd hres hwn
              go_wp2_with (first
                | (go_at_call 84; refine (HF.out _).mono ?_; rintro e w' ⟨rfl, rfl⟩)
                | (go_at_call 85; go_must (refine (HP.out _).mono ?_; rintro e w' ⟨v2, rfl, hb2, hbel⟩; have hl2 := fun W => hb2.len (P := Tryz.prog) 24 3 5 underB W; rw [HWD.out] at hl2; clear hb2)))
              go_ret2
              exact ⟨by rw [HR.out, HRES.out]; rfl, hbel⟩
          · have hRF := fun W => RFine_any (y : Int) W
            have hff : fine (y : Int) = false := by simpa using hf
            rw [hff] at hRF
            have HF := hid hRF
            have hres := chk_not (c := y) (k := 2) (fun e => hf e.1)
            have HRES := hid hres
            clear hRF hf hff hres
            go_wp2_with (go_at_call 84; refine (HF.out _).mono ?_; rintro e w' ⟨rfl, rfl⟩)
            go_ret2
            exact ⟨by rw [HR.out, HRES.out]; rfl, Below.refl _ _⟩

set_option maxHeartbeats 2000000 in
theorem RRune_3 (v : Value) (l : List UInt8) (w : World) (hv : Bytes w v l) (hx : 224 ≤ nth l 0 ∧ nth l 0 < 240) :
    Calls Tryz.prog 49 #[v] w fun e w' => e = .returned (pairV (rune l)) ∧ Below w.heap.size w w' := by
  have hlen := fun W => hv.len (P := Tryz.prog) 24 3 5 underB W
  have hB := big3 l hx
  have hn : 0 < l.length := by
    rcases Nat.eq_zero_or_pos l.length with e | e
    · have : l = [] := List.eq_nil_of_length_eq_zero e
      subst this; simp [nth] at hx
    · exact e
  obtain ⟨b, o, ha, hc⟩ := hv.atI 0 (by omega) (by omega) 24 5 underB size8
  rw [show (0 : Int).toNat = 0 from rfl] at hc
  have hle := hv.le
  have hxx1 : ((l.length : Int) == 0) = false := by rw [beq_eq_false_iff_ne]; omega
  by_cases hs : l.length < 3
  · have hr := hB.short hs
    have HR := hid hr
    clear hr hB hv
    generalize nth l 0 = x at *
    go_enter Tryz.func49, Tryz.ntmps49
    go_wp2_with fail
    go_ret2
    exact ⟨by rw [HR.out]; rfl, Below.refl _ _⟩
  · obtain ⟨v', a1, _, _, hv'⟩ := hv.subI 1 3 (by omega) (by omega) (by omega) 24 5 underB size8
    have hlo := low_any v' _ w hv' (by simp; omega)
    rw [show (1 : Int).toNat = 1 from rfl, show (3 - 1 : Int).toNat = 3 - 1 from rfl] at hlo
    have hw := hB.wrong (by omega)
    have hri := hB.right (by omega)
    have hbd := lowV_lt ((l.drop 1).take (3 - 1)) (by simp; omega)
    clear hB hv hv'
    generalize lowV 0 ((l.drop 1).take (3 - 1)) = r at *
    have HLo := hid hlo
    generalize nth l 0 = x at *
    by_cases hr0 : r < 0
    · have hr := hw hr0
      have HR := hid hr
      clear hlo hw hri hr hbd
      go_enter Tryz.func49, Tryz.ntmps49
      go_wp2_with (go_at_call 83; refine HLo.out.mono ?_; rintro e w' ⟨rfl, rfl⟩)
      go_ret2
      exact ⟨by rw [HR.out]; rfl, Below.refl _ _⟩
    · obtain ⟨y, hy, hr⟩ := hri (by omega)
      obtain ⟨z, rfl⟩ : ∃ z, x = 224 + z := ⟨x - 224, by omega⟩
      rw [Nat.add_sub_cancel_left] at hy
      have HR := hid hr
      have HY := hid hy
      have hz : (z : Int) < 16 := by omega
      have hcb : (((224 + z : Nat)) : Int) = 224 + (z : Int) := by omega
      rw [hcb] at hc
      clear hlo hw hri hr hcb hy
      go_enter Tryz.func49, Tryz.ntmps49
      go_wp2_with (go_at_call 83; refine HLo.out.mono ?_; rintro e w' ⟨rfl, rfl⟩)
      go_loop [6, 8] (fun t i => ∃ (k : Nat) (m : Int), i = .int .i64 k ∧ t = .int .i64 m ∧ TopRel 3 k z m) (fun _ i => 3 - (intOf i).toNat)
      case atStart => exact ⟨1, z, rfl, by first | rfl | (simp; omega), by unfold TopRel; omega⟩
      case round =>
        obtain ⟨k, m, rfl, rfl, ht⟩ := hrel
        have HT := hid ht
        have hk1 := ht.1
        have hk2 := ht.2.1
        have hm0 := ht.2.2.1
        have hm1 : m < 8126464 := by unfold TopRel at ht; omega
        by_cases hlt : k < 3
        · clear ht
          go_wp2
          go_round
          case rel => exact ⟨k + 1, _, by go_num, rfl, by have := HT.out; unfold TopRel at *; omega⟩
          case measure => simp [intOf]; omega
        · have hmy : m + r = y := by
            have := HY.out
            unfold TopRel at ht
            omega
          have HM := hid hmy
          clear ht
          by_cases hf : fine (y : Int) = true
          · have hRF := fun W => RFine_any (y : Int) W
            rw [hf] at hRF
            have HF := hid hRF
            have HP := hid (fun W => RPut_any (y : Int) hf W)
            have hwd := enc_width hf
            have HWD := hid hwd
            by_cases hwn : width y = 3
            · have hres := chk_fine hf hwn
              have HRES := hid hres
              have HWN := hid hwn
              clear hRF hf hwd hres hwn
              go_wp2_with (first
                | (go_at_call 84; refine (HF.out _).mono ?_; rintro e w' ⟨rfl, rfl⟩)
                | (go_at_call 85; go_must (refine (HP.out _).mono ?_; rintro e w' ⟨v2, rfl, hb2, hbel⟩; have hl2 := fun W => hb2.len (P := Tryz.prog) 24 3 5 underB W; rw [HWD.out, HWN.out] at hl2; clear hb2)))
              go_ret2
              exact ⟨by rw [HR.out, HRES.out]; rfl, hbel⟩
            · have hres := chk_not (c := y) (k := 3) (fun e => hwn e.2)
              have HRES := hid hres
              have hwb : ((width y : Int) == 3) = false := by rw [beq_eq_false_iff_ne]; omega
              have hwb2 : ((width y : Int) != 3) = true := by rw [bne_iff_ne]; omega
              clear hRF hf hwd hres hwn
              go_wp2_with (first
                | (go_at_call 84; refine (HF.out _).mono ?_; rintro e w' ⟨rfl, rfl⟩)
                | (go_at_call 85; go_must (refine (HP.out _).mono ?_; rintro e w' ⟨v2, rfl, hb2, hbel⟩; have hl2 := fun W => hb2.len (P := Tryz.prog) 24 3 5 underB W; rw [HWD.out] at hl2; clear hb2)))
              go_ret2
              exact ⟨by rw [HR.out, HRES.out]; rfl, hbel⟩
          · have hRF := fun W => RFine_any (y : Int) W
            have hff : fine (y : Int) = false := by simpa using hf
            rw [hff] at hRF
            have HF := hid hRF
            have hres := chk_not (c := y) (k := 3) (fun e => hf e.1)
            have HRES := hid hres
            clear hRF hf hff hres
            go_wp2_with (go_at_call 84; refine (HF.out _).mono ?_; rintro e w' ⟨rfl, rfl⟩)
            go_ret2
            exact ⟨by rw [HR.out, HRES.out]; rfl, Below.refl _ _⟩

set_option maxHeartbeats 2000000 in
theorem RRune_4 (v : Value) (l : List UInt8) (w : World) (hv : Bytes w v l) (hx : 240 ≤ nth l 0 ∧ nth l 0 < 248) :
    Calls Tryz.prog 49 #[v] w fun e w' => e = .returned (pairV (rune l)) ∧ Below w.heap.size w w' := by
  have hlen := fun W => hv.len (P := Tryz.prog) 24 3 5 underB W
  have hB := big4 l hx
  have hn : 0 < l.length := by
    rcases Nat.eq_zero_or_pos l.length with e | e
    · have : l = [] := List.eq_nil_of_length_eq_zero e
      subst this; simp [nth] at hx
    · exact e
  obtain ⟨b, o, ha, hc⟩ := hv.atI 0 (by omega) (by omega) 24 5 underB size8
  rw [show (0 : Int).toNat = 0 from rfl] at hc
  have hle := hv.le
  have hxx1 : ((l.length : Int) == 0) = false := by rw [beq_eq_false_iff_ne]; omega
  by_cases hs : l.length < 4
  · have hr := hB.short hs
    have HR := hid hr
    clear hr hB hv
    generalize nth l 0 = x at *
    go_enter Tryz.func49, Tryz.ntmps49
    go_wp2_with fail
    go_ret2
    exact ⟨by rw [HR.out]; rfl, Below.refl _ _⟩
  · obtain ⟨v', a1, _, _, hv'⟩ := hv.subI 1 4 (by omega) (by omega) (by omega) 24 5 underB size8
    have hlo := low_any v' _ w hv' (by simp; omega)
    rw [show (1 : Int).toNat = 1 from rfl, show (4 - 1 : Int).toNat = 4 - 1 from rfl] at hlo
    have hw := hB.wrong (by omega)
    have hri := hB.right (by omega)
    have hbd := lowV_lt ((l.drop 1).take (4 - 1)) (by simp; omega)
    clear hB hv hv'
    generalize lowV 0 ((l.drop 1).take (4 - 1)) = r at *
    have HLo := hid hlo
    generalize nth l 0 = x at *
    by_cases hr0 : r < 0
    · have hr := hw hr0
      have HR := hid hr
      clear hlo hw hri hr hbd
      go_enter Tryz.func49, Tryz.ntmps49
      go_wp2_with (go_at_call 83; refine HLo.out.mono ?_; rintro e w' ⟨rfl, rfl⟩)
      go_ret2
      exact ⟨by rw [HR.out]; rfl, Below.refl _ _⟩
    · obtain ⟨y, hy, hr⟩ := hri (by omega)
      obtain ⟨z, rfl⟩ : ∃ z, x = 240 + z := ⟨x - 240, by omega⟩
      rw [Nat.add_sub_cancel_left] at hy
      have HR := hid hr
      have HY := hid hy
      have hz : (z : Int) < 8 := by omega
      have hcb : (((240 + z : Nat)) : Int) = 240 + (z : Int) := by omega
      rw [hcb] at hc
      clear hlo hw hri hr hcb hy
      go_enter Tryz.func49, Tryz.ntmps49
      go_wp2_with (go_at_call 83; refine HLo.out.mono ?_; rintro e w' ⟨rfl, rfl⟩)
      go_loop [6, 8] (fun t i => ∃ (k : Nat) (m : Int), i = .int .i64 k ∧ t = .int .i64 m ∧ TopRel 4 k z m) (fun _ i => 4 - (intOf i).toNat)
      case atStart => exact ⟨1, z, rfl, by first | rfl | (simp; omega), by unfold TopRel; omega⟩
      case round =>
        obtain ⟨k, m, rfl, rfl, ht⟩ := hrel
        have HT := hid ht
        have hk1 := ht.1
        have hk2 := ht.2.1
        have hm0 := ht.2.2.1
        have hm1 : m < 8126464 := by unfold TopRel at ht; omega
        by_cases hlt : k < 4
        · clear ht
          go_wp2
          go_round
          case rel => exact ⟨k + 1, _, by go_num, rfl, by have := HT.out; unfold TopRel at *; omega⟩
          case measure => simp [intOf]; omega
        · have hmy : m + r = y := by
            have := HY.out
            unfold TopRel at ht
            unfold k18 at this; omega
          have HM := hid hmy
          clear ht
          by_cases hf : fine (y : Int) = true
          · have hRF := fun W => RFine_any (y : Int) W
            rw [hf] at hRF
            have HF := hid hRF
            have HP := hid (fun W => RPut_any (y : Int) hf W)
            have hwd := enc_width hf
            have HWD := hid hwd
            by_cases hwn : width y = 4
            · have hres := chk_fine hf hwn
              have HRES := hid hres
              have HWN := hid hwn
              clear hRF hf hwd hres hwn
              go_wp2_with (first
                | (go_at_call 84; refine (HF.out _).mono ?_; rintro e w' ⟨rfl, rfl⟩)
                | (go_at_call 85; go_must (refine (HP.out _).mono ?_; rintro e w' ⟨v2, rfl, hb2, hbel⟩; have hl2 := fun W => hb2.len (P := Tryz.prog) 24 3 5 underB W; rw [HWD.out, HWN.out] at hl2; clear hb2)))
              go_ret2
              exact ⟨by rw [HR.out, HRES.out]; rfl, hbel⟩
            · have hres := chk_not (c := y) (k := 4) (fun e => hwn e.2)
              have HRES := hid hres
              have hwb : ((width y : Int) == 4) = false := by rw [beq_eq_false_iff_ne]; omega
              have hwb2 : ((width y : Int) != 4) = true := by rw [bne_iff_ne]; omega
              clear hRF hf hwd hres hwn
              go_wp2_with (first
                | (go_at_call 84; refine (HF.out _).mono ?_; rintro e w' ⟨rfl, rfl⟩)
                | (go_at_call 85; go_must (refine (HP.out _).mono ?_; rintro e w' ⟨v2, rfl, hb2, hbel⟩; have hl2 := fun W => hb2.len (P := Tryz.prog) 24 3 5 underB W; rw [HWD.out] at hl2; clear hb2)))
              go_ret2
              exact ⟨by rw [HR.out, HRES.out]; rfl, hbel⟩
          · have hRF := fun W => RFine_any (y : Int) W
            have hff : fine (y : Int) = false := by simpa using hf
            rw [hff] at hRF
            have HF := hid hRF
            have hres := chk_not (c := y) (k := 4) (fun e => hf e.1)
            have HRES := hid hres
            clear hRF hf hff hres
            go_wp2_with (go_at_call 84; refine (HF.out _).mono ?_; rintro e w' ⟨rfl, rfl⟩)
            go_ret2
            exact ⟨by rw [HR.out, HRES.out]; rfl, Below.refl _ _⟩

theorem RRune_bad (v : Value) (l : List UInt8) (w : World) (hv : Bytes w v l) (hn : 0 < l.length) (hx : (128 ≤ nth l 0 ∧ nth l 0 < 192) ∨ 248 ≤ nth l 0) :
    Calls Tryz.prog 49 #[v] w fun e w' => e = .returned (pairV (rune l)) ∧ Below w.heap.size w w' := by
  have hlen := fun W => hv.len (P := Tryz.prog) 24 3 5 underB W
  have hr : rune l = (0, 0) := by
    unfold rune runeN; rw [if_neg (by omega), if_neg (by omega)]
    rcases hx with h | h
    · rw [if_pos (by omega)]
    · rw [if_neg (by omega), if_neg (by omega), if_neg (by omega), if_neg (by omega)]
  obtain ⟨b, o, ha, hc⟩ := hv.atI 0 (by omega) (by omega) 24 5 underB size8
  rw [show (0 : Int).toNat = 0 from rfl] at hc
  have hxx1 : ((l.length : Int) == 0) = false := by rw [beq_eq_false_iff_ne]; omega
  have HR := hid hr
  have hx8 := nth_lt l 0
  clear hr hv
  generalize nth l 0 = x at *
  rcases hx with h | h
  · go_enter Tryz.func49, Tryz.ntmps49
    go_wp2_with fail
    go_ret2
    exact ⟨by rw [HR.out]; rfl, Below.refl _ _⟩
  · go_enter Tryz.func49, Tryz.ntmps49
    go_wp2_with fail
    go_ret2
    exact ⟨by rw [HR.out]; rfl, Below.refl _ _⟩

/-- The document's answer: the character that bytes begin with. -/
theorem RRune_any (v : Value) (l : List UInt8) (w : World) (hv : Bytes w v l) :
    Calls Tryz.prog 49 #[v] w fun e w' => e = .returned (pairV (rune l)) ∧ Below w.heap.size w w' := by
  rcases Nat.eq_zero_or_pos l.length with e | e
  · have : l = [] := List.eq_nil_of_length_eq_zero e
    subst this; exact RRune_none v w hv
  · rcases (by omega : nth l 0 < 128 ∨ (128 ≤ nth l 0 ∧ nth l 0 < 192) ∨ (192 ≤ nth l 0 ∧ nth l 0 < 224) ∨ (224 ≤ nth l 0 ∧ nth l 0 < 240) ∨ (240 ≤ nth l 0 ∧ nth l 0 < 248) ∨ 248 ≤ nth l 0) with h | h | h | h | h | h
    · exact RRune_low v l w hv e h
    · exact RRune_bad v l w hv e (.inl h)
    · exact RRune_2 v l w hv h
    · exact RRune_3 v l w hv h
    · exact RRune_4 v l w hv h
    · exact RRune_bad v l w hv e (.inr h)

set_option maxHeartbeats 1000000 in
/-- The document's answer: the first place at which a character should begin and none does. -/
theorem RCheck_any (v : Value) (l : List UInt8) (w : World) (hv : Bytes w v l) :
    Calls Tryz.prog 30 #[v] w fun e w' => e = .returned (.int .i64 (check l)) ∧ Below w.heap.size w w' := by
  have hlen := fun W => hv.len (P := Tryz.prog) 24 3 5 underB W
  have hle := hv.le
  go_enter Tryz.func30, Tryz.ntmps30
  go_wp2_with fail
  go_loopw [3] (fun i w' => ∃ pos : Nat, i = .int .i64 pos ∧ Upto l pos ∧ Below w.heap.size w w') (fun i _ => l.length - (intOf i).toNat)
  case atStart => exact ⟨0, rfl, Upto.start l, Below.refl _ _⟩
  case round =>
    obtain ⟨pos, rfl, hu, hbl⟩ := hrel
    by_cases hp : pos < l.length
    · obtain ⟨v', _, a2, _, hv'⟩ := (hv.below hbl (Nat.le_refl _)).subI pos l.length (by omega) (by omega) (by omega) 24 5 underB size8
      have a3 := a2 rfl
      rw [show ((l.length : Int) - (pos : Int)).toNat = (l.drop pos).length from by simp, Int.toNat_natCast, List.take_length] at hv'
      have hR := RRune_any v' _ _ hv'
      unfold pairV at hR
      have hk := rune_le (l.drop pos)
      simp only [List.length_drop] at hk
      have HU := hid hu
      by_cases z : (rune (l.drop pos)).2 = 0
      · have hr0 := rune_none z
        rw [hr0] at hR
        have HR := hid hR
        have Z := hid z
        have HB := hid hbl
        clear hu hv' hr0 z a2 hR hbl hk
        go_wp2_with (go_at_call 49; refine HR.out.mono ?_; rintro e w' ⟨rfl, hb1⟩)
        go_ret
        exact ⟨by rw [(HU.out.stop hp Z.out).1]; rfl, HB.out.trans (hb1.mono HB.out.size)⟩
      · have hz : (((rune (l.drop pos)).2 : Int) == 0) = false := by rw [beq_eq_false_iff_ne]; omega
        have Z := hid z
        have HR := hid hR
        have HB := hid hbl
        have hk1 : 1 ≤ (rune (l.drop pos)).2 := by omega
        have hnx := hu.next z
        have HN := hid hnx
        clear hu hv' z a2 hR hbl hnx
        generalize rune (l.drop pos) = r at *
        go_wp2_with (go_at_call 49; refine HR.out.mono ?_; rintro e w' ⟨rfl, hb1⟩)
        go_roundw
        case rel => exact ⟨pos + r.2, by go_num, HN.out, HB.out.trans (hb1.mono HB.out.size)⟩
        case measure => simp [intOf]; omega
    · have HU := hid hu
      have HB := hid hbl
      clear hu hbl
      go_wp2
      go_ret
      refine ⟨?_, HB.out⟩
      rw [(HU.out.done hp).1]
      have := HU.out.1
      have e : pos = l.length := by omega
      rw [e]; rfl

end Go.Proofs.YthodmdfbahkflaaGreatDoor.Utf
namespace Go.Proofs.YthodmdfbahkflaaGreatDoor.Utf
open Go Go.Proofs.YthodmdfbahkflaaGreatDoor Go.RowKit
set_option maxRecDepth 100000

theorem Rune_eq (v : Value) (l : List UInt8) (i : Int) (w : World) (hT : Tabs w) (hv : Bytes w v l) (c k : Nat) (E : Int) (h : runeR l i = (c, k, E)) :
    Calls Tryz.prog 100 #[v, .int .i64 i] w fun e w' => e = .returned (.tuple #[.int .i64 c, .int .i64 k, .int .i64 E]) ∧ Below w.heap.size w w' := by
  have := Rune_any v l i w hT hv
  rw [h] at this; exact this

theorem Tabs.alloc {w : World} (h : Tabs w) (o : Obj) : Tabs (w.alloc o) := h.below ((Below.refl w.heap.size w).alloc (Nat.le_refl _) o) (Nat.le_refl _)

end Go.Proofs.YthodmdfbahkflaaGreatDoor.Utf
namespace Go.Proofs.YthodmdfbahkflaaGreatDoor.Utf
open Go Go.Proofs.YthodmdfbahkflaaGreatDoor Go.RowKit
set_option maxRecDepth 100000

theorem nth_append_left (l m : List UInt8) (i : Nat) (h : i < l.length) : nth (l ++ m) i = nth l i := by simp [nth, List.getD, List.getElem?_append_left h]
theorem nth_take (l : List UInt8) (k i : Nat) (h : i < k) : nth (l.take k) i = nth l i := by simp [nth, List.getD, List.getElem?_take, h]

theorem chk_snd {x j k : Nat} (h : (chk x j).2 = k) (hk : k ≠ 0) : j = k := by
  rcases chk_cases x j with e | ⟨e, _⟩ <;> rw [e] at h
  · exact absurd h.symm hk
  · exact h

/-- A character hangs on its own bytes alone. -/
theorem runeN_own (n m b0 b1 b2 b3 c1 c2 c3 k : Nat) (hk : (runeN n b0 b1 b2 b3).2 = k) (hk0 : k ≠ 0) (hm : k ≤ m) (h1 : 1 < k → b1 = c1) (h2 : 2 < k → b2 = c2) (h3 : 3 < k → b3 = c3) :
    runeN m b0 c1 c2 c3 = runeN n b0 b1 b2 b3 := by
  unfold runeN at hk ⊢
  rw [if_neg (by omega : ¬ m = 0)]
  by_cases e : n = 0
  · rw [if_pos e] at hk; exact absurd hk.symm hk0
  rw [if_neg e] at hk ⊢
  by_cases e0 : b0 < 128
  · rw [if_pos e0, if_pos e0]
  rw [if_neg e0] at hk ⊢
  rw [if_neg e0]
  by_cases e1 : b0 < 192
  · rw [if_pos e1, if_pos e1]
  rw [if_neg e1] at hk ⊢
  rw [if_neg e1]
  by_cases e2 : b0 < 224
  · rw [if_pos e2] at hk ⊢
    rw [if_pos e2]
    by_cases c : 2 ≤ n ∧ b1 / 64 = 2
    · rw [if_pos c] at hk
      have := chk_snd hk hk0
      have hb := h1 (by omega)
      subst hb
      rw [if_pos c, if_pos ⟨by omega, c.2⟩]
    · rw [if_neg c] at hk; exact absurd hk.symm hk0
  rw [if_neg e2] at hk ⊢
  rw [if_neg e2]
  by_cases e3 : b0 < 240
  · rw [if_pos e3] at hk ⊢
    rw [if_pos e3]
    by_cases c : 3 ≤ n ∧ b1 / 64 = 2 ∧ b2 / 64 = 2
    · rw [if_pos c] at hk
      have := chk_snd hk hk0
      have hb := h1 (by omega)
      have hb2 := h2 (by omega)
      subst hb; subst hb2
      rw [if_pos c, if_pos ⟨by omega, c.2⟩]
    · rw [if_neg c] at hk; exact absurd hk.symm hk0
  rw [if_neg e3] at hk ⊢
  rw [if_neg e3]
  by_cases e4 : b0 < 248
  · rw [if_pos e4] at hk ⊢
    rw [if_pos e4]
    by_cases c : 4 ≤ n ∧ b1 / 64 = 2 ∧ b2 / 64 = 2 ∧ b3 / 64 = 2
    · rw [if_pos c] at hk
      have := chk_snd hk hk0
      have hb := h1 (by omega)
      have hb2 := h2 (by omega)
      have hb3 := h3 (by omega)
      subst hb; subst hb2; subst hb3
      rw [if_pos c, if_pos ⟨by omega, c.2⟩]
    · rw [if_neg c] at hk; exact absurd hk.symm hk0
  rw [if_neg e4] at hk; exact absurd hk.symm hk0
theorem rune_own (l m : List UInt8) (k : Nat) (hk : (rune l).2 = k) (hk0 : k ≠ 0) (hm : k ≤ m.length) (h : ∀ i, i < k → nth m i = nth l i) : rune m = rune l := by
  have e := runeN_own l.length m.length (nth l 0) (nth l 1) (nth l 2) (nth l 3) (nth m 1) (nth m 2) (nth m 3) k hk hk0 hm (fun e => (h 1 e).symm) (fun e => (h 2 e).symm) (fun e => (h 3 e).symm)
  unfold rune
  rw [h 0 (by omega)]
  exact e

/-- A character's bytes, one by one. -/
theorem enc_nth (c : Int) (cs : List Int) (h : cellsOf (enc c) = cs.map (Value.int .u8)) : (enc c).length = cs.length ∧ ∀ i, i < cs.length → (nth (enc c) i : Int) = cs.getD i 0 := by
  have hl : (enc c).length = cs.length := by have := congrArg List.length h; simpa [cellsOf] using this
  refine ⟨hl, fun i hi => ?_⟩
  have := congrArg (·[i]?) h
  have hi' : i < (enc c).length := by omega
  simp [cellsOf, hi, hi'] at this
  rw [← nth_get hi', this]
  simp [List.getD, hi]

/-- What is put is read, whatever stands behind it. -/
theorem rune_enc (c : Nat) (hf : fine (c : Int) = true) (m : List UInt8) : rune (enc c ++ m) = (c, (enc c).length) := by
  have hw := enc_width hf
  have hfi := (nfine_iff c).1 hf
  have key : ∀ i, i < (enc (c : Int)).length → nth (enc c ++ m) i = nth (enc c) i := fun i hi => nth_append_left _ _ _ hi
  rcases (by omega : c < 128 ∨ (128 ≤ c ∧ c < 2048) ∨ (2048 ≤ c ∧ c < 65536) ∨ 65536 ≤ c) with h | ⟨h, h'⟩ | ⟨h, h'⟩ | h
  · obtain ⟨hl, hn⟩ := enc_nth c [(c : Int)] (enc_one (by omega) (by omega))
    have h0 := hn 0 (by simp)
    simp at h0 hl
    have k0 := key 0 (by omega)
    unfold rune runeN
    rw [if_neg (by rw [List.length_append]; omega), k0, if_pos (by omega), show nth (enc c) 0 = c from by omega, chk_fine hf (width_one h), hl]
  · obtain ⟨hl, hn⟩ := enc_nth c [192 + (c : Int) / 64, 128 + (c : Int) % 64] (enc_two (by omega) (by omega))
    have h0 := hn 0 (by simp)
    have h1 := hn 1 (by simp)
    simp at h0 h1 hl
    have k0 := key 0 (by omega)
    have k1 := key 1 (by omega)
    unfold rune runeN
    rw [if_neg (by rw [List.length_append]; omega), k0, k1, if_neg (by omega), if_neg (by omega), if_pos (by omega), if_pos ⟨by rw [List.length_append]; omega, by omega⟩,
      show (nth (enc c) 0 - 192) * 64 + (nth (enc c) 1 - 128) = c from by omega, chk_fine hf (width_two h h'), hl]
  · obtain ⟨hl, hn⟩ := enc_nth c [224 + (c : Int) / 4096, 128 + (c : Int) / 64 % 64, 128 + (c : Int) % 64] (enc_three (by omega) (by omega) hf)
    have h0 := hn 0 (by simp)
    have h1 := hn 1 (by simp)
    have h2 := hn 2 (by simp)
    simp at h0 h1 h2 hl
    have k0 := key 0 (by omega)
    have k1 := key 1 (by omega)
    have k2 := key 2 (by omega)
    unfold rune runeN
    rw [if_neg (by rw [List.length_append]; omega), k0, k1, k2, if_neg (by omega), if_neg (by omega), if_neg (by omega), if_pos (by omega), if_pos ⟨by rw [List.length_append]; omega, by omega, by omega⟩,
      show (nth (enc c) 0 - 224) * 4096 + (nth (enc c) 1 - 128) * 64 + (nth (enc c) 2 - 128) = c from by omega, chk_fine hf (width_three h h'), hl]
  · obtain ⟨hl, hn⟩ := enc_nth c [240 + (c : Int) / 262144, 128 + (c : Int) / 4096 % 64, 128 + (c : Int) / 64 % 64, 128 + (c : Int) % 64] (enc_four (by omega) hf)
    have h0 := hn 0 (by simp)
    have h1 := hn 1 (by simp)
    have h2 := hn 2 (by simp)
    have h3 := hn 3 (by simp)
    simp at h0 h1 h2 h3 hl
    have k0 := key 0 (by omega)
    have k1 := key 1 (by omega)
    have k2 := key 2 (by omega)
    have k3 := key 3 (by omega)
    have hv : val4 (nth (enc c) 0) (nth (enc c) 1) (nth (enc c) 2) (nth (enc c) 3) = c := by
      have e0 : nth (enc (c : Int)) 0 - 240 = c / 262144 := by omega
      have e1 : nth (enc (c : Int)) 1 - 128 = c / 4096 % 64 := by omega
      have e2 : nth (enc (c : Int)) 2 - 128 = c / 64 % 64 := by omega
      have e3 : nth (enc (c : Int)) 3 - 128 = c % 64 := by omega
      unfold val4
      rw [e0, e1, e2, e3]
      omega
    unfold rune runeN
    rw [if_neg (by rw [List.length_append]; omega), k0, k1, k2, k3, if_neg (by omega), if_neg (by omega), if_neg (by omega), if_neg (by omega), if_pos (by omega), if_pos ⟨by rw [List.length_append]; omega, by omega, by omega, by omega⟩,
      hv, chk_fine hf (width_four h), hl]

theorem check_enc (c : Nat) (hf : fine (c : Int) = true) (m : List UInt8) : check (enc c ++ m) = (enc c).length + check m := by
  have h := rune_enc c hf m
  have hl := enc_len c
  have h2 : (rune (enc c ++ m)).2 ≠ 0 := by rw [h]; show (enc c).length ≠ 0; omega
  rw [check_step h2, h]
  simp

end Go.Proofs.YthodmdfbahkflaaGreatDoor.Utf
namespace Go.Proofs.YthodmdfbahkflaaGreatDoor.Ent
open Go Go.Proofs.YthodmdfbahkflaaGreatDoor Go.Proofs.YthodmdfbahkflaaGreatDoor.Utf
set_option maxRecDepth 100000

theorem list_nth {a b : List UInt8} (hl : a.length = b.length) (h : ∀ i, i < a.length → nth a i = nth b i) : a = b := by
  apply List.ext_getElem hl
  intro i h1 h2
  have := h i h1
  rw [← nth_get h1, ← nth_get h2] at this
  exact UInt8.toNat_inj.1 this

/-- What is read is what is put. -/
theorem rune_take (l : List UInt8) (h : (rune l).2 ≠ 0) : l.take (rune l).2 = enc ((rune l).1 : Int) := by
  have hs := rune_some (l := l) (c := (rune l).1) (k := (rune l).2) rfl h
  obtain ⟨hf, hw, hle, h1, h4⟩ := hs
  have hl := enc_width hf
  have hrl : rune l = runeN l.length (nth l 0) (nth l 1) (nth l 2) (nth l 3) := rfl
  have key : ∀ x j, rune l = chk x j → (rune l).1 = x ∧ (rune l).2 = j := by
    intro x j e
    rcases chk_cases x j with e2 | ⟨e2, _⟩
    · rw [e, e2] at h; exact absurd rfl h
    · rw [e, e2]; exact ⟨rfl, rfl⟩
  have zero : rune l ≠ (0, 0) := fun e => h (by rw [e])
  refine list_nth (by rw [List.length_take, hl, hw]; omega) fun i hi => ?_
  rw [List.length_take] at hi
  rw [nth_take _ _ _ (by omega)]
  have h0 := nth_lt l 0
  have hn1 := nth_lt l 1
  have hn2 := nth_lt l 2
  have hn3 := nth_lt l 3
  generalize hc : (rune l).1 = c at *
  generalize hk : (rune l).2 = k at *
  unfold runeN at hrl
  by_cases e0 : l.length = 0
  · omega
  rw [if_neg e0] at hrl
  by_cases e1 : nth l 0 < 128
  · rw [if_pos e1] at hrl
    obtain ⟨a, b⟩ := key _ _ hrl
    obtain ⟨_, hn⟩ := enc_nth c [(c : Int)] (enc_one (by omega) (by omega))
    have := hn 0 (by simp)
    obtain rfl : i = 0 := by omega
    simp at this; omega
  rw [if_neg e1] at hrl
  by_cases e2 : nth l 0 < 192
  · rw [if_pos e2] at hrl; exact absurd hrl zero
  rw [if_neg e2] at hrl
  by_cases e3 : nth l 0 < 224
  · rw [if_pos e3] at hrl
    by_cases g : 2 ≤ l.length ∧ nth l 1 / 64 = 2
    · rw [if_pos g] at hrl
      obtain ⟨a, b⟩ := key _ _ hrl
      have hwd := (width_iff c).2.1.1 (by omega)
      obtain ⟨_, hn⟩ := enc_nth c [192 + (c : Int) / 64, 128 + (c : Int) % 64] (enc_two (by omega) (by omega))
      have k0 := hn 0 (by simp)
      have k1 := hn 1 (by simp)
      simp at k0 k1
      rcases (by omega : i = 0 ∨ i = 1) with rfl | rfl <;> omega
    · rw [if_neg g] at hrl; exact absurd hrl zero
  rw [if_neg e3] at hrl
  by_cases e4 : nth l 0 < 240
  · rw [if_pos e4] at hrl
    by_cases g : 3 ≤ l.length ∧ nth l 1 / 64 = 2 ∧ nth l 2 / 64 = 2
    · rw [if_pos g] at hrl
      obtain ⟨a, b⟩ := key _ _ hrl
      have hwd := (width_iff c).2.2.1.1 (by omega)
      obtain ⟨_, hn⟩ := enc_nth c [224 + (c : Int) / 4096, 128 + (c : Int) / 64 % 64, 128 + (c : Int) % 64] (enc_three (by omega) (by omega) hf)
      have k0 := hn 0 (by simp)
      have k1 := hn 1 (by simp)
      have k2 := hn 2 (by simp)
      simp at k0 k1 k2
      rcases (by omega : i = 0 ∨ i = 1 ∨ i = 2) with rfl | rfl | rfl <;> omega
    · rw [if_neg g] at hrl; exact absurd hrl zero
  rw [if_neg e4] at hrl
  by_cases e5 : nth l 0 < 248
  · rw [if_pos e5] at hrl
    by_cases g : 4 ≤ l.length ∧ nth l 1 / 64 = 2 ∧ nth l 2 / 64 = 2 ∧ nth l 3 / 64 = 2
    · rw [if_pos g] at hrl
      obtain ⟨a, b⟩ := key _ _ hrl
      have hwd := (width_iff c).2.2.2.1 (by omega)
      obtain ⟨_, hn⟩ := enc_nth c [240 + (c : Int) / 262144, 128 + (c : Int) / 4096 % 64, 128 + (c : Int) / 64 % 64, 128 + (c : Int) % 64] (enc_four (by omega) hf)
      have k0 := hn 0 (by simp)
      have k1 := hn 1 (by simp)
      have k2 := hn 2 (by simp)
      have k3 := hn 3 (by simp)
      simp at k0 k1 k2 k3
      unfold val4 at a
      have t1 : nth l 1 - 128 < 64 := by omega
      have t2 : nth l 2 - 128 < 64 := by omega
      have t3 : nth l 3 - 128 < 64 := by omega
      have t0 : nth l 0 - 240 < 8 := by omega
      have q1 : nth l 1 = 128 + (nth l 1 - 128) := by omega
      have q2 : nth l 2 = 128 + (nth l 2 - 128) := by omega
      have q3 : nth l 3 = 128 + (nth l 3 - 128) := by omega
      have q0 : nth l 0 = 240 + (nth l 0 - 240) := by omega
      generalize nth l 0 - 240 = y0 at *
      generalize nth l 1 - 128 = y1 at *
      generalize nth l 2 - 128 = y2 at *
      generalize nth l 3 - 128 = y3 at *
      rcases (by omega : i = 0 ∨ i = 1 ∨ i = 2 ∨ i = 3) with rfl | rfl | rfl | rfl <;> omega
    · rw [if_neg g] at hrl; exact absurd hrl zero
  rw [if_neg e5] at hrl; exact absurd hrl zero

/-- Right bytes are characters, one behind the other. -/
theorem by_runes {p : List UInt8 → Prop} (h0 : p []) (h1 : ∀ (c : Nat) (l : List UInt8), fine (c : Int) = true → check l = l.length → p l → p (enc (c : Int) ++ l)) :
    ∀ l, check l = l.length → p l := by
  intro l
  generalize hn : l.length = n
  induction n using Nat.strongRecOn generalizing l with
  | _ n ih =>
    intro hc
    by_cases e : l = []
    · subst e; exact h0
    · have hr := rune_le l
      have hne : (rune l).2 ≠ 0 := by
        intro z
        rw [check_stop z] at hc
        exact e (List.eq_nil_of_length_eq_zero (by omega))
      obtain ⟨hf, _, _, _, _⟩ := rune_some (l := l) (c := (rune l).1) (k := (rune l).2) rfl hne
      have hck : check (l.drop (rune l).2) = (l.drop (rune l).2).length := by
        rw [check_step hne] at hc
        simp only [List.length_drop]; omega
      have := h1 (rune l).1 (l.drop (rune l).2) hf hck (ih (l.drop (rune l).2).length (by simp; omega) _ rfl (by simpa using hck))
      rw [← rune_take l hne, List.take_append_drop] at this
      exact this

/-- What a character tells that stands itself. -/
def itself (v : Bool) (c : Nat) : Nat := if v = true then (if c = 9 ∨ c = 10 ∨ c = 13 then 32 else c) else if c = 13 then 10 else c
/-- What stands at the front: the character that it tells, how many bytes it has, what is wrong with it. -/
def item (v : Bool) (l : List UInt8) : Nat × Nat × Nat :=
  if (rune l).2 = 0 then (0, 0, 4)
  else if (rune l).1 = 60 then (0, 0, 5)
  else if (rune l).1 = 38 then (if (refer l).2 = 0 then (0, 0, 5) else ((refer l).1, (refer l).2, 0))
  else (itself v (rune l).1, (if pre [13, 10] l = true then 2 else (rune l).2), 0)
/-- A beginning that tells this, n bytes of it, and what the rest tells. -/
def fin (out : List UInt8) (n : Nat) (r : List UInt8 × Nat × Nat) : List UInt8 × Nat × Nat := (if r.2.2 = 0 then out ++ r.1 else [], n + r.2.1, r.2.2)
def tellF : Nat → Bool → List UInt8 → List UInt8 × Nat × Nat
  | 0, _, _ => ([], 0, 0)
  | f + 1, v, l => if l = [] then ([], 0, 0) else if (item v l).2.2 ≠ 0 then ([], 0, (item v l).2.2) else fin (enc ((item v l).1 : Int)) (item v l).2.1 (tellF f v (l.drop (item v l).2.1))
/-- What a text tells, or where it is wrong, and why. -/
def tell (v : Bool) (l : List UInt8) : List UInt8 × Nat × Nat := tellF l.length v l

theorem itself_fine (v : Bool) (c : Nat) (h : fine (c : Int) = true) : fine (itself v c : Int) = true := by
  unfold itself
  split
  · split
    · decide
    · exact h
  · split
    · decide
    · exact h
theorem item_ok {v : Bool} {l : List UInt8} (h : (item v l).2.2 = 0) : fine ((item v l).1 : Int) = true ∧ 1 ≤ (item v l).2.1 ∧ (item v l).2.1 ≤ l.length := by
  unfold item at h ⊢
  split
  · rename_i e; rw [if_pos e] at h; simp at h
  · rename_i e
    rw [if_neg e] at h
    split
    · rename_i e1; rw [if_pos e1] at h; simp at h
    · rename_i e1
      rw [if_neg e1] at h
      split
      · rename_i e2
        rw [if_pos e2] at h
        split
        · rename_i e3; rw [if_pos e3] at h; simp at h
        · rename_i e3
          have := refer_le l
          exact ⟨(this.2 e3).1, (this.2 e3).2.1, this.1⟩
      · obtain ⟨hf, _, hle, h1, _⟩ := rune_some (l := l) (c := (rune l).1) (k := (rune l).2) rfl e
        refine ⟨itself_fine v _ hf, ?_⟩
        simp only
        split
        · rename_i hp; have := pre_len hp; simp at this; omega
        · omega
theorem tellF_eq : ∀ (f g : Nat) (v : Bool) (l : List UInt8), l.length ≤ f → l.length ≤ g → tellF f v l = tellF g v l
  | 0, 0, v, l, _, _ => rfl
  | 0, g + 1, v, l, h, _ => by
    have : l = [] := List.eq_nil_of_length_eq_zero (by omega)
    subst this; rfl
  | f + 1, 0, v, l, _, h => by
    have : l = [] := List.eq_nil_of_length_eq_zero (by omega)
    subst this; rfl
  | f + 1, g + 1, v, l, h1, h2 => by
    unfold tellF
    by_cases e : l = []
    · rw [if_pos e, if_pos e]
    · rw [if_neg e, if_neg e]
      by_cases z : (item v l).2.2 ≠ 0
      · rw [if_pos z, if_pos z]
      · rw [if_neg z, if_neg z]
        have := item_ok (Classical.not_not.1 z)
        rw [tellF_eq f g v (l.drop (item v l).2.1) (by simp; omega) (by simp; omega)]
theorem tell_nil (v : Bool) : tell v [] = ([], 0, 0) := rfl
theorem tell_bad {v : Bool} {l : List UInt8} (h0 : l ≠ []) (h : (item v l).2.2 ≠ 0) : tell v l = ([], 0, (item v l).2.2) := by
  unfold tell
  cases hl : l.length with
  | zero => exact absurd (List.eq_nil_of_length_eq_zero hl) h0
  | succ n => rw [tellF, if_neg h0, if_pos h]
theorem tell_step {v : Bool} {l : List UInt8} (h : (item v l).2.2 = 0) : tell v l = fin (enc ((item v l).1 : Int)) (item v l).2.1 (tell v (l.drop (item v l).2.1)) := by
  have hi := item_ok h
  have h0 : l ≠ [] := by rintro rfl; simp at hi; omega
  unfold tell
  cases hl : l.length with
  | zero => exact absurd (List.eq_nil_of_length_eq_zero hl) h0
  | succ n =>
    rw [tellF, if_neg h0, if_neg (by rw [h]; simp)]
    rw [tellF_eq n _ v (l.drop (item v l).2.1) (by simp; omega) (Nat.le_refl _)]
theorem fin_fin (o o' : List UInt8) (n n' : Nat) (r : List UInt8 × Nat × Nat) : fin o n (fin o' n' r) = fin (o ++ o') (n + n') r := by
  unfold fin
  simp only
  by_cases e : r.2.2 = 0
  · simp [e, Nat.add_assoc]
  · simp [e, Nat.add_assoc]

/-- What is told is right, as long as nothing is wrong. -/
theorem tell_facts (v : Bool) : ∀ (n : Nat) (l : List UInt8), l.length = n → (tell v l).2.1 ≤ l.length ∧ ((tell v l).2.2 = 0 → (tell v l).2.1 = l.length ∧ check (tell v l).1 = (tell v l).1.length) ∧ ((tell v l).2.2 ≠ 0 → (tell v l).1 = []) ∧ (tell v l).1.length ≤ 4 * l.length := by
  intro n
  induction n using Nat.strongRecOn with
  | _ n ih =>
    intro l hn
    by_cases e : l = []
    · subst e; simp [tell_nil, check_nil]
    · by_cases z : (item v l).2.2 = 0
      · have hk := item_ok z
        have he := enc_len ((item v l).1 : Int)
        have := ih (l.drop (item v l).2.1).length (by simp; omega) _ rfl
        obtain ⟨a, b, c, d⟩ := this
        rw [tell_step z]
        simp only [List.length_drop] at a b d
        unfold fin
        refine ⟨by simp only; omega, fun hz => ?_, fun hz => ?_, ?_⟩
        · simp only at hz
          obtain ⟨b1, b2⟩ := b hz
          refine ⟨by simp only; omega, ?_⟩
          simp only [hz, if_true]
          rw [check_enc _ hk.1, b2, List.length_append]
        · simp only at hz; simp [hz]
        · simp only
          split
          · rw [List.length_append]; omega
          · simp
      · rw [tell_bad e z]
        simp [z]
theorem tell_le (v : Bool) (l : List UInt8) : (tell v l).2.1 ≤ l.length := (tell_facts v _ l rfl).1
theorem tell_right {v : Bool} {l : List UInt8} (h : (tell v l).2.2 = 0) : (tell v l).2.1 = l.length ∧ check (tell v l).1 = (tell v l).1.length := (tell_facts v _ l rfl).2.1 h
theorem tell_none {v : Bool} {l : List UInt8} (h : (tell v l).2.2 ≠ 0) : (tell v l).1 = [] := (tell_facts v _ l rfl).2.2.1 h
theorem tell_short (v : Bool) (l : List UInt8) : (tell v l).1.length ≤ 4 * l.length := (tell_facts v _ l rfl).2.2.2

/-- Ahead of pos this was told. -/
def Told (v : Bool) (l : List UInt8) (pos : Nat) (out : List UInt8) : Prop := pos ≤ l.length ∧ out.length ≤ 4 * pos ∧ tell v l = fin out pos (tell v (l.drop pos))
theorem Told.start (v : Bool) (l : List UInt8) : Told v l 0 [] := ⟨by omega, by simp, by
  unfold fin
  rw [List.drop_zero, Nat.zero_add, List.nil_append]
  by_cases e : (tell v l).2.2 = 0
  · rw [if_pos e]
  · rw [if_neg e]; conv => lhs; rw [← Prod.eta (tell v l), tell_none e]⟩
theorem Told.next {v : Bool} {l : List UInt8} {pos : Nat} {out : List UInt8} (h : Told v l pos out) (hi : (item v (l.drop pos)).2.2 = 0) :
    Told v l (pos + (item v (l.drop pos)).2.1) (out ++ enc ((item v (l.drop pos)).1 : Int)) := by
  obtain ⟨h1, h2, h3⟩ := h
  have hk := item_ok hi
  have he := enc_len ((item v (l.drop pos)).1 : Int)
  simp only [List.length_drop] at hk
  refine ⟨by omega, by rw [List.length_append]; omega, ?_⟩
  rw [h3, tell_step hi, fin_fin, List.drop_drop]
theorem Told.stop {v : Bool} {l : List UInt8} {pos : Nat} {out : List UInt8} (h : Told v l pos out) (hp : pos < l.length) (hi : (item v (l.drop pos)).2.2 ≠ 0) :
    tell v l = ([], pos, (item v (l.drop pos)).2.2) := by
  obtain ⟨h1, h2, h3⟩ := h
  rw [h3, tell_bad (by intro e; have := congrArg List.length e; simp at this; omega) hi]
  simp [fin, hi]
theorem Told.done {v : Bool} {l : List UInt8} {pos : Nat} {out : List UInt8} (h : Told v l pos out) (hp : ¬ pos < l.length) : tell v l = (out, l.length, 0) := by
  obtain ⟨h1, h2, h3⟩ := h
  have : pos = l.length := by omega
  subst this
  rw [h3, List.drop_length, tell_nil]; simp [fin]

/-- What is laid in a byte's place. -/
def escT (v : Bool) (c : Nat) : Option (List UInt8) :=
  if c = 38 then some [38, 97, 109, 112, 59] else if c = 60 then some [38, 108, 116, 59] else if c = 62 then some [38, 103, 116, 59] else if c = 13 then some [38, 35, 49, 51, 59]
  else if v = true ∧ c = 34 then some [38, 113, 117, 111, 116, 59] else if v = true ∧ c = 9 then some [38, 35, 57, 59] else if v = true ∧ c = 10 then some [38, 35, 49, 48, 59] else none
def escB (v : Bool) (b : UInt8) : List UInt8 := (escT v b.toNat).getD [b]
/-- A text, escaped. -/
def esc (v : Bool) (l : List UInt8) : List UInt8 := l.flatMap (escB v)
theorem esc_append (v : Bool) (a b : List UInt8) : esc v (a ++ b) = esc v a ++ esc v b := by simp [esc]
theorem escT_none {v : Bool} {c : Nat} (h : 128 ≤ c) : escT v c = none := by
  unfold escT
  rw [if_neg (by omega), if_neg (by omega), if_neg (by omega), if_neg (by omega), if_neg (by omega), if_neg (by omega), if_neg (by omega)]
theorem escT_len {v : Bool} {c : Nat} {t : List UInt8} (h : escT v c = some t) : t.length ≤ 6 := by
  unfold escT at h
  repeat' split at h
  all_goals first | (cases h; done) | (injection h with h; subst h; decide)
theorem escB_len (v : Bool) (b : UInt8) : (escB v b).length ≤ 6 := by
  unfold escB
  cases h : escT v b.toNat with
  | none => simp
  | some t => exact escT_len h
theorem esc_len (v : Bool) : ∀ l : List UInt8, (esc v l).length ≤ 6 * l.length
  | [] => by simp [esc]
  | b :: l => by
    have := esc_len v l
    have := escB_len v b
    simp only [esc, List.flatMap_cons, List.length_append, List.length_cons] at *; omega

theorem enc_low {c : Nat} (h : c < 128) : enc (c : Int) = [UInt8.ofNat c] := by
  obtain ⟨hl, hn⟩ := enc_nth c [(c : Int)] (enc_one (by omega) (by omega))
  have h0 := hn 0 (by simp)
  refine list_nth (by simpa using hl) fun i hi => ?_
  have hl2 : (enc (c : Int)).length = 1 := by simpa using hl
  obtain rfl : i = 0 := by omega
  simp at h0
  rw [show nth (enc (c : Int)) 0 = c from by omega]
  simp [nth, List.getD]
  omega
theorem enc_high {c : Nat} (h : 128 ≤ c) (hf : fine (c : Int) = true) : ∀ b ∈ enc (c : Int), 128 ≤ b.toNat := by
  intro b hb
  have hfi := (nfine_iff c).1 hf
  have key : ∀ cs : List Int, cellsOf (enc (c : Int)) = cs.map (Value.int .u8) → (∀ x ∈ cs, 128 ≤ x) → 128 ≤ b.toNat := by
    intro cs hcs hx
    have : Value.int .u8 (b.toNat : Int) ∈ cellsOf (enc (c : Int)) := by
      unfold cellsOf; exact List.mem_map.2 ⟨b, hb, rfl⟩
    rw [hcs] at this
    obtain ⟨x, h1, h2⟩ := List.mem_map.1 this
    injection h2 with _ h3
    have := hx x h1; omega
  rcases (by omega : (128 ≤ c ∧ c < 2048) ∨ (2048 ≤ c ∧ c < 65536) ∨ 65536 ≤ c) with ⟨h, h'⟩ | ⟨h, h'⟩ | h
  · exact key [_, _] (enc_two (by omega) (by omega)) (by simp; omega)
  · exact key [_, _, _] (enc_three (by omega) (by omega) hf) (by simp; omega)
  · exact key [_, _, _, _] (enc_four (by omega) hf) (by simp; omega)

/-- A character, escaped. -/
theorem esc_enc (v : Bool) (c : Nat) (hf : fine (c : Int) = true) : esc v (enc (c : Int)) = (escT v c).getD (enc (c : Int)) := by
  by_cases h : c < 128
  · rw [enc_low h]
    simp only [esc, List.flatMap_cons, List.flatMap_nil, List.append_nil, escB]
    rw [show (UInt8.ofNat c).toNat = c from by simp; omega]
  · have hh := enc_high (by omega) hf
    rw [escT_none (by omega)]
    simp only [Option.getD_none]
    unfold esc
    generalize enc (c : Int) = l at hh
    induction l with
    | nil => rfl
    | cons b l ih =>
      rw [List.flatMap_cons, ih (fun x hx => hh x (by simp [hx]))]
      unfold escB
      rw [escT_none (hh b (by simp))]
      rfl
end Go.Proofs.YthodmdfbahkflaaGreatDoor.Ent
