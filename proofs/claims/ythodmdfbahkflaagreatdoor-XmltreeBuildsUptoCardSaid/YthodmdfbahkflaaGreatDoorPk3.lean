/- Plain mathematics of layer 2: names' characters, words between blanks. | Plain mathematics of layer 2, continued: pieces between blanks, character by character. | Layer 3: contracts of the functions that ask of one character, one digit, one name; and of what a text begins with. | Layer 3: contracts of the document's own answers on references: number, reference. | A text's bytes, as a new slice: it reads as they do in each world that keeps the slice's block. | Layer 3: strconv.ParseUint of a few digits, to the base 10 or 16, as numbered calls it. | Layer 3: contracts of strconv.ParseUint as numbered calls it, of numbered, named, referred, and of the code's reference. | Layer 3: contracts of referred and of the code's reference. | Layer 3: contract of the document's own answer on references: reference. | append, of a slice that a row tells, onto a slice that the call owns. Over any program. | Layer 3: contract of the document's own answer: Tell. | A strings.Builder that a call has made, told by the bytes that it holds, beside other blocks that are kept: contracts of copyCheck, WriteRune, WriteString, String. | Layer 3: contract of the code's tell, at both its uses; of Text and Value. | A map that is made by a literal: its stores. | Layer 3: contracts of the maps of what is escaped. | Layer 3: contracts of escape, EscapeText, EscapeValue. | Layer 3: contract of the document's own answer: Escape. | Plain mathematics of layer 3, for the statements without the document's answers: what is escaped tells what it was; plain texts; numerals. | Layer 3: the document's examples; the walks of EntityTells and EntityEscapes. | Plain mathematics of layer 2, for the statements without the document's answers: names put one behind the other. -/
import Derived.Test.YthodmdfbahkflaaGreatDoorPk1
import Derived.Test.YthodmdfbahkflaaGreatDoorPk2
import Derived.Test.YthodmdfbahkflaaGreatDoorShelf
import Derived.Lib.ConvBytes
import Derived.Laws.AppendOwn
import Derived.Deep.RegionWith
import Derived.Laws.AppendOwnNone
import Derived.Lib.Builder
import Derived.Lib.AppendStr
import Derived.WalkKit
import Derived.Maps.Own
import Derived.Maps.OwnSet
import Derived.Maps.Views
import Derived.Maps.StringElems
import Derived.Lib.OthersKept
set_option linter.unusedVariables false
set_option linter.unusedSimpArgs false
namespace Go.Proofs.YthodmdfbahkflaaGreatDoor.Names
open Go Go.Proofs.YthodmdfbahkflaaGreatDoor Go.Proofs.YthodmdfbahkflaaGreatDoor.Utf

/-- A text's characters; none, if it isn't right. -/
def charsF : Nat → List UInt8 → Option (List Nat)
  | 0, l => if l = [] then some [] else none
  | f + 1, l => if l = [] then some [] else if (rune l).2 = 0 then none else (charsF f (l.drop (rune l).2)).map ((rune l).1 :: ·)
def chars (l : List UInt8) : Option (List Nat) := charsF l.length l

theorem rune_nil : rune [] = (0, 0) := rfl
theorem charsF_eq : ∀ (f g : Nat) (l : List UInt8), l.length ≤ f → l.length ≤ g → charsF f l = charsF g l
  | 0, 0, l, _, _ => rfl
  | 0, g + 1, l, h, _ => by
    have : l = [] := List.eq_nil_of_length_eq_zero (by omega)
    subst this; simp [charsF]
  | f + 1, 0, l, _, h => by
    have : l = [] := List.eq_nil_of_length_eq_zero (by omega)
    subst this; simp [charsF]
  | f + 1, g + 1, l, h, h' => by
    unfold charsF
    split
    · rfl
    · split
      · rfl
      · rename_i hk
        have := rune_le l
        rw [charsF_eq f g (l.drop (rune l).2) (by simp; omega) (by simp; omega)]
theorem chars_nil : chars [] = some [] := rfl
theorem chars_none {l : List UInt8} (h0 : l ≠ []) (h : (rune l).2 = 0) : chars l = none := by
  unfold chars
  cases hl : l.length with
  | zero => exact absurd (List.eq_nil_of_length_eq_zero hl) h0
  | succ n => simp [charsF, h, h0]
theorem chars_step {l : List UInt8} (h : (rune l).2 ≠ 0) : chars l = (chars (l.drop (rune l).2)).map ((rune l).1 :: ·) := by
  have h1 := rune_le l
  have h0 : l ≠ [] := by rintro rfl; exact h rfl
  unfold chars
  cases hl : l.length with
  | zero => omega
  | succ n =>
    rw [charsF, if_neg h0, if_neg h]
    rw [charsF_eq n (l.drop (rune l).2).length _ (by simp; omega) (by simp)]

/-- Induction on a text by its characters. -/
theorem by_chars {p : List UInt8 → Prop} (h0 : p []) (h1 : ∀ l, l ≠ [] → (rune l).2 = 0 → p l) (h2 : ∀ l, (rune l).2 ≠ 0 → p (l.drop (rune l).2) → p l) (l : List UInt8) : p l := by
  generalize hn : l.length = n
  induction n using Nat.strongRecOn generalizing l with
  | _ n ih =>
    by_cases e : l = []
    · subst e; exact h0
    · by_cases h : (rune l).2 = 0
      · exact h1 l e h
      · have := rune_le l
        exact h2 l h (ih (l.drop (rune l).2).length (by simp; omega) _ rfl)

/-- All of them are of a kind. -/
def allq (q : Int → Bool) (l : List UInt8) : Bool := match chars l with | some cs => cs.all (fun c => q c) | none => false
/-- One character of a first kind, and any of another. -/
def shp (p q : Int → Bool) (l : List UInt8) : Bool := match chars l with | some (c :: cs) => p c && cs.all (fun c => q c) | _ => false

theorem allq_nil (q : Int → Bool) : allq q [] = true := rfl
theorem allq_step {q : Int → Bool} {l : List UInt8} (h : (rune l).2 ≠ 0) : allq q l = (q (rune l).1 && allq q (l.drop (rune l).2)) := by
  unfold allq; rw [chars_step h]
  cases chars (l.drop (rune l).2) <;> simp
theorem shp_step {p q : Int → Bool} {l : List UInt8} (h : (rune l).2 ≠ 0) : shp p q l = (p (rune l).1 && allq q (l.drop (rune l).2)) := by
  unfold shp allq; rw [chars_step h]
  cases chars (l.drop (rune l).2) <;> simp

/-- Where all characters are told the text is right. -/
theorem check_of_chars (l : List UInt8) : check l = l.length ↔ chars l ≠ none := by
  refine by_chars (p := fun l => check l = l.length ↔ chars l ≠ none) ?_ ?_ ?_ l
  · simp [chars_nil, check_nil]
  · intro l h0 h
    rw [chars_none h0 h, check_stop h]
    have : l.length ≠ 0 := fun e => h0 (List.eq_nil_of_length_eq_zero e)
    simp; omega
  · intro l h ih
    rw [chars_step h, check_step h]
    have := rune_le l
    simp only [List.length_drop] at ih
    constructor
    · intro e
      have := ih.1 (by omega)
      simpa using this
    · intro e
      have := ih.2 (by simpa using e)
      omega
theorem shp_check {p q : Int → Bool} {l : List UInt8} (h : check l ≠ l.length) : shp p q l = false := by
  have : chars l = none := Classical.not_not.1 (fun e => h ((check_of_chars l).2 e))
  unfold shp; rw [this]

def plainB (l : List UInt8) : Bool := shp Utf.first Utf.part l
/-- The keywords. -/
def keys : List (List UInt8) :=
  [[97, 110, 100], [98, 101, 116, 119, 101, 101, 110], [101, 108, 115, 101], [101, 118, 101, 114, 121], [102, 97, 108, 115, 101], [102, 111, 114], [102, 117, 110, 99, 116, 105, 111, 110], [105, 102], [105, 110], [110, 111, 116], [110, 117, 108, 108], [111, 114], [114, 101, 116, 117, 114, 110], [115, 97, 116, 105, 115, 102, 105, 101, 115], [115, 111, 109, 101], [116, 104, 101, 110], [116, 114, 117, 101]]
/-- The first place of a byte. -/
def firstAt (c : UInt8) : List UInt8 → Option Nat
  | [] => none
  | x :: r => if x = c then some 0 else (firstAt c r).map (· + 1)
theorem firstAt_lt {c : UInt8} : ∀ {l : List UInt8} {i : Nat}, firstAt c l = some i → i < l.length
  | [], i, h => by simp [firstAt] at h
  | x :: r, i, h => by
    unfold firstAt at h
    split at h
    · cases h; simp
    · cases hr : firstAt c r with
      | none => rw [hr] at h; simp at h
      | some j => rw [hr] at h; simp at h; have := firstAt_lt hr; simp; omega
theorem firstAt_at {c : UInt8} : ∀ {l : List UInt8} {i : Nat}, firstAt c l = some i → l[i]? = some c ∧ ∀ k, k < i → l[k]? ≠ some c
  | [], i, h => by simp [firstAt] at h
  | x :: r, i, h => by
    unfold firstAt at h
    split at h
    · rename_i e
      cases h; subst e; simp
    · rename_i e
      cases hr : firstAt c r with
      | none => rw [hr] at h; simp at h
      | some j =>
        rw [hr] at h; simp at h
        obtain ⟨h1, h2⟩ := firstAt_at hr
        subst h
        refine ⟨by simpa using h1, fun k hk => ?_⟩
        cases k with
        | zero => simpa using e
        | succ k => simpa using h2 k (by omega)
theorem firstAt_none {c : UInt8} : ∀ {l : List UInt8}, firstAt c l = none → ∀ k : Nat, l[k]? ≠ some c
  | [], h => by simp
  | x :: r, h => by
    unfold firstAt at h
    split at h
    · cases h
    · rename_i e
      intro k
      cases k with
      | zero => simpa using e
      | succ k => simpa using firstAt_none (by simpa using h) k
/-- It is that place, if the byte stands there and not ahead of it. -/
theorem firstAt_is {c : UInt8} {l : List UInt8} {i : Nat} (h1 : l[i]? = some c) (h2 : ∀ k, k < i → l[k]? ≠ some c) : firstAt c l = some i := by
  cases h : firstAt c l with
  | none => exact absurd h1 (firstAt_none h i)
  | some j =>
    obtain ⟨h3, h4⟩ := firstAt_at h
    rcases Nat.lt_trichotomy i j with e | e | e
    · exact absurd h1 (h4 i e)
    · rw [e]
    · exact absurd h3 (h2 j e)
theorem firstAt_no {c : UInt8} {l : List UInt8} (h : ∀ k : Nat, l[k]? ≠ some c) : firstAt c l = none := by
  cases e : firstAt c l with
  | none => rfl
  | some j => exact absurd (firstAt_at e).1 (h j)

/-- A name of XML: its prefix, and what stands behind it. -/
def splitO (l : List UInt8) : Option (List UInt8 × List UInt8) :=
  match firstAt 58 l with
  | none => if plainB l then some ([], l) else none
  | some i => if plainB (l.take i) && plainB (l.drop (i + 1)) then some (l.take i, l.drop (i + 1)) else none
def splitE (l : List UInt8) : Int := if (splitO l).isSome then 0 else 6
def splitA (l : List UInt8) : List UInt8 := match splitO l with | some p => p.1 | none => []
def splitB (l : List UInt8) : List UInt8 := match splitO l with | some p => p.2 | none => []


/-- Ahead of pos the characters are cs. -/
def Got (l : List UInt8) (pos : Nat) (cs : List Nat) : Prop := pos ≤ l.length ∧ cs.length ≤ pos ∧ chars l = (chars (l.drop pos)).map (cs ++ ·)
theorem Got.start (l : List UInt8) : Got l 0 [] := ⟨by omega, by simp, by rw [List.drop_zero]; cases chars l <;> simp⟩
theorem Got.stop {l : List UInt8} {pos : Nat} {cs : List Nat} (h : Got l pos cs) (hp : pos < l.length) (hr : (rune (l.drop pos)).2 = 0) : chars l = none := by
  rw [h.2.2, chars_none (fun e => by have := congrArg List.length e; simp at this; omega) hr]; rfl
theorem Got.next {l : List UInt8} {pos : Nat} {cs : List Nat} (h : Got l pos cs) (hr : (rune (l.drop pos)).2 ≠ 0) : Got l (pos + (rune (l.drop pos)).2) (cs ++ [(rune (l.drop pos)).1]) := by
  have h1 := rune_le (l.drop pos)
  obtain ⟨h2, h3, h4⟩ := h
  simp only [List.length_drop] at h1
  refine ⟨by omega, by simp; omega, ?_⟩
  rw [h4, chars_step hr, List.drop_drop]
  cases chars (l.drop (pos + (rune (l.drop pos)).2)) <;> simp
theorem Got.done {l : List UInt8} {pos : Nat} {cs : List Nat} (h : Got l pos cs) (hp : ¬ pos < l.length) : chars l = some cs := by
  rw [h.2.2, List.drop_of_length_le (by omega), chars_nil]; simp
theorem chars_len : ∀ (l : List UInt8) (cs : List Nat), chars l = some cs → cs.length ≤ l.length := by
  intro l
  refine by_chars (p := fun l => ∀ cs, chars l = some cs → cs.length ≤ l.length) ?_ ?_ ?_ l
  · intro cs h; rw [chars_nil] at h; cases h; simp
  · intro l h0 h cs hc; rw [chars_none h0 h] at hc; cases hc
  · intro l h ih cs hc
    have h1 := rune_le l
    rw [chars_step h] at hc
    cases hd : chars (l.drop (rune l).2) with
    | none => rw [hd] at hc; cases hc
    | some ds =>
      rw [hd] at hc; cases hc
      have := ih ds hd
      simp at this ⊢; omega

end Go.Proofs.YthodmdfbahkflaaGreatDoor.Names
namespace Go.Proofs.YthodmdfbahkflaaGreatDoor.Names
open Go Go.Proofs.YthodmdfbahkflaaGreatDoor Go.Proofs.YthodmdfbahkflaaGreatDoor.Utf

theorem text_append (a b : List UInt8) : text a ++ text b = text (a ++ b) := by
  have h : (text a ++ text b).data.toList = (text (a ++ b)).data.toList := by
    rw [text_data, ByteArray.data_append]
    simp [text]
  generalize text a ++ text b = x at *
  generalize text (a ++ b) = y at *
  obtain ⟨⟨x⟩⟩ := x
  obtain ⟨⟨y⟩⟩ := y
  simp only at h
  rw [h]
theorem text_one (l : List UInt8) (k : Nat) (hk : k < l.length) : (text l).extract k (k + 1) = text [l[k]] := by
  rw [text_cut, Nat.add_sub_cancel_left]
  congr 1
  rw [List.drop_eq_getElem_cons hk]; rfl
end Go.Proofs.YthodmdfbahkflaaGreatDoor.Names
namespace Go.Proofs.YthodmdfbahkflaaGreatDoor.Ent
open Go Go.Proofs.YthodmdfbahkflaaGreatDoor Go.Proofs.YthodmdfbahkflaaGreatDoor.Utf Go.RowKit
set_option maxRecDepth 100000

theorem ret_i32 {a b : Int} (h : a = b) : Ending.returned (.int .i32 a) = .returned (.int .i32 b) := by rw [h]
set_option maxHeartbeats 400000 in
theorem inText_any (c : Nat) (w : World) :
    Calls Tryz.prog 106 #[.int .i32 c] w fun e w' => e = .returned (.int .i32 (itself false c)) ∧ w = w' := by
  by_cases h : c = 13
  · subst h
    go_enter Tryz.func106, Tryz.ntmps106
    go_wp2
    go_ret
    exact ⟨rfl, rfl⟩
  · have hb : ((c : Int) == 13) = false := by rw [beq_eq_false_iff_ne]; omega
    have HI := hid (show itself false c = c from by unfold itself; rw [if_neg (by simp), if_neg h])
    clear h
    go_enter Tryz.func106, Tryz.ntmps106
    go_wp2
    go_ret
    exact ⟨ret_i32 (by rw [HI.out]), rfl⟩

set_option maxHeartbeats 400000 in
theorem inValue_any (c : Nat) (w : World) :
    Calls Tryz.prog 140 #[.int .i32 c] w fun e w' => e = .returned (.int .i32 (itself true c)) ∧ w = w' := by
  by_cases h : c = 9 ∨ c = 10 ∨ c = 13
  · rcases h with rfl | rfl | rfl
    all_goals
      go_enter Tryz.func140, Tryz.ntmps140
      go_wp2
      go_ret
      exact ⟨rfl, rfl⟩
  · have hb : ((c : Int) == 9) = false := by rw [beq_eq_false_iff_ne]; omega
    have hb2 : ((c : Int) == 10) = false := by rw [beq_eq_false_iff_ne]; omega
    have hb3 : ((c : Int) == 13) = false := by rw [beq_eq_false_iff_ne]; omega
    have HI := hid (show itself true c = c from by unfold itself; rw [if_pos rfl, if_neg h])
    clear h
    go_enter Tryz.func140, Tryz.ntmps140
    go_wp2
    go_ret
    exact ⟨ret_i32 (by rw [HI.out]), rfl⟩

theorem text_list (l : List UInt8) : (text l).toList = l := by rw [Lib.toList_data, text_data]
end Go.Proofs.YthodmdfbahkflaaGreatDoor.Ent
namespace Go.Proofs.YthodmdfbahkflaaGreatDoor.Ent
open Go Go.Proofs.YthodmdfbahkflaaGreatDoor Go.Proofs.YthodmdfbahkflaaGreatDoor.Utf Go.RowKit
set_option maxRecDepth 100000

/-- The first k bytes are digits. -/
def Digs (base : Nat) (l : List UInt8) (k : Nat) : Prop := k ≤ l.length ∧ (l.take k).all (isd base) = true
theorem Digs.start (base : Nat) (l : List UInt8) : Digs base l 0 := ⟨by omega, by simp⟩
theorem Digs.next {base : Nat} {l : List UInt8} {k : Nat} (h : Digs base l k) (hk : k < l.length) (hd : isd base l[k] = true) :
    Digs base l (k + 1) ∧ val base 0 (l.take (k + 1)) = base * val base 0 (l.take k) + dv l[k].toNat := by
  have e := List.take_succ_eq_append_getElem hk
  refine ⟨⟨hk, ?_⟩, ?_⟩
  · rw [e, List.all_append, h.2]; simp [hd]
  · rw [e, val_snoc]
theorem pow16 (base k : Nat) (hb : base ≤ 16) (hk : k ≤ 7) : base ^ k ≤ 268435456 := by
  have h1 : base ^ k ≤ 16 ^ k := Nat.pow_le_pow_left hb k
  have h2 : 16 ^ k ≤ 16 ^ 7 := Nat.pow_le_pow_right (by omega) hk
  have h3 : 16 ^ 7 = 268435456 := by decide
  omega
theorem Digs.lt {base : Nat} {l : List UInt8} {k : Nat} (h : Digs base l k) (h1 : 1 ≤ base) (hb : base ≤ 16) (hk : k ≤ 7) : val base 0 (l.take k) < 268435456 := by
  have h2 := val_lt h1 (l.take k) 0 1 (by omega) (fun b hb => List.all_eq_true.1 h.2 b hb)
  have h3 := pow16 base (l.take k).length hb (by rw [List.length_take]; omega)
  omega
theorem Digs.stop {base most : Nat} {l : List UInt8} {k : Nat} (h : Digs base l k) (hk : k ≤ most) (he : k = l.length ∨ ∃ b, l[k]? = some b ∧ isd base b = false) :
    numb base most l = if k ≠ 0 ∧ l[k]? = some 59 ∧ fine (val base 0 (l.take k)) = true then (val base 0 (l.take k), k + 1) else (0, 0) := by
  have hkl := h.1
  have hlen : (l.take k).length = k := by rw [List.length_take]; omega
  have e : l.takeWhile (isd base) = l.take k := by
    rcases he with he | ⟨b, hb, hd⟩
    · have := h.2
      rw [he, List.take_length] at this ⊢
      exact takeWhile_all _ _ this
    · obtain ⟨hlt, rfl⟩ := List.getElem?_eq_some_iff.1 hb
      conv => lhs; rw [← List.take_append_drop k l, List.drop_eq_getElem_cons hlt]
      exact takeWhile_stop _ _ _ _ h.2 hd
  unfold numb
  rw [e, hlen]
  have en : l.take k ≠ [] ↔ k ≠ 0 := by
    rw [← List.length_pos_iff, hlen]; omega
  by_cases c : k ≠ 0 ∧ l[k]? = some 59 ∧ fine (val base 0 (l.take k)) = true
  · rw [if_pos c, if_pos ⟨hk, en.2 c.1, c.2⟩]
  · rw [if_neg c, if_neg (fun x => c ⟨en.1 x.2.1, x.2.2⟩)]
end Go.Proofs.YthodmdfbahkflaaGreatDoor.Ent
namespace Go.Proofs.YthodmdfbahkflaaGreatDoor
open Go Go.RowKit
set_option maxRecDepth 100000

theorem conv_at {P : Program} (l : List UInt8) (hs : l.length ≤ 281474976710656) (src dst e : TypeId) (h1 : P.underlying src = some .string) (h2 : P.underlying dst = some (.slice e)) (h3 : P.underlying e = some (.int .u8)) (w : World) :
    ∃ v w', (convert src dst (.string (text l))).run P w = .ok v w' ∧ (∀ W : World, W.heap[w.heap.size]? = w'.heap[w.heap.size]? → Bytes W v l) ∧ Below w.heap.size w w' ∧ w'.heap.size = w.heap.size + 1 := by
  have hsz : (text l).size = l.length := text_size l
  refine ⟨_, _, Lib.run_convert_string_bytes w src dst e (text l) h1 h2 h3, fun W hW => ?_, (Below.refl _ w).grown (row := none) ⟨rfl, rfl, rfl, by rw [Lib.bytesWorld_size]; omega, fun k hk _ => Lib.bytesWorld_at_old w e (text l) k hk⟩ (Nat.le_refl _) (by simp), Lib.bytesWorld_size _ _ _⟩
  have hx : ∀ j, W.cell? ⟨w.heap.size, j, none⟩ = (Lib.bytesWorld w e (text l)).cell? ⟨w.heap.size, j, none⟩ := fun j => World.cell?_of_block (a := ⟨w.heap.size, j, none⟩) hW
  have key : ∀ (x : ByteArray), x.data.toList = l → x.size = l.length → x = text l → Bytes W (.slice (some ⟨w.heap.size, 0, none⟩) (text l).size (grownCap w (text l).size 0 e)) l := by
    intro x e1 e2 e3
    rw [hsz]
    unfold Bytes
    refine ⟨⟨_, _, rfl, grownCap_ge _ _ _ _, grownCap_le_maxLen _ _ _ _ (by unfold maxLen; omega), hs, (fun e => by cases e), fun _ => ⟨w.heap.size, 0, rfl, fun j u hj => ?_⟩⟩, by rw [cellsOf_length, Nat.mul_one]⟩
    have hj2 : j < l.length := by
      have := (List.getElem?_eq_some_iff.1 hj).1
      rwa [cellsOf_length] at this
    rw [Nat.zero_add, hx, Lib.bytesWorld_cell w e (text l) j (by omega)]
    simp only [cellsOf, List.getElem?_map] at hj
    rw [List.getElem?_eq_getElem hj2] at hj
    simp only [Option.map_some, Option.some.injEq] at hj
    rw [← hj, text_data, List.getD_eq_getElem?_getD, List.getElem?_eq_getElem hj2]
    rfl
  exact key (text l) (text_data l) hsz rfl
end Go.Proofs.YthodmdfbahkflaaGreatDoor
namespace Go.Proofs.YthodmdfbahkflaaGreatDoor.Ent
open Go Go.Proofs.YthodmdfbahkflaaGreatDoor Go.Proofs.YthodmdfbahkflaaGreatDoor.Utf Go.RowKit
set_option maxRecDepth 100000

theorem lower_all : ((List.range 256).all fun n => decide (0 ≤ bits .or .u8 (n : Int) 32) && decide (bits .or .u8 (n : Int) 32 < 256) && (if 65 ≤ n ∧ n ≤ 90 then decide (bits .or .u8 (n : Int) 32 = (n : Int) + 32) else if 97 ≤ n ∧ n ≤ 122 then decide (bits .or .u8 (n : Int) 32 = (n : Int)) else !decide (97 ≤ bits .or .u8 (n : Int) 32 ∧ bits .or .u8 (n : Int) 32 ≤ 122))) = true := by decide +kernel
theorem lower_is (n : Nat) (h : n < 256) : ∃ y : Nat, bits .or .u8 (n : Int) 32 = (y : Int) ∧ y < 256 ∧ (65 ≤ n ∧ n ≤ 90 → y = n + 32) ∧ (97 ≤ n ∧ n ≤ 122 → y = n) ∧ (¬ (65 ≤ n ∧ n ≤ 90) → ¬ (97 ≤ n ∧ n ≤ 122) → ¬ (97 ≤ y ∧ y ≤ 122)) := by
  have h1 := List.all_eq_true.1 lower_all n (List.mem_range.2 h)
  simp only [Bool.and_eq_true, decide_eq_true_eq] at h1
  obtain ⟨⟨h0, h2⟩, h3⟩ := h1
  obtain ⟨y, hy⟩ := Int.eq_ofNat_of_zero_le h0
  refine ⟨y, hy, by omega, ?_⟩
  rw [hy] at h3
  by_cases c1 : 65 ≤ n ∧ n ≤ 90
  · rw [if_pos c1] at h3
    simp at h3
    exact ⟨fun _ => by omega, fun c => by omega, fun c => absurd c1 c⟩
  · rw [if_neg c1] at h3
    by_cases c2 : 97 ≤ n ∧ n ≤ 122
    · rw [if_pos c2] at h3
      simp at h3
      exact ⟨fun c => absurd c c1, fun _ => by omega, fun _ c => absurd c2 c⟩
    · rw [if_neg c2] at h3
      simp at h3
      exact ⟨fun c => absurd c c1, fun c => absurd c c2, fun _ _ => by omega⟩

theorem lower_any (n y : Nat) (h : bits .or .u8 (n : Int) 32 = (y : Int)) (w : World) :
    Calls Tryz.prog 151 #[.int .u8 n] w fun e w' => e = .returned (.int .u8 y) ∧ w = w' := by
  refine (Tryz.internal_strconv_lower (n : Int) w).mono ?_
  rintro e w' ⟨rfl, rfl⟩
  exact ⟨by rw [h], rfl⟩

/-- What the digits tell, or that they are none. -/
def puV (base : Nat) (l : List UInt8) : Value := if l.all (isd base) = true then .tuple #[.int .u64 (val base 0 l : Nat), .nilIface] else .tuple #[.int .u64 0, .iface 190 (.int .i64 2)]
theorem puV_no {base : Nat} {l : List UInt8} {k : Nat} (hk : k < l.length) (hd : isd base l[k] = false) : puV base l = .tuple #[.int .u64 0, .iface 190 (.int .i64 2)] := by
  unfold puV
  rw [if_neg]
  intro h
  have := List.all_eq_true.1 h l[k] (List.getElem_mem hk)
  rw [hd] at this; cases this

set_option maxHeartbeats 4000000 in
theorem inner_10 (l : List UInt8) (hl : l.length ≤ 7) (hne : l ≠ []) (w : World) :
    Calls Tryz.prog 149 #[.string (text l), .int .i64 10, .int .i64 31] w fun e w' => e = .returned (puV 10 l) ∧ Below w.heap.size w w' := by
  obtain ⟨v, w1, hcv, hv, hb1, _⟩ := conv_at (P := Tryz.prog) l (by omega) 9 24 5 under9 underB under8 w
  have hv1 := hv w1 rfl
  have hlen := fun W => hv1.len (P := Tryz.prog) 24 3 5 underB W
  have s1 : (text l).size = l.length := text_size l
  have hl0 : 0 < l.length := List.length_pos_iff.2 hne
  have he : ((text l).toList == ([] : List UInt8)) = false := by rw [text_list, beq_eq_false_iff_ne]; exact hne
  have HB := hid hb1
  have HV := hid hv1
  have HNE := hid hne
  clear hv hb1 hv1 hne
  go_enter Tryz.func149, Tryz.ntmps149
  go_wp2_with fail
  have HCV := hid hcv
  clear hcv he
  generalize hcut : (1844674407370955162 : Int) = cut
  have hcut2 : (4294967296 : Int) ≤ cut := by omega
  clear hcut
  go_loop [12, 13, 101] (fun us x i => us = .bool false ∧ ∃ k : Nat, i = .int .i64 k ∧ Digs 10 l k ∧ x = .int .u64 (val 10 0 (l.take k) : Nat)) (fun _ _ i => l.length - (intOf i).toNat)
  case atStart => exact ⟨rfl, 0, rfl, Digs.start _ _, rfl⟩
  case round =>
    obtain ⟨rfl, k, rfl, hD, rfl⟩ := hrel
    have hk7 := hD.1
    have hv := hD.lt (by omega) (by omega) (by omega)
    have HD := hid hD
    clear hD
    generalize hx : val 10 0 (l.take k) = x at *
    have HX := hid hx
    clear hx
    by_cases hlt : k < l.length
    · obtain ⟨b, o, hat, hcl⟩ := HV.out.at (P := Tryz.prog) k hlt 24 5 underB size8
      have hbyte : l[k].toNat < 256 := UInt8.toNat_lt l[k]
      obtain ⟨y, hy, hy1, hy2, hy3, hy4⟩ := lower_is l[k].toNat (by omega)
      have hlow := fun w => lower_any l[k].toNat y hy w
      have HL := hid hlow
      have hgood : isd 10 l[k] = true → Digs 10 l (k + 1) ∧ val 10 0 (l.take (k + 1)) = 10 * x + dv l[k].toNat := fun hd => by
        have := HD.out.next hlt hd
        rwa [HX.out] at this
      have hbad : isd 10 l[k] = false → puV 10 l = _ := puV_no hlt
      have hisd : isd 10 l[k] = decide (dv l[k].toNat < 10) := rfl
      have hdv : dv l[k].toNat = if 48 ≤ l[k].toNat ∧ l[k].toNat ≤ 57 then l[k].toNat - 48 else if 97 ≤ l[k].toNat ∧ l[k].toNat ≤ 102 then l[k].toNat - 87 else if 65 ≤ l[k].toNat ∧ l[k].toNat ≤ 70 then l[k].toNat - 55 else 99 := rfl
      generalize l[k].toNat = n at *
      generalize dv n = d at *
      generalize isd 10 l[k] = q at *
      clear hy hlow
      have H2 := hid hy2
      have H3 := hid hy3
      have H4 := hid hy4
      have HG := hid hgood
      have HBD := hid hbad
      have HQ := hid hisd
      have HDV := hid hdv
      clear hy2 hy3 hy4 hgood hbad hisd hdv
      by_cases c1 : 48 ≤ n ∧ n ≤ 57
      · have hd : d = n - 48 := by have := HDV.out; rw [if_pos c1] at this; exact this
        have hq : q = true := by rw [HQ.out, decide_eq_true_eq]; omega
        obtain ⟨g1, g2⟩ := HG.out hq
        obtain ⟨c1a, c1b⟩ := c1
        have hsum : ((n : Int) - 48) = (d : Int) := by omega
        have hd9 : d ≤ 9 := by omega
        have hnext := g1.lt (by omega) (by omega) (by omega)
        have t3 : (x : Int) * 10 + ((n : Int) - 48) ≤ 268435455 := by omega
        have t4 : ¬ (2147483647 : Int) < (x : Int) * 10 + ((n : Int) - 48) := by omega
        have t5 : ¬ ((x : Int) * 10 + ((n : Int) - 48) < (x : Int) * 10) := by omega
        have c1c : (n : Int) ≤ 57 := by omega
        have c1d : (48 : Int) ≤ (n : Int) := by omega
        have c95 : ((n : Int) == 95) = false := by rw [beq_eq_false_iff_ne]; omega
        have t6 : ¬ (10 : Int) ≤ (n : Int) - 48 := by omega
        clear hnext
        have G1 := hid g1
        have G2 := hid g2
        have HS := hid hsum
        clear g1 g2 hq hsum hd
        go_wp2_with fail
        all_goals
          go_round
          case rel => exact ⟨rfl, k + 1, by go_num, G1.out, by rw [G2.out]; have := HS.out; congr 1; omega⟩
          case measure => simp [intOf]; omega
      · by_cases c2 : (65 ≤ n ∧ n ≤ 90) ∨ (97 ≤ n ∧ n ≤ 122)
        · have hyy : 97 ≤ y ∧ y ≤ 122 := by
            rcases c2 with c2 | c2
            · have := H2.out c2; omega
            · have := H3.out c2; omega
          have hd : d = if y ≤ 102 then y - 87 else 99 := by
            have := HDV.out; rw [if_neg c1] at this; rw [this]
            rcases c2 with c2 | c2
            · have := H2.out c2
              rw [if_neg (by omega)]
              by_cases z : n ≤ 70
              · rw [if_pos (by omega), if_pos (by omega)]; omega
              · rw [if_neg (by omega), if_neg (by omega)]
            · have := H3.out c2
              by_cases z : n ≤ 102
              · rw [if_pos (by omega), if_pos (by omega)]; omega
              · rw [if_neg (by omega), if_neg (by omega), if_neg (by omega)]
          obtain ⟨hy97, hy122⟩ := hyy
          have hyc : (97 : Int) ≤ (y : Int) := by omega
          have hyd : (y : Int) ≤ 122 := by omega
          have c1' : ¬ ((48 : Int) ≤ (n : Int) ∧ (n : Int) ≤ 57) := by omega
          have c95 : ((n : Int) == 95) = false := by rw [beq_eq_false_iff_ne]; omega
          have hn57 : ¬ ((n : Int) ≤ 57) := by omega
          by_cases c3 : y - 87 < 10
          · omega
          · have hq : q = false := by rw [HQ.out, decide_eq_false_iff_not, hd]; split <;> omega
            have hp := HBD.out hq
            have HP := hid hp
            clear hq hp hd c1 c2 c1'
            have t2 : (10 : Int) ≤ (y : Int) - 97 + 10 := by omega
            go_wp2_with fail
            refine (HL.out _).mono ?_
            rintro e w2 ⟨rfl, rfl⟩
            go_wp2_with fail
            refine (HL.out _).mono ?_
            rintro e w2 ⟨rfl, rfl⟩
            go_wp2_with fail
            refine (HL.out _).mono ?_
            rintro e w2 ⟨rfl, rfl⟩
            go_wp2_with fail
            all_goals
              go_ret2
              exact ⟨by rw [HP.out]; rfl, HB.out⟩
        · have hd : d = 99 := by
            have := HDV.out
            rw [if_neg c1, if_neg (by omega), if_neg (by omega)] at this; exact this
          have hq : q = false := by rw [HQ.out, decide_eq_false_iff_not]; omega
          have hp := HBD.out hq
          have hyn := H4.out (by omega) (by omega)
          have HP := hid hp
          clear hq hp hd c2
          have t1 : ¬ ((48 : Int) ≤ (n : Int) ∧ (n : Int) ≤ 57) := by omega
          have t2 : ¬ ((97 : Int) ≤ (y : Int) ∧ (y : Int) ≤ 122) := by omega
          clear c1 hyn
          rcases Bool.eq_false_or_eq_true ((n : Int) == 95) with h95 | h95
          all_goals
            by_cases z1 : (97 : Int) ≤ (y : Int)
            · have z2 : ¬ (y : Int) ≤ 122 := by omega
              clear t2
              by_cases z3 : (48 : Int) ≤ (n : Int)
              · have z4 : ¬ (n : Int) ≤ 57 := by omega
                clear t1
                go_wp2_with fail
                all_goals
                  refine (HL.out _).mono ?_
                  rintro e w2 ⟨rfl, rfl⟩
                  go_wp2_with fail
                  refine (HL.out _).mono ?_
                  rintro e w2 ⟨rfl, rfl⟩
                  go_wp2_with fail
                  go_ret2
                  exact ⟨by rw [HP.out]; rfl, HB.out⟩
              · clear t1
                go_wp2_with fail
                all_goals
                  refine (HL.out _).mono ?_
                  rintro e w2 ⟨rfl, rfl⟩
                  go_wp2_with fail
                  refine (HL.out _).mono ?_
                  rintro e w2 ⟨rfl, rfl⟩
                  go_wp2_with fail
                  go_ret2
                  exact ⟨by rw [HP.out]; rfl, HB.out⟩
            · clear t2
              by_cases z3 : (48 : Int) ≤ (n : Int)
              · have z4 : ¬ (n : Int) ≤ 57 := by omega
                clear t1
                go_wp2_with fail
                all_goals
                  refine (HL.out _).mono ?_
                  rintro e w2 ⟨rfl, rfl⟩
                  go_wp2_with fail
                  go_ret2
                  exact ⟨by rw [HP.out]; rfl, HB.out⟩
              · clear t1
                go_wp2_with fail
                all_goals
                  refine (HL.out _).mono ?_
                  rintro e w2 ⟨rfl, rfl⟩
                  go_wp2_with fail
                  go_ret2
                  exact ⟨by rw [HP.out]; rfl, HB.out⟩
    · have hkl : k = l.length := by omega
      have hall : l.all (isd 10) = true := by
        have := HD.out.2
        rwa [hkl, List.take_length] at this
      have hval : val 10 0 l = x := by rw [← HX.out, hkl, List.take_length]
      have HA := hid hall
      have HVA := hid hval
      clear hkl hall hval
      go_wp2
      go_ret2
      exact ⟨by unfold puV; rw [if_pos HA.out, HVA.out]; rfl, HB.out⟩

set_option maxHeartbeats 4000000 in
theorem inner_16 (l : List UInt8) (hl : l.length ≤ 7) (hne : l ≠ []) (w : World) :
    Calls Tryz.prog 149 #[.string (text l), .int .i64 16, .int .i64 31] w fun e w' => e = .returned (puV 16 l) ∧ Below w.heap.size w w' := by
  obtain ⟨v, w1, hcv, hv, hb1, _⟩ := conv_at (P := Tryz.prog) l (by omega) 9 24 5 under9 underB under8 w
  have hv1 := hv w1 rfl
  have hlen := fun W => hv1.len (P := Tryz.prog) 24 3 5 underB W
  have s1 : (text l).size = l.length := text_size l
  have hl0 : 0 < l.length := List.length_pos_iff.2 hne
  have he : ((text l).toList == ([] : List UInt8)) = false := by rw [text_list, beq_eq_false_iff_ne]; exact hne
  have HB := hid hb1
  have HV := hid hv1
  have HNE := hid hne
  clear hv hb1 hv1 hne
  go_enter Tryz.func149, Tryz.ntmps149
  go_wp2_with fail
  have HCV := hid hcv
  clear hcv he
  generalize hcut : (1152921504606846976 : Int) = cut
  have hcut2 : (4294967296 : Int) ≤ cut := by omega
  clear hcut
  go_loop [12, 13, 101] (fun us x i => us = .bool false ∧ ∃ k : Nat, i = .int .i64 k ∧ Digs 16 l k ∧ x = .int .u64 (val 16 0 (l.take k) : Nat)) (fun _ _ i => l.length - (intOf i).toNat)
  case atStart => exact ⟨rfl, 0, rfl, Digs.start _ _, rfl⟩
  case round =>
    obtain ⟨rfl, k, rfl, hD, rfl⟩ := hrel
    have hk7 := hD.1
    have hv := hD.lt (by omega) (by omega) (by omega)
    have HD := hid hD
    clear hD
    generalize hx : val 16 0 (l.take k) = x at *
    have HX := hid hx
    clear hx
    by_cases hlt : k < l.length
    · obtain ⟨b, o, hat, hcl⟩ := HV.out.at (P := Tryz.prog) k hlt 24 5 underB size8
      have hbyte : l[k].toNat < 256 := UInt8.toNat_lt l[k]
      obtain ⟨y, hy, hy1, hy2, hy3, hy4⟩ := lower_is l[k].toNat (by omega)
      have hlow := fun w => lower_any l[k].toNat y hy w
      have HL := hid hlow
      have hgood : isd 16 l[k] = true → Digs 16 l (k + 1) ∧ val 16 0 (l.take (k + 1)) = 16 * x + dv l[k].toNat := fun hd => by
        have := HD.out.next hlt hd
        rwa [HX.out] at this
      have hbad : isd 16 l[k] = false → puV 16 l = _ := puV_no hlt
      have hisd : isd 16 l[k] = decide (dv l[k].toNat < 16) := rfl
      have hdv : dv l[k].toNat = if 48 ≤ l[k].toNat ∧ l[k].toNat ≤ 57 then l[k].toNat - 48 else if 97 ≤ l[k].toNat ∧ l[k].toNat ≤ 102 then l[k].toNat - 87 else if 65 ≤ l[k].toNat ∧ l[k].toNat ≤ 70 then l[k].toNat - 55 else 99 := rfl
      generalize l[k].toNat = n at *
      generalize dv n = d at *
      generalize isd 16 l[k] = q at *
      clear hy hlow
      have H2 := hid hy2
      have H3 := hid hy3
      have H4 := hid hy4
      have HG := hid hgood
      have HBD := hid hbad
      have HQ := hid hisd
      have HDV := hid hdv
      clear hy2 hy3 hy4 hgood hbad hisd hdv
      by_cases c1 : 48 ≤ n ∧ n ≤ 57
      · have hd : d = n - 48 := by have := HDV.out; rw [if_pos c1] at this; exact this
        have hq : q = true := by rw [HQ.out, decide_eq_true_eq]; omega
        obtain ⟨g1, g2⟩ := HG.out hq
        obtain ⟨c1a, c1b⟩ := c1
        have hsum : ((n : Int) - 48) = (d : Int) := by omega
        have hd9 : d ≤ 9 := by omega
        have hnext := g1.lt (by omega) (by omega) (by omega)
        have t3 : (x : Int) * 16 + ((n : Int) - 48) ≤ 268435455 := by omega
        have t4 : ¬ (2147483647 : Int) < (x : Int) * 16 + ((n : Int) - 48) := by omega
        have t5 : ¬ ((x : Int) * 16 + ((n : Int) - 48) < (x : Int) * 16) := by omega
        have c1c : (n : Int) ≤ 57 := by omega
        have c1d : (48 : Int) ≤ (n : Int) := by omega
        have c95 : ((n : Int) == 95) = false := by rw [beq_eq_false_iff_ne]; omega
        have t6 : ¬ (16 : Int) ≤ (n : Int) - 48 := by omega
        clear hnext
        have G1 := hid g1
        have G2 := hid g2
        have HS := hid hsum
        clear g1 g2 hq hsum hd
        go_wp2_with fail
        all_goals
          go_round
          case rel => exact ⟨rfl, k + 1, by go_num, G1.out, by rw [G2.out]; have := HS.out; congr 1; omega⟩
          case measure => simp [intOf]; omega
      · by_cases c2 : (65 ≤ n ∧ n ≤ 90) ∨ (97 ≤ n ∧ n ≤ 122)
        · have hyy : 97 ≤ y ∧ y ≤ 122 := by
            rcases c2 with c2 | c2
            · have := H2.out c2; omega
            · have := H3.out c2; omega
          have hd : d = if y ≤ 102 then y - 87 else 99 := by
            have := HDV.out; rw [if_neg c1] at this; rw [this]
            rcases c2 with c2 | c2
            · have := H2.out c2
              rw [if_neg (by omega)]
              by_cases z : n ≤ 70
              · rw [if_pos (by omega), if_pos (by omega)]; omega
              · rw [if_neg (by omega), if_neg (by omega)]
            · have := H3.out c2
              by_cases z : n ≤ 102
              · rw [if_pos (by omega), if_pos (by omega)]; omega
              · rw [if_neg (by omega), if_neg (by omega), if_neg (by omega)]
          obtain ⟨hy97, hy122⟩ := hyy
          have hyc : (97 : Int) ≤ (y : Int) := by omega
          have hyd : (y : Int) ≤ 122 := by omega
          have c1' : ¬ ((48 : Int) ≤ (n : Int) ∧ (n : Int) ≤ 57) := by omega
          have c95 : ((n : Int) == 95) = false := by rw [beq_eq_false_iff_ne]; omega
          have hn57 : ¬ ((n : Int) ≤ 57) := by omega
          by_cases c3 : y - 87 < 16
          · have hd2 : d = y - 87 := by rw [hd, if_pos (by omega)]
            have hq : q = true := by rw [HQ.out, decide_eq_true_eq]; omega
            obtain ⟨g1, g2⟩ := HG.out hq
            have G1 := hid g1
            have G2 := hid g2
            have HS := hid hd2
            clear g1 g2 hq hd2 hd c1 c2 c1'
            have hnext := G1.out.lt (by omega) (by omega) (by omega)
            rw [G2.out, HS.out] at hnext
            have t3 : (x : Int) * 16 + ((y : Int) - 97 + 10) ≤ 268435455 := by omega
            have t4 : ¬ (2147483647 : Int) < (x : Int) * 16 + ((y : Int) - 97 + 10) := by omega
            have t5 : ¬ ((x : Int) * 16 + ((y : Int) - 97 + 10) < (x : Int) * 16) := by omega
            clear hnext
            have t2 : ¬ (16 : Int) ≤ (y : Int) - 97 + 10 := by omega
            go_wp2_with fail
            refine (HL.out _).mono ?_
            rintro e w2 ⟨rfl, rfl⟩
            go_wp2_with fail
            refine (HL.out _).mono ?_
            rintro e w2 ⟨rfl, rfl⟩
            go_wp2_with fail
            refine (HL.out _).mono ?_
            rintro e w2 ⟨rfl, rfl⟩
            go_wp2_with fail
            all_goals
              go_round
              case rel => exact ⟨rfl, k + 1, by go_num, G1.out, by rw [G2.out]; have := HS.out; congr 1; omega⟩
              case measure => simp [intOf]; omega
          · have hq : q = false := by rw [HQ.out, decide_eq_false_iff_not, hd]; split <;> omega
            have hp := HBD.out hq
            have HP := hid hp
            clear hq hp hd c1 c2 c1'
            have t2 : (16 : Int) ≤ (y : Int) - 97 + 10 := by omega
            go_wp2_with fail
            refine (HL.out _).mono ?_
            rintro e w2 ⟨rfl, rfl⟩
            go_wp2_with fail
            refine (HL.out _).mono ?_
            rintro e w2 ⟨rfl, rfl⟩
            go_wp2_with fail
            refine (HL.out _).mono ?_
            rintro e w2 ⟨rfl, rfl⟩
            go_wp2_with fail
            all_goals
              go_ret2
              exact ⟨by rw [HP.out]; rfl, HB.out⟩
        · have hd : d = 99 := by
            have := HDV.out
            rw [if_neg c1, if_neg (by omega), if_neg (by omega)] at this; exact this
          have hq : q = false := by rw [HQ.out, decide_eq_false_iff_not]; omega
          have hp := HBD.out hq
          have hyn := H4.out (by omega) (by omega)
          have HP := hid hp
          clear hq hp hd c2
          have t1 : ¬ ((48 : Int) ≤ (n : Int) ∧ (n : Int) ≤ 57) := by omega
          have t2 : ¬ ((97 : Int) ≤ (y : Int) ∧ (y : Int) ≤ 122) := by omega
          clear c1 hyn
          rcases Bool.eq_false_or_eq_true ((n : Int) == 95) with h95 | h95
          all_goals
            by_cases z1 : (97 : Int) ≤ (y : Int)
            · have z2 : ¬ (y : Int) ≤ 122 := by omega
              clear t2
              by_cases z3 : (48 : Int) ≤ (n : Int)
              · have z4 : ¬ (n : Int) ≤ 57 := by omega
                clear t1
                go_wp2_with fail
                all_goals
                  refine (HL.out _).mono ?_
                  rintro e w2 ⟨rfl, rfl⟩
                  go_wp2_with fail
                  refine (HL.out _).mono ?_
                  rintro e w2 ⟨rfl, rfl⟩
                  go_wp2_with fail
                  go_ret2
                  exact ⟨by rw [HP.out]; rfl, HB.out⟩
              · clear t1
                go_wp2_with fail
                all_goals
                  refine (HL.out _).mono ?_
                  rintro e w2 ⟨rfl, rfl⟩
                  go_wp2_with fail
                  refine (HL.out _).mono ?_
                  rintro e w2 ⟨rfl, rfl⟩
                  go_wp2_with fail
                  go_ret2
                  exact ⟨by rw [HP.out]; rfl, HB.out⟩
            · clear t2
              by_cases z3 : (48 : Int) ≤ (n : Int)
              · have z4 : ¬ (n : Int) ≤ 57 := by omega
                clear t1
                go_wp2_with fail
                all_goals
                  refine (HL.out _).mono ?_
                  rintro e w2 ⟨rfl, rfl⟩
                  go_wp2_with fail
                  go_ret2
                  exact ⟨by rw [HP.out]; rfl, HB.out⟩
              · clear t1
                go_wp2_with fail
                all_goals
                  refine (HL.out _).mono ?_
                  rintro e w2 ⟨rfl, rfl⟩
                  go_wp2_with fail
                  go_ret2
                  exact ⟨by rw [HP.out]; rfl, HB.out⟩
    · have hkl : k = l.length := by omega
      have hall : l.all (isd 16) = true := by
        have := HD.out.2
        rwa [hkl, List.take_length] at this
      have hval : val 16 0 l = x := by rw [← HX.out, hkl, List.take_length]
      have HA := hid hall
      have HVA := hid hval
      clear hkl hall hval
      go_wp2
      go_ret2
      exact ⟨by unfold puV; rw [if_pos HA.out, HVA.out]; rfl, HB.out⟩

end Go.Proofs.YthodmdfbahkflaaGreatDoor.Ent
namespace Go.Proofs.YthodmdfbahkflaaGreatDoor.Ent
open Go Go.Proofs.YthodmdfbahkflaaGreatDoor Go.Proofs.YthodmdfbahkflaaGreatDoor.Utf Go.RowKit
set_option maxRecDepth 100000

/-- The library's error is one. -/
def Errs (w : World) : Prop := ∃ ev, w.cell? ⟨3, 0, none⟩ = some ev ∧ (ev = .nilIface ∨ ∃ te pe, ev = .iface te pe)
theorem Errs.below {w w' : World} (h : Errs w) {B : Nat} (hb : Below B w w') (hB : w.heap.size ≤ B) : Errs w' := by
  obtain ⟨ev, h1, h2⟩ := h
  have hlt := World.block_lt_of_cell? _ _ h1
  exact ⟨ev, by rw [hb.cell (p := ⟨_, 0, none⟩) (Nat.lt_of_lt_of_le hlt hB)]; exact h1, h2⟩

theorem inner_both (base : Nat) (hb : base = 10 ∨ base = 16) (l : List UInt8) (hl : l.length ≤ 7) (hne : l ≠ []) (w : World) :
    Calls Tryz.prog 149 #[.string (text l), .int .i64 base, .int .i64 31] w fun e w' => e = .returned (puV base l) ∧ Below w.heap.size w w' := by
  rcases hb with rfl | rfl
  · exact inner_10 l hl hne w
  · exact inner_16 l hl hne w

/-- Digits, all right. -/
def Ok (base : Nat) (l : List UInt8) : Prop := l ≠ [] ∧ l.all (isd base) = true

set_option maxHeartbeats 1000000 in
theorem ParseUint_yes (base : Nat) (hb : base = 10 ∨ base = 16) (l : List UInt8) (hl : l.length ≤ 7) (h : Ok base l) (w : World) :
    Calls Tryz.prog 148 #[.string (text l), .int .i64 base, .int .i64 31] w fun e w' => e = .returned (.tuple #[.int .u64 (val base 0 l : Nat), .nilIface]) ∧ Below w.heap.size w w' := by
  have hi := fun w => inner_both base hb l hl h.1 w
  unfold puV at hi
  rw [if_pos h.2] at hi
  have HI := hid hi
  clear hi h hb
  go_enter Tryz.func148, Tryz.ntmps148
  go_wp2_with fail
  refine (HI.out _).mono ?_
  rintro e w1 ⟨rfl, hb1⟩
  go_wp2
  go_ret2
  exact ⟨rfl, hb1⟩

set_option maxHeartbeats 1000000 in
theorem ParseUint_no (base : Nat) (hb : base = 10 ∨ base = 16) (l : List UInt8) (hl : l.length ≤ 7) (h : ¬ Ok base l) (w : World) (hE : Errs w) :
    Calls Tryz.prog 148 #[.string (text l), .int .i64 base, .int .i64 31] w fun e w' => ∃ N, e = .returned (.tuple #[.int .u64 0, .iface 192 (.pointer (some ⟨N, 0, none⟩))]) ∧ Below w.heap.size w w' := by
  have hsz : (text l).size ≤ 281474976710656 := by rw [text_size]; omega
  have hi : ∀ w, Calls Tryz.prog 149 #[.string (text l), .int .i64 base, .int .i64 31] w fun e w' => e = .returned (.tuple #[.int .u64 0, .iface 190 (.int .i64 2)]) ∧ Below w.heap.size w w' := by
    intro w
    by_cases hne : l = []
    · subst hne
      refine (Tryz.internal_strconv_ParseUint_empty base 31 w).mono ?_
      rintro e w' ⟨rfl, rfl⟩
      exact ⟨rfl, b0 _⟩
    · have := inner_both base hb l hl hne w
      unfold puV at this
      rw [if_neg (fun k => h ⟨hne, k⟩)] at this
      exact this
  have ht := fun w (hE : Errs w) => (show Calls Tryz.prog 150 #[.string ⟨#[80, 97, 114, 115, 101, 85, 105, 110, 116]⟩, .string (text l), .int .i64 base, .int .i64 31, .iface 190 (.int .i64 2)] w fun e w' => ∃ N, e = .returned (.iface 192 (.pointer (some ⟨N, 0, none⟩))) ∧ Below w.heap.size w w' by
    obtain ⟨ev, h1, h2⟩ := hE
    refine (Tryz.strconv_toError_syntax _ (text l) base 31 ev w hsz h1 h2).mono ?_
    rintro e w' ⟨N, rfl, _, _, hb⟩
    exact ⟨N, rfl, hb⟩)
  have HI := hid hi
  have HT := hid ht
  have HE := hid hE
  clear hi ht h hb hE hsz
  go_enter Tryz.func148, Tryz.ntmps148
  go_wp2_with fail
  refine (HI.out _).mono ?_
  rintro e w1 ⟨rfl, hb1⟩
  go_wp2_with fail
  refine (HT.out _ (HE.out.below hb1 (Nat.le_refl _))).mono ?_
  rintro e w2 ⟨N, rfl, hb2⟩
  go_wp2
  go_ret2
  exact ⟨N, rfl, bt hb1 hb2⟩

/-- A character, or none. -/
def optV : Option Nat → Value
  | some c => .tuple #[.int .i32 c, .bool true]
  | none => .tuple #[.int .i32 0, .bool false]

set_option maxHeartbeats 1000000 in
theorem numbered_any (base most : Nat) (hb : base = 10 ∨ base = 16) (hm : most ≤ 7) (l : List UInt8) (hl : l.length ≤ 1000000000) (w : World) (hE : Errs w) :
    Calls Tryz.prog 144 #[.string (text l), .int .i64 base, .int .i64 most] w fun e w' => e = .returned (optV (numd base most l)) ∧ Below w.heap.size w w' := by
  have s1 : (text l).size = l.length := text_size l
  by_cases hlen : l.length ≤ most
  · by_cases hok : Ok base l
    · have hp := fun w => ParseUint_yes base hb l (by omega) hok w
      have hv := val_lt (base := base) (by omega) l 0 1 (by omega) (fun b hb => List.all_eq_true.1 hok.2 b hb)
      have hpw := pow16 base l.length (by omega) (by omega)
      have hv2 : val base 0 l < 268435456 := by omega
      clear hv hpw
      have hF := fun w => Fine_any (val base 0 l : Nat) w
      have hnd : numd base most l = if fine (val base 0 l : Nat) = true then some (val base 0 l) else none := by
        unfold numd
        by_cases c : fine (val base 0 l : Nat) = true
        · rw [if_pos c, if_pos ⟨hlen, hok.1, hok.2, c⟩]
        · rw [if_neg c, if_neg (fun k => c k.2.2.2)]
      generalize val base 0 l = x at *
      have HP := hid hp
      have HN := hid hnd
      have HK := hid hok
      clear hp hnd hok hb
      by_cases hf : fine (x : Int) = true
      · rw [hf] at hF
        have HF := hid hF
        have HH := hid hf
        clear hF hf
        go_enter Tryz.func144, Tryz.ntmps144
        go_wp2_with fail
        refine (HP.out _).mono ?_
        rintro e w1 ⟨rfl, hb1⟩
        go_wp2_with fail
        refine (HF.out _).mono ?_
        rintro e w2 ⟨rfl, rfl⟩
        go_wp2
        go_ret2
        exact ⟨by rw [HN.out, if_pos HH.out]; rfl, hb1⟩
      · have hf' : fine (x : Int) = false := by simpa using hf
        rw [hf'] at hF
        have HF := hid hF
        have HH := hid hf
        clear hF hf hf'
        go_enter Tryz.func144, Tryz.ntmps144
        go_wp2_with fail
        refine (HP.out _).mono ?_
        rintro e w1 ⟨rfl, hb1⟩
        go_wp2_with fail
        refine (HF.out _).mono ?_
        rintro e w2 ⟨rfl, rfl⟩
        go_wp2
        go_ret2
        exact ⟨by rw [HN.out, if_neg HH.out]; rfl, hb1⟩
    · have hp := fun w hE => ParseUint_no base hb l (by omega) hok w hE
      have hnd : numd base most l = none := by
        unfold numd; rw [if_neg (fun k => hok ⟨k.2.1, k.2.2.1⟩)]
      have HP := hid hp
      have HN := hid hnd
      have HE := hid hE
      clear hp hnd hok hb hE
      go_enter Tryz.func144, Tryz.ntmps144
      go_wp2_with fail
      refine (HP.out _ HE.out).mono ?_
      rintro e w1 ⟨N, rfl, hb1⟩
      go_wp2
      go_ret2
      exact ⟨by rw [HN.out]; rfl, hb1⟩
  · have hnd : numd base most l = none := by
      unfold numd; rw [if_neg (fun k => hlen k.1)]
    have HN := hid hnd
    clear hnd hb hE
    go_enter Tryz.func144, Tryz.ntmps144
    go_wp2
    go_ret2
    exact ⟨by rw [HN.out]; rfl, b0 _⟩

theorem named_is (x : List UInt8) : named x = if x = [97, 109, 112] then some 38 else if x = [108, 116] then some 60 else if x = [103, 116] then some 62 else if x = [113, 117, 111, 116] then some 34 else if x = [97, 112, 111, 115] then some 39 else none := by
  have key : ∀ (y : List UInt8), ((y == x) = true) = (x = y) := fun y => by rw [beq_iff_eq]; exact propext ⟨fun h => h.symm, fun h => h.symm⟩
  unfold named nameds
  simp only [List.find?_cons, List.find?_nil]
  by_cases h1 : x = [97, 109, 112]
  · subst h1; rfl
  rw [if_neg h1, show (([97, 109, 112] : List UInt8) == x) = false from by rw [beq_eq_false_iff_ne]; exact fun e => h1 e.symm]
  by_cases h2 : x = [108, 116]
  · subst h2; rfl
  rw [if_neg h2, show (([108, 116] : List UInt8) == x) = false from by rw [beq_eq_false_iff_ne]; exact fun e => h2 e.symm]
  by_cases h3 : x = [103, 116]
  · subst h3; rfl
  rw [if_neg h3, show (([103, 116] : List UInt8) == x) = false from by rw [beq_eq_false_iff_ne]; exact fun e => h3 e.symm]
  by_cases h4 : x = [113, 117, 111, 116]
  · subst h4; rfl
  rw [if_neg h4, show (([113, 117, 111, 116] : List UInt8) == x) = false from by rw [beq_eq_false_iff_ne]; exact fun e => h4 e.symm]
  by_cases h5 : x = [97, 112, 111, 115]
  · subst h5; rfl
  rw [if_neg h5, show (([97, 112, 111, 115] : List UInt8) == x) = false from by rw [beq_eq_false_iff_ne]; exact fun e => h5 e.symm]
  rfl

theorem list_no {x y : List UInt8} (h : ¬ x = y) : ((text x).toList == y) = false := by rw [text_list, beq_eq_false_iff_ne]; exact h
theorem list_yes {x y : List UInt8} (h : x = y) : ((text x).toList == y) = true := by rw [text_list, beq_iff_eq]; exact h

set_option maxHeartbeats 1000000 in
theorem named_any (x : List UInt8) (w : World) :
    Calls Tryz.prog 145 #[.string (text x)] w fun e w' => e = .returned (optV (named x)) ∧ w = w' := by
  have HN := hid (named_is x)
  by_cases h1 : x = [97, 109, 112]
  · have k1 := list_yes h1
    have H1 := hid h1
    clear h1
    go_enter Tryz.func145, Tryz.ntmps145
    go_wp2
    go_ret2
    exact ⟨by rw [HN.out, if_pos H1.out]; rfl, rfl⟩
  have k1 := list_no h1
  have H1 := hid h1
  clear h1
  by_cases h2 : x = [108, 116]
  · have k2 := list_yes h2
    have H2 := hid h2
    clear h2
    go_enter Tryz.func145, Tryz.ntmps145
    go_wp2
    go_ret2
    exact ⟨by rw [HN.out, if_neg H1.out, if_pos H2.out]; rfl, rfl⟩
  have k2 := list_no h2
  have H2 := hid h2
  clear h2
  by_cases h3 : x = [103, 116]
  · have k3 := list_yes h3
    have H3 := hid h3
    clear h3
    go_enter Tryz.func145, Tryz.ntmps145
    go_wp2
    go_ret2
    exact ⟨by rw [HN.out, if_neg H1.out, if_neg H2.out, if_pos H3.out]; rfl, rfl⟩
  have k3 := list_no h3
  have H3 := hid h3
  clear h3
  by_cases h4 : x = [113, 117, 111, 116]
  · have k4 := list_yes h4
    have H4 := hid h4
    clear h4
    go_enter Tryz.func145, Tryz.ntmps145
    go_wp2
    go_ret2
    exact ⟨by rw [HN.out, if_neg H1.out, if_neg H2.out, if_neg H3.out, if_pos H4.out]; rfl, rfl⟩
  have k4 := list_no h4
  have H4 := hid h4
  clear h4
  by_cases h5 : x = [97, 112, 111, 115]
  · have k5 := list_yes h5
    have H5 := hid h5
    clear h5
    go_enter Tryz.func145, Tryz.ntmps145
    go_wp2
    go_ret2
    exact ⟨by rw [HN.out, if_neg H1.out, if_neg H2.out, if_neg H3.out, if_neg H4.out, if_pos H5.out]; rfl, rfl⟩
  have k5 := list_no h5
  have H5 := hid h5
  clear h5
  go_enter Tryz.func145, Tryz.ntmps145
  go_wp2
  go_ret2
  exact ⟨by rw [HN.out, if_neg H1.out, if_neg H2.out, if_neg H3.out, if_neg H4.out, if_neg H5.out]; rfl, rfl⟩
end Go.Proofs.YthodmdfbahkflaaGreatDoor.Ent
namespace Go.Proofs.YthodmdfbahkflaaGreatDoor.Ent
open Go Go.Proofs.YthodmdfbahkflaaGreatDoor Go.Proofs.YthodmdfbahkflaaGreatDoor.Utf Go.RowKit
set_option maxRecDepth 100000

theorem cut_yes (x p : List UInt8) (h : pre p x = true) (a : Array UInt8) (ha : a.toList = p) (w : World) :
    Calls Tryz.prog 143 #[.string (text x), .string ⟨a⟩] w fun e w' => e = .returned (.tuple #[.string (text (x.drop p.length)), .bool true]) ∧ w = w' := by
  have e : (⟨a⟩ : ByteArray) = text p := by rw [← ha]; simp [text]
  rw [e]
  refine (Tryz.strings_CutPrefix (text x) (text p) w).mono ?_
  rintro e w' ⟨rfl, rfl⟩
  refine ⟨?_, rfl⟩
  have h2 : Lib.hasPrefix x p = true := h
  rw [text_data, text_data, h2]
  unfold Lib.trimPrefix
  rw [if_pos h2]; rfl
theorem cut_no (x p : List UInt8) (h : pre p x = false) (a : Array UInt8) (ha : a.toList = p) (w : World) :
    Calls Tryz.prog 143 #[.string (text x), .string ⟨a⟩] w fun e w' => e = .returned (.tuple #[.string (text x), .bool false]) ∧ w = w' := by
  have e : (⟨a⟩ : ByteArray) = text p := by rw [← ha]; simp [text]
  rw [e]
  refine (Tryz.strings_CutPrefix (text x) (text p) w).mono ?_
  rintro e w' ⟨rfl, rfl⟩
  refine ⟨?_, rfl⟩
  have h2 : Lib.hasPrefix x p = false := h
  rw [text_data, text_data, h2]
  unfold Lib.trimPrefix
  rw [h2]; rfl

theorem optV_is (o : Option Nat) : ∃ (c : Nat) (b : Bool), optV o = .tuple #[.int .i32 c, .bool b] ∧ (o = none → b = false ∧ c = 0) ∧ (∀ d, o = some d → c = d ∧ b = true) := by
  cases o with
  | none => exact ⟨0, false, rfl, (fun _ => ⟨rfl, rfl⟩), (fun d h => by cases h)⟩
  | some c => exact ⟨c, true, rfl, (fun h => by cases h), (fun d h => by cases h; exact ⟨rfl, rfl⟩)⟩

set_option maxHeartbeats 1000000 in
theorem referred_any (x : List UInt8) (hl : x.length ≤ 1000000000) (w : World) (hE : Errs w) :
    Calls Tryz.prog 137 #[.string (text x)] w fun e w' => e = .returned (optV (referred x)) ∧ Below w.heap.size w w' := by
  by_cases h1 : pre [35, 120] x = true
  · have hc := fun a ha w => cut_yes x [35, 120] h1 a ha w
    have hn := numbered_any 16 6 (.inr rfl) (by omega) (x.drop 2) (by simp; omega) w hE
    have hr : referred x = numd 16 6 (x.drop 2) := by unfold referred; rw [if_pos h1]
    obtain ⟨c, b, hv, _, _⟩ := optV_is (numd 16 6 (x.drop 2))
    rw [← hr] at hn hv
    rw [hv] at hn ⊢
    rw [show ([35, 120] : List UInt8).length = 2 from rfl] at hc
    generalize x.drop 2 = z at *
    have HC := hid hc
    have HN := hid hn
    clear hc hn hr hv h1 hE
    go_enter Tryz.func137, Tryz.ntmps137
    go_wp2_with fail
    refine (HC.out _ (by decide) _).mono ?_
    rintro e w1 ⟨rfl, rfl⟩
    go_wp2_with fail
    refine HN.out.mono ?_
    rintro e w1 ⟨rfl, hb⟩
    go_wp2
    go_ret2
    exact ⟨rfl, hb⟩
  · have h1' : pre [35, 120] x = false := by simpa using h1
    have hc := fun a ha w => cut_no x [35, 120] h1' a ha w
    have HC := hid hc
    clear hc
    by_cases h2 : pre [35] x = true
    · have hc := fun a ha w => cut_yes x [35] h2 a ha w
      have hn := numbered_any 10 7 (.inl rfl) (by omega) (x.drop 1) (by simp; omega) w hE
      have hr : referred x = numd 10 7 (x.drop 1) := by unfold referred; rw [if_neg h1, if_pos h2]
      obtain ⟨c, b, hv, _, _⟩ := optV_is (numd 10 7 (x.drop 1))
      rw [← hr] at hn hv
      rw [hv] at hn ⊢
      rw [show ([35] : List UInt8).length = 1 from rfl] at hc
      generalize x.drop 1 = z at *
      have HC2 := hid hc
      have HN := hid hn
      clear hc hn hr hv h1 h1' h2 hE
      go_enter Tryz.func137, Tryz.ntmps137
      go_wp2_with fail
      refine (HC.out _ (by decide) _).mono ?_
      rintro e w1 ⟨rfl, rfl⟩
      go_wp2_with fail
      refine (HC2.out _ (by decide) _).mono ?_
      rintro e w1 ⟨rfl, rfl⟩
      go_wp2_with fail
      refine HN.out.mono ?_
      rintro e w1 ⟨rfl, hb⟩
      go_wp2
      go_ret2
      exact ⟨rfl, hb⟩
    · have h2' : pre [35] x = false := by simpa using h2
      have hc := fun a ha w => cut_no x [35] h2' a ha w
      have hn := named_any x w
      have hr : referred x = named x := by unfold referred; rw [if_neg h1, if_neg h2]
      obtain ⟨c, b, hv, _, _⟩ := optV_is (named x)
      rw [← hr] at hn hv
      rw [hv] at hn ⊢
      have HC2 := hid hc
      have HN := hid hn
      clear hc hn hr hv h1 h1' h2 h2' hE
      go_enter Tryz.func137, Tryz.ntmps137
      go_wp2_with fail
      refine (HC.out _ (by decide) _).mono ?_
      rintro e w1 ⟨rfl, rfl⟩
      go_wp2_with fail
      refine (HC2.out _ (by decide) _).mono ?_
      rintro e w1 ⟨rfl, rfl⟩
      go_wp2_with fail
      refine HN.out.mono ?_
      rintro e w1 ⟨rfl, rfl⟩
      go_wp2
      go_ret2
      exact ⟨rfl, b0 _⟩

theorem index_none : ∀ (m : List UInt8), 59 ∉ m → Lib.indexByte m 59 = -1
  | [], _ => rfl
  | a :: m, h => by
    have h1 : (a == 59) = false := by rw [beq_eq_false_iff_ne]; exact fun e => h (by simp [e])
    have h2 := index_none m (fun e => h (by simp [e]))
    unfold Lib.indexByte
    rw [h1, h2]; rfl
theorem index_at : ∀ (x r : List UInt8), 59 ∉ x → Lib.indexByte (x ++ 59 :: r) 59 = x.length
  | [], r, _ => rfl
  | a :: x, r, h => by
    have h1 : (a == 59) = false := by rw [beq_eq_false_iff_ne]; exact fun e => h (by simp [e])
    have h2 := index_at x r (fun e => h (by simp [e]))
    rw [List.cons_append]
    unfold Lib.indexByte
    rw [h1, h2]
    have : ((x.length : Int) == -1) = false := by rw [beq_eq_false_iff_ne]; omega
    rw [this]
    simp
theorem IndexByte_any (l : List UInt8) (i : Int) (h : Lib.indexByte l 59 = i) (w : World) :
    Calls Tryz.prog 124 #[.string (text l), .int .u8 59] w fun e w' => e = .returned (.int .i64 i) ∧ w = w' := by
  refine (Tryz.strings_IndexByte (text l) 59 w).mono ?_
  rintro e w' ⟨rfl, rfl⟩
  refine ⟨?_, rfl⟩
  rw [text_data, show ((59 : Int).toNat.toUInt8) = 59 from rfl, h]

/-- The code's answer: a character, and how many bytes. -/
def refV (r : Nat × Nat) : Value := .tuple #[.int .i32 r.1, .int .i64 r.2]

set_option maxHeartbeats 1000000 in
theorem reference_code (m : List UInt8) (hl : m.length ≤ 100000000) (w : World) (hE : Errs w) :
    Calls Tryz.prog 122 #[.string (text (38 :: m))] w fun e w' => e = .returned (refV (refer (38 :: m))) ∧ Below w.heap.size w w' := by
  by_cases h : 59 ∈ m
  · obtain ⟨x, r, rfl, hx⟩ := semi_split m h
    have hi : Lib.indexByte (38 :: (x ++ 59 :: r)) 59 = (x.length + 1 : Nat) := by
      have := index_at (38 :: x) r (by simp [hx])
      simpa using this
    have hIB := fun w => IndexByte_any (38 :: (x ++ 59 :: r)) _ hi w
    have hr := refer_semi x r hx
    have hlen : x.length + 2 ≤ (38 :: (x ++ 59 :: r)).length := by simp
    have hlx : x.length ≤ 1000000000 := by simp at hl; omega
    have hcut : (text (38 :: (x ++ 59 :: r))).extract 1 (x.length + 1) = text x := by
      rw [text_cut]; simp
    have hn := referred_any x hlx w hE
    have s1 : (text (38 :: (x ++ 59 :: r))).size = (38 :: (x ++ 59 :: r)).length := text_size _
    generalize 38 :: (x ++ 59 :: r) = l at *
    generalize referred x = o at *
    obtain ⟨c, b, hv, hn0, hn1⟩ := optV_is o
    rw [hv] at hn
    have hc1 : (x.length : Int) + 1 ≤ (l.length : Int) := by omega
    have HI := hid hIB
    have HR := hid hr
    have HN := hid hn
    have HC := hid hcut
    clear hi hIB hr hn hv hE h hl hx
    cases b with
    | true =>
      have ho : o = some c := by
        cases o with
        | none => have := hn0 rfl; simp at this
        | some d => have := hn1 d rfl; rw [this.1]
      have HO := hid ho
      clear ho hn0 hn1
      go_enter Tryz.func122, Tryz.ntmps122
      go_wp2_with fail
      refine (HI.out _).mono ?_
      rintro e w1 ⟨rfl, rfl⟩
      go_wp2_with fail
      refine HN.out.mono ?_
      rintro e w1 ⟨rfl, hb⟩
      go_wp2
      go_ret2
      exact ⟨by rw [HR.out, HO.out]; simp only [refV]; rfl, hb⟩
    | false =>
      have ho : o = none := by
        cases o with
        | none => rfl
        | some d => have := hn1 d rfl; simp at this
      have hc0 : c = 0 := (hn0 ho).2
      have HO := hid ho
      have H0 := hid hc0
      clear ho hn0 hn1 hc0
      go_enter Tryz.func122, Tryz.ntmps122
      go_wp2_with fail
      refine (HI.out _).mono ?_
      rintro e w1 ⟨rfl, rfl⟩
      go_wp2_with fail
      refine HN.out.mono ?_
      rintro e w1 ⟨rfl, hb⟩
      go_wp2
      go_ret2
      exact ⟨by rw [HR.out, HO.out]; rfl, hb⟩
  · have hi := index_none (38 :: m) (by simp [h])
    have hIB := fun w => IndexByte_any (38 :: m) _ hi w
    have hr := refer_none m h
    generalize 38 :: m = l at *
    have HI := hid hIB
    have HR := hid hr
    clear hi hIB hr hE h hl
    go_enter Tryz.func122, Tryz.ntmps122
    go_wp2_with fail
    refine (HI.out _).mono ?_
    rintro e w1 ⟨rfl, rfl⟩
    go_wp2
    go_ret2
    exact ⟨by rw [HR.out]; rfl, b0 _⟩
end Go.Proofs.YthodmdfbahkflaaGreatDoor.Ent
namespace Go.Proofs.YthodmdfbahkflaaGreatDoor.Ent
open Go Go.Proofs.YthodmdfbahkflaaGreatDoor Go.Proofs.YthodmdfbahkflaaGreatDoor.Utf Go.RowKit
set_option maxRecDepth 100000

/-- A reference that is a name, whole; and its character. -/
def nm (k : Nat) : List UInt8 := 38 :: ((nameds.getD k ([], 0)).1 ++ [59])
theorem nm_len (k : Nat) (hk : k < 5) : (nm k).length ≤ 1000000000 := by
  rcases (by omega : k = 0 ∨ k = 1 ∨ k = 2 ∨ k = 3 ∨ k = 4) with rfl | rfl | rfl | rfl | rfl <;> decide

end Go.Proofs.YthodmdfbahkflaaGreatDoor.Ent
namespace Go.Proofs.YthodmdfbahkflaaGreatDoor
open Go Go.RowKit

section
variable {P : Program} {w : World}

theorem run_append_row (base : Nat) (t ty e : TypeId) (i : TypeInfo) (z : Value) (size bytes : Nat) (ht : P.underlying t = some (.slice e)) (hi : P.info? e = some i) (hz : i.zero = some z)
    (hsize : i.size = size) (hby : i.bytes = bytes) (hzs : z.cells.size = size) (hsz : 0 < size)
    (v : Value) (n : Nat) (xs : List Value) (hown : w.ownsRow base e size v n xs) (x : Value) (m : Nat) (news : List Value) (hx : Row size w x m news) (h1 : ∀ u ∈ news, u.oneCell' = true)
    (hbytes : (n + m) * bytes ≤ 140737488355328) (h63 : n + m ≤ maxLen) (hbase : base ≤ w.heap.size) :
    ∃ v' w', (Builtin.append_ #[t, t] ty #[v, x]).run P w = .ok v' w' ∧ w'.ownsRow base e size v' (n + m) (xs ++ news) ∧ w.grownBy w' v.ownBlock := by
  obtain ⟨⟨a, c, rfl, h3, h4, h0, hz0, h5⟩, h6⟩ := hx
  cases a with
  | none =>
    have hc := hz0 rfl
    have hm : m = 0 := by omega
    subst hm
    subst hc
    have hn : news = [] := List.eq_nil_of_length_eq_zero (by omega)
    subst hn
    have hrun := run_append_owned_none (P := P) (w := w) base t ty e i size ht hi v n xs hown
    exact ⟨v, w, hrun, by simpa using hown, ⟨rfl, rfl, rfl, Nat.le_refl _, fun _ _ _ => rfl⟩⟩
  | some ad =>
    have hnews : ∀ j u, news[j]? = some u → w.cell? (ad.add j) = some u := by
      intro j u hj
      have hl : 0 < news.length := by
        have := (List.getElem?_eq_some_iff.1 hj).1; omega
      obtain ⟨b, off, he, h9⟩ := h5 hl
      cases he
      rw [Addr.add_lit]
      exact h9 j u hj
    obtain ⟨v', w', hr, h2, h3, _⟩ := run_append_own (P := P) w base t ty e i z size bytes ht hi hz hsize hby hzs hsz v n xs hown ad m c news h6 hnews h1 h63 hbytes hbase
    exact ⟨v', w', hr, h2, h3⟩

theorem wpList_append_row {ops : Array Oper} {rest : List Oper} {o : Oper} {a : Act} {Q : Exit → Act → World → Prop} (hgd : o.guard = none) (s x : Operand) (t : TypeId)
    (ho : o.op = .call { callee := .builtin .append, args := #[s, x], argTypes := #[t, t] })
    (base : Nat) (e : TypeId) (i : TypeInfo) (z : Value) (size bytes : Nat) (ht : P.underlying t = some (.slice e)) (hi : P.info? e = some i) (hz : i.zero = some z)
    (hsize : i.size = size) (hby : i.bytes = bytes) (hzs : z.cells.size = size) (hsz : 0 < size)
    (v : Value) (n : Nat) (xs : List Value) (hs : a.eval s = v) (hown : w.ownsRow base e size v n xs) (xv : Value) (m : Nat) (news : List Value) (hx : a.eval x = xv) (hrow : Row size w xv m news) (h1 : ∀ u ∈ news, u.oneCell' = true)
    (hbytes : (n + m) * bytes ≤ 140737488355328) (h63 : n + m ≤ maxLen) (hbase : base ≤ w.heap.size)
    (h : ∀ v' w', w'.ownsRow base e size v' (n + m) (xs ++ news) → w.grownBy w' v.ownBlock → wpList P ops Q rest (a.put o.dst v') w') : wpList P ops Q (o :: rest) a w := by
  refine wpList_plain hgd fun K hK => ?_
  obtain ⟨v', w', hrun, h2, h3⟩ := run_append_row (P := P) (w := w) base t o.type e i z size bytes ht hi hz hsize hby hzs hsz v n xs hown xv m news hrow h1 hbytes h63 hbase
  unfold Oper.wp
  simp [execOp, ho, resolve, invoke, builtin, hs, hx, hrun, Result.andThen]
  exact hK _ _ (h v' w' h2 h3)

/-- What a call owns stays below what is new. -/
theorem grown_below {W w w' : World} {base : Nat} {e : TypeId} {size : Nat} {v : Value} {n : Nat} {xs : List Value} (hb : Below W.heap.size W w) (hown : w.ownsRow base e size v n xs) (hB : W.heap.size ≤ base) (hg : w.grownBy w' v.ownBlock) : Below W.heap.size W w' :=
  hb.grown hg hb.size (fun k hk => Nat.le_trans hB (hown.lt k hk).1)

/-- A slice written out without elements is owned. -/
theorem owns_empty (w : World) (e : TypeId) (size : Nat) (base : Nat) (hb : base ≤ w.heap.size) : (w.alloc (.cells #[] e)).ownsRow base e size (.slice (some ⟨w.heap.size, 0, none⟩) 0 0) 0 [] :=
  World.ownsRow_made w #[] 0 hb (by simp) (by simp)

end
section
variable {P : Program} {w : World} {B : Nat} {e : TypeId} {sz : Nat} {v : Value} {n : Nat} {xs : List Value}
/-- What is owned stays so in a later world that leaves the old blocks as they were. -/
theorem owns_later {w' : World} (h : w.ownsRow B e sz v n xs) (hb : Below w.heap.size w w') : w'.ownsRow B e sz v n xs := by
  obtain ⟨h1, h2⟩ := h
  refine ⟨h1, ?_⟩
  rcases h2 with h2 | ⟨g, cap, cur, hv, hg, hh, r⟩
  · exact .inl h2
  · have hlt : g < w.heap.size := by
      rcases Nat.lt_or_ge g w.heap.size with h | h
      · exact h
      · rw [Array.getElem?_eq_none h] at hh; cases hh
    exact .inr ⟨g, cap, cur, hv, hg, by rw [hb.block g hlt]; exact hh, r⟩
end
section
variable {w : World}
/-- Two rows of unlike elements lie apart. -/
theorem owns_apart {B B' : Nat} {e e' : TypeId} (hne : e ≠ e') {sz sz' : Nat} {v v' : Value} {n n' : Nat} {xs xs' : List Value} (h : w.ownsRow B e sz v n xs) (h' : w.ownsRow B' e' sz' v' n' xs') : v.ownBlock = none ∨ v.ownBlock ≠ v'.ownBlock := by
  rcases h.2 with ⟨rfl, _⟩ | ⟨g, cap, cur, rfl, _, hh, _⟩
  · exact .inl rfl
  · rcases h'.2 with ⟨rfl, _⟩ | ⟨g', cap', cur', rfl, _, hh', _⟩
    · exact .inr (by simp [Value.ownBlock])
    · refine .inr fun e => ?_
      simp [Value.ownBlock] at e
      subst e
      rw [hh] at hh'
      cases hh'
      exact hne rfl
end
end Go.Proofs.YthodmdfbahkflaaGreatDoor
namespace Go.Proofs.YthodmdfbahkflaaGreatDoor.Ent
open Go Go.Proofs.YthodmdfbahkflaaGreatDoor Go.Proofs.YthodmdfbahkflaaGreatDoor.Utf Go.RowKit
set_option maxRecDepth 100000

/-- What is told, as values. -/
def tellV (r : List UInt8 × Nat × Nat) : Value := .tuple #[.string (text r.1), .int .i64 r.2.1, .int .i64 r.2.2]

theorem rune_at (c : Nat) (h : c < 128) (hf : fine (c : Int) = true) (r : List UInt8) : rune (UInt8.ofNat c :: r) = (c, 1) := by
  have := rune_enc c hf r
  rw [enc_low h] at this
  exact this
theorem rune_crlf {m : List UInt8} (h : pre [13, 10] m = true) : rune m = (13, 1) := by
  obtain ⟨r, rfl⟩ := (pre_iff _ _).1 h
  exact rune_at 13 (by omega) (by decide) (10 :: r)

theorem item_bad {v : Bool} {m : List UInt8} (h : (rune m).2 = 0) : item v m = (0, 0, 4) := by unfold item; rw [if_pos h]
theorem item_lt {v : Bool} {m : List UInt8} (h0 : ¬ (rune m).2 = 0) (h : (rune m).1 = 60) : item v m = (0, 0, 5) := by unfold item; rw [if_neg h0, if_pos h]
theorem item_amp_no {v : Bool} {m : List UInt8} (h0 : ¬ (rune m).2 = 0) (h1 : ¬ (rune m).1 = 60) (h : (rune m).1 = 38) (hr : (refer m).2 = 0) : item v m = (0, 0, 5) := by unfold item; rw [if_neg h0, if_neg h1, if_pos h, if_pos hr]
theorem item_amp {v : Bool} {m : List UInt8} (h0 : ¬ (rune m).2 = 0) (h1 : ¬ (rune m).1 = 60) (h : (rune m).1 = 38) (hr : ¬ (refer m).2 = 0) : item v m = ((refer m).1, (refer m).2, 0) := by unfold item; rw [if_neg h0, if_neg h1, if_pos h, if_neg hr]
theorem item_own {v : Bool} {m : List UInt8} (h0 : ¬ (rune m).2 = 0) (h1 : ¬ (rune m).1 = 60) (h : ¬ (rune m).1 = 38) (hp : pre [13, 10] m = false) : item v m = (itself v (rune m).1, (rune m).2, 0) := by
  unfold item; rw [if_neg h0, if_neg h1, if_neg h, hp]; rfl
theorem item_crlf {v : Bool} {m : List UInt8} (hp : pre [13, 10] m = true) : item v m = (itself v 13, 2, 0) := by
  have e := rune_crlf hp
  unfold item; rw [e, if_neg (by decide), if_neg (by decide), if_neg (by decide), hp]; rfl

end Go.Proofs.YthodmdfbahkflaaGreatDoor.Ent
namespace Go.Proofs.YthodmdfbahkflaaGreatDoor.Bld
open Go Go.Proofs.YthodmdfbahkflaaGreatDoor Go.Proofs.YthodmdfbahkflaaGreatDoor.Utf Go.RowKit
set_option maxRecDepth 100000

/-- All blocks below C but b are as they were. -/
structure But (C b : Nat) (w w' : World) : Prop where
  os : w'.os = w.os
  tape : w'.tape = w.tape
  output : w'.output = w.output
  size : w.heap.size ≤ w'.heap.size
  block : ∀ k, k < C → k ≠ b → w'.heap[k]? = w.heap[k]?
theorem But.refl (C b : Nat) (w : World) : But C b w w := ⟨rfl, rfl, rfl, Nat.le_refl _, fun _ _ _ => rfl⟩
theorem But.trans {C b : Nat} {x y z : World} (h : But C b x y) (k : But C b y z) : But C b x z :=
  ⟨k.os.trans h.os, k.tape.trans h.tape, k.output.trans h.output, Nat.le_trans h.size k.size, fun i hi hb => (k.block i hi hb).trans (h.block i hi hb)⟩
theorem But.below {C b B : Nat} {w w' : World} (h : But C b w w') (h1 : B ≤ b) (h2 : B ≤ C) : Below B w w' :=
  ⟨h.os, h.tape, h.output, h.size, fun k hk => h.block k (by omega) (by omega)⟩
theorem But.of {C b : Nat} {w w' : World} (h : Below w.heap.size w w') (hC : C ≤ w.heap.size) : But C b w w' :=
  ⟨h.os, h.tape, h.output, h.size, fun k hk _ => h.block k (by omega)⟩
theorem But.setCell (C b j : Nat) (w : World) (u : Value) : But C b w (w.setCell ⟨b, j, none⟩ u) :=
  ⟨rfl, rfl, rfl, by simp [World.setCell], fun k _ hk => Below.heap_setCell w ⟨b, j, none⟩ u k hk⟩
theorem But.grown {C b : Nat} {w w' : World} {row : Option Nat} (h : w.grownBy w' row) (hC : C ≤ w.heap.size) (hr : ∀ k, row = some k → C ≤ k) : But C b w w' :=
  ⟨h.os, h.tape, h.output, h.size, fun k hk _ => h.block k (by omega) (fun e => by have := hr k e.symm; omega)⟩
theorem But.alloc {C b : Nat} (w : World) (o : Obj) (hC : C ≤ w.heap.size) : But C b w (w.alloc o) := But.of ((Below.refl _ _).alloc (Nat.le_refl _) o) hC

/-- The builder at b, its address p, holds the bytes l; its buffer lies in no block below C. -/
def At (C b : Nat) (p : Value) (l : List UInt8) (w : World) : Prop :=
  b < C ∧ ∃ v, w.heap[b]? = some (.cells #[p, v] 89 (0, 0)) ∧ w.ownsRow C 5 1 v l.length (cellsOf l)
def Is (C b : Nat) (l : List UInt8) (w : World) : Prop := At C b (.pointer none) l w ∨ At C b (.pointer (some ⟨b, 0, none⟩)) l w

theorem At.lt {C b : Nat} {p : Value} {l : List UInt8} {w : World} (h : At C b p l w) : b < w.heap.size := by
  obtain ⟨_, v, hb, _⟩ := h
  rcases Nat.lt_or_ge b w.heap.size with h' | h'
  · exact h'
  · simp [Array.getElem?_eq_none h'] at hb
theorem At.later {C b : Nat} {p : Value} {l : List UInt8} {w w' : World} (h : At C b p l w) (hb : Below w.heap.size w w') : At C b p l w' := by
  have hlt := h.lt
  obtain ⟨h1, v, h2, h3⟩ := h
  exact ⟨h1, v, (hb.block b hlt).trans h2, owns_later h3 hb⟩
theorem Is.later {C b : Nat} {l : List UInt8} {w w' : World} (h : Is C b l w) (hb : Below w.heap.size w w') : Is C b l w' := h.elim (fun k => .inl (k.later hb)) (fun k => .inr (k.later hb))
theorem Is.fresh (C : Nat) (w : World) (hC : w.heap.size < C) : Is C w.heap.size [] (w.alloc (.cells #[.pointer none, .slice none 0 0] 89)) :=
  .inl ⟨hC, _, heap_alloc_new w _, World.ownsRow_nil _ _ _ _⟩
theorem owns_but {C b : Nat} {e : TypeId} {v : Value} {n : Nat} {xs : List Value} {w : World} (h : w.ownsRow C e 1 v n xs) (hb : b < C) (j : Nat) (u : Value) : (w.setCell ⟨b, j, none⟩ u).ownsRow C e 1 v n xs := ownsRow_setCell_below h hb u
theorem At.put {C b : Nat} {p v v' : Value} {l : List UInt8} {w : World} (hC : b < C) (hb : w.heap[b]? = some (.cells #[p, v] 89 (0, 0))) (hown : w.ownsRow C 5 1 v' l.length (cellsOf l)) :
    At C b p l (w.setCell ⟨b, 1, none⟩ v') :=
  ⟨hC, v', by simp [World.setCell, Array.getElem?_modify, hb], owns_but hown hC _ _⟩
theorem At.used {C b : Nat} {p : Value} {l : List UInt8} {w : World} (h : At C b p l w) (q : Value) : At C b q l (w.setCell ⟨b, 0, none⟩ q) := by
  obtain ⟨hC, v, hb, hown⟩ := h
  exact ⟨hC, v, by simp [World.setCell, Array.getElem?_modify, hb], owns_but hown hC _ _⟩

theorem underB72 : Tryz.prog.underlying 87 = some (.pointer 89) := Tryz.underlying87
theorem sizeBld : (Tryz.prog.info? 89).map (·.size) = some 2 := by kernel_rfl
theorem liesBld : liesAt Tryz.prog Tryz.prog.depth 89 (2 / Tryz.prog.cellsOf 89) 0 89 1 = true := by kernel_rfl
theorem infoU8 : (Tryz.prog.info? 5).map (fun i => (i.zero, i.size, i.bytes)) = some (some (.int .u8 0), 1, 1) := by kernel_rfl
theorem underP : Tryz.prog.underlying 147 = some .unsafePointer := Tryz.underlying147

set_option maxHeartbeats 1000000 in
theorem copyCheck_used (b : Nat) (w : World) (h0 : w.cell? ⟨b, 0, none⟩ = some (.pointer (some ⟨b, 0, none⟩))) :
    Calls Tryz.prog 60 #[.pointer (some ⟨b, 0, none⟩)] w fun e w' => e = .returned (.tuple #[]) ∧ w = w' := by
  obtain ⟨j, hj, _⟩ := Option.map_eq_some_iff.1 sizeBld
  go_enter Tryz.func60, Tryz.ntmps60
  go_wp2
  rw [Lib.run_neq_ptr_same w _ underB72 hj]
  go_wp2
  go_end0
  exact ⟨rfl, rfl⟩

set_option maxHeartbeats 1000000 in
theorem copyCheck_fresh (b : Nat) (w : World) (h0 : w.cell? ⟨b, 0, none⟩ = some (.pointer none)) (hsh : w.shape? b = some (89, 2)) (hfz : w.frozen? ⟨b, 0, none⟩ = false) :
    Calls Tryz.prog 60 #[.pointer (some ⟨b, 0, none⟩)] w fun e w' => e = .returned (.tuple #[]) ∧ w' = w.setCell ⟨b, 0, none⟩ (.pointer (some ⟨b, 0, none⟩)) := by
  obtain ⟨j, hj, hjs⟩ := Option.map_eq_some_iff.1 sizeBld
  go_enter Tryz.func60, Tryz.ntmps60
  go_wp2
  rw [Lib.run_to_unsafe w ⟨b, 0, none⟩ underB72 underP hj (by rw [hjs]; decide) hsh (Nat.zero_lt_succ 1)]
  simp only [Result.andThen]
  rw [Oper.upon_value]
  go_wp2
  rw [run_callFunc_extern Tryz.func91 (by kernel_rfl) (by kernel_rfl) (by kernel_rfl) (e := Extern.AbiNoEscape.same) (by kernel_rfl)]
  rw [Lib.run_noEscape]
  simp only [Result.andThen]
  rw [Oper.upon_value]
  go_wp2
  rw [Lib.run_from_unsafe w ⟨b, 0, none⟩ underP underB72 hj hsh liesBld]
  simp only [Result.andThen]
  rw [Oper.upon_value]
  go_wp2
  go_end0
  exact ⟨rfl, rfl⟩

theorem copyCheck_any (C b : Nat) (l : List UInt8) (w : World) (h : Is C b l w) :
    Calls Tryz.prog 60 #[.pointer (some ⟨b, 0, none⟩)] w fun e w' => e = .returned (.tuple #[]) ∧ At C b (.pointer (some ⟨b, 0, none⟩)) l w' ∧ But C b w w' := by
  rcases h with h | h
  · have hu := h.used (.pointer (some ⟨b, 0, none⟩))
    obtain ⟨_, v, hb, _⟩ := h
    refine (copyCheck_fresh b w (by rw [Lib.cell_of_heap hb]; rfl) (by simp [World.shape?, hb]) (Lib.frozen_of_heap hb 0)).mono ?_
    rintro e w' ⟨rfl, rfl⟩
    exact ⟨rfl, hu, But.setCell _ _ _ _ _⟩
  · have h2 := h
    obtain ⟨_, v, hb, _⟩ := h
    refine (copyCheck_used b w (by rw [Lib.cell_of_heap hb]; rfl)).mono ?_
    rintro e w' ⟨rfl, rfl⟩
    exact ⟨rfl, h2, But.refl _ _ _⟩

set_option maxHeartbeats 2000000 in
theorem WriteRune_any (C b : Nat) (l : List UInt8) (c : Int) (h0 : 0 ≤ c) (h1 : c ≤ 1114111) (w : World) (h : Is C b l w) (hlen : l.length + 4 ≤ 140737488355328) (hC : C ≤ w.heap.size) :
    Calls Tryz.prog 123 #[.pointer (some ⟨b, 0, none⟩), .int .i32 c] w fun e w' => e = .returned (.tuple #[.int .i64 (enc c).length, .nilIface]) ∧ Is C b (l ++ enc c) w' ∧ But C b w w' := by
  have hk4 := enc_len c
  go_enter Tryz.func123, Tryz.ntmps123
  go_wp2_with fail
  refine (copyCheck_any C b l _ h).mono ?_
  rintro e w1 ⟨rfl, hA, hb1⟩
  have hlt := hA.lt
  obtain ⟨hbC, v, hbk, hown⟩ := hA
  have hz := hb1.size
  obtain ⟨ao, cap, rfl⟩ : ∃ ao cap, v = .slice ao l.length cap := by
    rcases hown.2 with ⟨hv, h0⟩ | ⟨g, cap, cur, hv, _⟩
    · exact ⟨none, 0, by rw [hv, h0]⟩
    · exact ⟨_, _, hv⟩
  have c0 : w1.cell? ⟨b, 0, none⟩ = some (.pointer (some ⟨b, 0, none⟩)) := by rw [Lib.cell_of_heap hbk]; rfl
  have c1 : w1.cell? ⟨b, 1, none⟩ = some (.slice ao l.length cap) := by rw [Lib.cell_of_heap hbk]; rfl
  have hap := Tryz.utf8_AppendRune_plain C (.slice ao l.length cap) l.length (cellsOf l) c (by omega) (by omega) w1 hown hlen (by omega)
  rw [cells_enc, cellsOf_length, ← cellsOf_append] at hap
  have HA := hid hap
  have HO := hid hown
  have HK := hid hbk
  clear hap hown hbk
  go_wp2_with fail
  refine HA.out.mono ?_
  rintro e w2 ⟨v', rfl, hown', o, hgrow⟩
  have hne : (Value.slice ao l.length cap).ownBlock ≠ some b := fun e => by have := (HO.out.lt b e).1; omega
  have hb2 : w2.heap[b]? = some (.cells #[.pointer (some ⟨b, 0, none⟩), .slice ao l.length cap] 89 (0, 0)) := by
    rw [hgrow.block b (by simp; omega) (fun e => hne e.symm), Below.heap_alloc w1 o b hlt]
    exact HK.out
  have d0 : w2.cell? ⟨b, 0, none⟩ = some (.pointer (some ⟨b, 0, none⟩)) := by rw [Lib.cell_of_heap hb2]; rfl
  have d1 : w2.cell? ⟨b, 1, none⟩ = some (.slice ao l.length cap) := by rw [Lib.cell_of_heap hb2]; rfl
  have f1 : w2.frozen? ⟨b, 1, none⟩ = false := Lib.frozen_of_heap hb2 1
  obtain ⟨g, cap', rfl⟩ : ∃ g cap', v' = .slice (some ⟨g, 0, none⟩) (l.length + (enc c).length) cap' := by
    rcases hown'.2 with ⟨_, h0⟩ | ⟨g, cap', cur, hv, _⟩
    · omega
    · exact ⟨g, cap', hv⟩
  have HB2 := hid hb2
  have HO' := hid hown'
  clear hb2 hown'
  go_wp2
  go_ret2
  refine ⟨?_, .inr ?_, ?_⟩
  · have e : ((l.length : Int) + ((enc c).length : Int) - (l.length : Int)) = ((enc c).length : Int) := by omega
    simp [e]
  · exact At.put hbC HB2.out (by simpa using HO'.out)
  · exact (hb1.trans ((But.alloc w1 o (by omega)).trans (But.grown hgrow (by simp; omega) (fun k hk => (HO.out.lt k hk).1)))).trans (But.setCell _ _ _ _ _)

theorem strCells_text (m : List UInt8) : Lib.strCells (text m) = cellsOf m := by unfold Lib.strCells cellsOf; rw [text_data]

set_option maxHeartbeats 2000000 in
theorem WriteString_any (C b : Nat) (l m : List UInt8) (w : World) (h : Is C b l w) (hlen : l.length + m.length ≤ 140737488355328) (hC : C ≤ w.heap.size) :
    Calls Tryz.prog 33 #[.pointer (some ⟨b, 0, none⟩), .string (text m)] w fun e w' => e = .returned (.tuple #[.int .i64 m.length, .nilIface]) ∧ Is C b (l ++ m) w' ∧ But C b w w' := by
  obtain ⟨i0, hi, hz0, hz1, hz2⟩ := info_parts infoU8
  go_enter Tryz.func33, Tryz.ntmps33
  go_wp2_with fail
  refine (copyCheck_any C b l _ h).mono ?_
  rintro e w1 ⟨rfl, hA, hb1⟩
  have hlt := hA.lt
  obtain ⟨hbC, v, hbk, hown⟩ := hA
  have hz := hb1.size
  have c0 : w1.cell? ⟨b, 0, none⟩ = some (.pointer (some ⟨b, 0, none⟩)) := by rw [Lib.cell_of_heap hbk]; rfl
  have c1 : w1.cell? ⟨b, 1, none⟩ = some v := by rw [Lib.cell_of_heap hbk]; rfl
  have hsz : (text m).size = m.length := text_size m
  have HO := hid hown
  have HK := hid hbk
  have HS := hid hsz
  clear hown hbk hsz
  go_wp2_with (at_builtin; refine Lib.wpList_append_own_string _ rfl _ _ 24 9 rfl C 5 i0 underB under9 hi hz0 hz1 hz2 _ _ _ rfl HO.out (text m) rfl ?c3 ?c4 ?c5 ?_)
  case c3 => rw [HS.out]; unfold maxLen; omega
  case c4 => rw [HS.out]; omega
  case c5 => omega
  intro v' w2 hown' hgrow _
  rw [HS.out, strCells_text, ← cellsOf_append] at hown'
  have hne : v.ownBlock ≠ some b := fun e => by have := (HO.out.lt b e).1; omega
  have hb2 : w2.heap[b]? = some (.cells #[.pointer (some ⟨b, 0, none⟩), v] 89 (0, 0)) := by
    rw [hgrow.block b hlt (fun e => hne e.symm)]
    exact HK.out
  have d0 : w2.cell? ⟨b, 0, none⟩ = some (.pointer (some ⟨b, 0, none⟩)) := by rw [Lib.cell_of_heap hb2]; rfl
  have d1 : w2.cell? ⟨b, 1, none⟩ = some v := by rw [Lib.cell_of_heap hb2]; rfl
  have f1 : w2.frozen? ⟨b, 1, none⟩ = false := Lib.frozen_of_heap hb2 1
  obtain ⟨ao, n', cap, rfl⟩ : ∃ ao n' cap, v' = .slice ao n' cap := by
    rcases hown'.2 with ⟨hv, _⟩ | ⟨g, cap, cur, hv, _⟩
    · exact ⟨_, _, _, hv⟩
    · exact ⟨_, _, _, hv⟩
  have HB2 := hid hb2
  have HO' := hid hown'
  clear hb2 hown'
  go_wp2
  go_ret2
  refine ⟨by rw [HS.out]; rfl, .inr ?_, ?_⟩
  · exact At.put hbC HB2.out (by simpa using HO'.out)
  · exact (hb1.trans (But.grown hgrow (by omega) (fun k hk => (HO.out.lt k hk).1))).trans (But.setCell _ _ _ _ _)

theorem At.lib {C b : Nat} {p : Value} {l : List UInt8} {w : World} (h : At C b p l w) : Lib.BuilderAt 89 5 b b p (cellsOf l) w := by
  obtain ⟨hC, v, hb, hown⟩ := h
  have hl : (cellsOf l).length = l.length := cellsOf_length l
  refine ⟨Nat.le_refl _, v, hb, ?_, fun e => by have := (hown.lt b e).1; omega⟩
  rw [hl]
  obtain ⟨h1, h2⟩ := hown
  refine ⟨h1, ?_⟩
  rcases h2 with h2 | ⟨g, cap, cur, hv, hg, r⟩
  · exact .inl h2
  · exact .inr ⟨g, cap, cur, hv, by omega, r⟩
/-- What a builder holds, as a text. -/
theorem String_any (C b : Nat) (l : List UInt8) (w : World) (h : Is C b l w) :
    Calls Tryz.prog 35 #[.pointer (some ⟨b, 0, none⟩)] w fun e w' => e = .returned (.string (text l)) ∧ Below b w w' := by
  have hlt : b < w.heap.size := h.elim At.lt At.lt
  have hI : Lib.IsBuilder 89 5 b b (Lib.byteCells l) w := h.elim (fun k => .inl k.lib) (fun k => .inr k.lib)
  exact Tryz.Builder_String_any b b l w hI (by omega)
end Go.Proofs.YthodmdfbahkflaaGreatDoor.Bld
namespace Go.Proofs.YthodmdfbahkflaaGreatDoor.Ent
open Go Go.Proofs.YthodmdfbahkflaaGreatDoor Go.Proofs.YthodmdfbahkflaaGreatDoor.Utf Go.RowKit
set_option maxRecDepth 100000

theorem has_any (l p : List UInt8) (b : Bool) (h : pre p l = b) (a : Array UInt8) (ha : a.toList = p) (w : World) :
    Calls Tryz.prog 68 #[.string (text l), .string ⟨a⟩] w fun e w' => e = .returned (.bool b) ∧ w = w' := by
  have e : (⟨a⟩ : ByteArray) = text p := by rw [← ha]; simp [text]
  rw [e]
  refine (Tryz.strings_HasPrefix (text l) (text p) w).mono ?_
  rintro e w' ⟨rfl, rfl⟩
  refine ⟨?_, rfl⟩
  have h2 : Lib.hasPrefix l p = b := h
  rw [text_data, text_data, h2]

theorem front_amp {m : List UInt8} (h0 : ¬ (rune m).2 = 0) (h : (rune m).1 = 38) : ∃ t, m = 38 :: t := by
  have e := rune_take m h0
  rw [h, enc_low (by omega)] at e
  exact ⟨m.drop (rune m).2, by (conv => lhs; rw [← List.take_append_drop (rune m).2 m, e]); rfl⟩
theorem fine_le {c : Nat} (h : fine (c : Int) = true) : (c : Int) ≤ 1114111 := by
  have := (nfine_iff c).1 h; omega
theorem runeR_at {l : List UInt8} {pos : Nat} (hp : pos < l.length) : runeR l pos = if (rune (l.drop pos)).2 = 0 then (0, 0, 4) else ((rune (l.drop pos)).1, (rune (l.drop pos)).2, 0) := by
  unfold runeR
  rw [if_neg (by omega), Int.toNat_natCast]

set_option maxHeartbeats 4000000 in
theorem tell_text (l : List UInt8) (hl : l.length ≤ 1000000) (w : World) (hT : Tabs w) (hE : Errs w) :
    Calls Tryz.prog 105 #[.string (text l), .func (.func 106) #[] #[]] w fun e w' => e = .returned (tellV (tell false l)) ∧ Below w.heap.size w w' := by
  have s1 : (text l).size = l.length := text_size l
  have ef : ∀ args w, (callFunc 106 args).run Tryz.prog w = .ok (.enter 106 args) w := enters_of Tryz.func106 (by kernel_rfl) rfl
  obtain ⟨vb, w1, hcv, hvb, hb1, hz1⟩ := conv_at (P := Tryz.prog) l (by omega) 9 24 5 under9 underB under8 (w.alloc (.cells #[.pointer none, .slice none 0 0] 89))
  have hsz0 : (w.alloc (.cells #[.pointer none, .slice none 0 0] 89)).heap.size = w.heap.size + 1 := by simp
  have hI : Bld.Is (w.heap.size + 2) w.heap.size [] w1 := (Bld.Is.fresh (w.heap.size + 2) w (by omega)).later hb1
  have hb0 : Below w.heap.size w w1 := ((Below.refl _ w).alloc (Nat.le_refl _) _).trans (hb1.mono (by omega))
  rw [hsz0] at hz1 hvb
  have hvb' : ∀ wr : World, Bld.But (w.heap.size + 2) w.heap.size w1 wr → Bytes wr vb l := fun wr h => hvb wr (h.block _ (by omega) (by omega))
  have hlow : ∀ wr : World, Bld.But (w.heap.size + 2) w.heap.size w1 wr → Below w.heap.size w wr := fun wr h => hb0.trans (h.below (Nat.le_refl _) (by omega))
  have HI := hid hI
  have HV := hid hvb'
  have HL := hid hlow
  have HT := hid hT
  have HE := hid hE
  clear hI hvb hvb' hb1 hb0 hlow hT hE hsz0
  go_enter Tryz.func105, Tryz.ntmps105
  go_wp2_with fail
  have HCV := hid hcv
  clear hcv
  go_loopw [9] (fun i wr => ∃ (pos : Nat) (out : List UInt8), i = .int .i64 pos ∧ Told false l pos out ∧ Bld.Is (w.heap.size + 2) w.heap.size out wr ∧ Bld.But (w.heap.size + 2) w.heap.size w1 wr) (fun i _ => l.length - (intOf i).toNat)
  case atStart => exact ⟨0, [], rfl, Told.start _ _, HI.out, Bld.But.refl _ _ _⟩
  case round =>
    rename World => wr
    obtain ⟨pos, out, rfl, hTo, hIs, hBu⟩ := hrel
    have ho1 := hTo.1
    have ho2 := hTo.2.1
    have hzr : w.heap.size + 2 ≤ wr.heap.size := by have := hBu.size; omega
    have hTr := HT.out.below (HL.out wr hBu) (Nat.le_refl _)
    have hEr := HE.out.below (HL.out wr hBu) (Nat.le_refl _)
    have hbytes := HV.out wr hBu
    have HTO := hid hTo
    have HIS := hid hIs
    have HBU := hid hBu
    clear hTo hIs hBu
    by_cases hp : pos < l.length
    · have hra := runeR_at hp
      have hx : (text l).extract pos l.length = text (l.drop pos) := by have := text_extract l pos; rwa [s1] at this
      have hml : (l.drop pos).length = l.length - pos := List.length_drop
      have hstop := fun (h : (item false (l.drop pos)).2.2 ≠ 0) => HTO.out.stop hp h
      have hnext := fun (h : (item false (l.drop pos)).2.2 = 0) => HTO.out.next h
      generalize l.drop pos = m at *
      have hle := rune_le m
      have HST := hid hstop
      have HNE := hid hnext
      clear hstop hnext
      by_cases h0 : (rune m).2 = 0
      · rw [if_pos h0] at hra
        have hrune := Rune_eq vb l pos wr hTr hbytes 0 0 4 hra
        have hit := item_bad (v := false) h0
        have hs := HST.out (by rw [hit]; simp)
        rw [hit] at hs
        have HS := hid hs
        have HR := hid hrune
        clear h0 hit hs hrune hra hTr hEr hbytes
        go_wp2_with fail
        refine HR.out.mono ?_
        rintro e w2 ⟨rfl, hb2⟩
        go_wp2
        go_ret3
        exact ⟨by rw [HS.out]; rfl, (HL.out _ HBU.out).trans (hb2.mono (by omega))⟩
      · rw [if_neg h0] at hra
        obtain ⟨hf, _, _, hk1, hk4⟩ := rune_some (l := m) (c := (rune m).1) (k := (rune m).2) rfl h0
        have hc1 := fine_le hf
        have hrune := Rune_eq vb l pos wr hTr hbytes _ _ 0 hra
        have hin := fun w => inText_any (rune m).1 w
        have hfi := itself_fine false _ hf
        have hfl := fine_le hfi
        have HR := hid hrune
        have HIN := hid hin
        have HFI := hid hfi
        clear hrune hra hTr hbytes hin hfi hf
        by_cases h1 : (rune m).1 = 60
        · have hit := item_lt (v := false) h0 h1
          have hs := HST.out (by rw [hit]; simp)
          rw [hit] at hs
          have hz60 : (((rune m).1 : Int) == 60) = true := by rw [beq_iff_eq]; omega
          have HS := hid hs
          clear h0 h1 hit hs hEr
          generalize itself false (rune m).1 = r at *
          generalize rune m = q at *
          go_wp2_with fail
          refine HR.out.mono ?_
          rintro e w2 ⟨rfl, hb2⟩
          go_wp2_with fail
          refine (HIN.out _).mono ?_
          rintro e w3 ⟨rfl, rfl⟩
          go_wp2
          go_ret3
          exact ⟨by rw [HS.out]; rfl, (HL.out _ HBU.out).trans (hb2.mono (by omega))⟩
        · have hz60 : (((rune m).1 : Int) == 60) = false := by rw [beq_eq_false_iff_ne]; omega
          by_cases h2 : (rune m).1 = 38
          · have hz38 : (((rune m).1 : Int) == 38) = true := by rw [beq_iff_eq]; omega
            obtain ⟨t, ht⟩ := front_amp h0 h2
            have href : ∀ w, Errs w → Calls Tryz.prog 122 #[.string (text m)] w fun e w' => e = .returned (refV (refer m)) ∧ Below w.heap.size w w' := fun w hE => by
              rw [ht]
              have hm := congrArg List.length ht
              simp only [List.length_cons] at hm
              exact reference_code t (by omega) w hE
            unfold refV at href
            have hrl := refer_le m
            by_cases h3 : (refer m).2 = 0
            · have hit := item_amp_no (v := false) h0 h1 h2 h3
              have hs := HST.out (by rw [hit]; simp)
              rw [hit] at hs
              have hz3 : (((refer m).2 : Int) == 0) = true := by rw [beq_iff_eq]; omega
              have HS := hid hs
              have HF := hid href
              have HER := hid hEr
              have HT2 := hid ht
              clear h0 h1 h2 h3 hit hs href hrl hEr ht
              generalize itself false (rune m).1 = r at *
              generalize rune m = q at *
              go_wp2_with fail
              refine HR.out.mono ?_
              rintro e w2 ⟨rfl, hb2⟩
              have HE2 := hid (HER.out.below hb2 (Nat.le_refl _))
              go_wp2_with fail
              refine (HIN.out _).mono ?_
              rintro e w3 ⟨rfl, rfl⟩
              go_wp2_with fail
              refine (HF.out _ HE2.out).mono ?_
              rintro e w4 ⟨rfl, hb4⟩
              go_wp2
              go_ret3
              exact ⟨by rw [HS.out]; rfl, (HL.out _ HBU.out).trans ((bt hb2 hb4).mono (by omega))⟩
            · have hit := item_amp (v := false) h0 h1 h2 h3
              have hn := HNE.out (by rw [hit])
              rw [hit] at hn
              have hz3 : (((refer m).2 : Int) == 0) = false := by rw [beq_eq_false_iff_ne]; omega
              have hfr := (hrl.2 h3).1
              have hfrl := fine_le hfr
              have hk1' := (hrl.2 h3).2.1
              have hk2' := (hrl.2 h3).2.2
              have HNX := hid hn
              have HF := hid href
              have HER := hid hEr
              have HT2 := hid ht
              clear h0 h1 h2 h3 hit hn href hrl hfr hEr ht
              generalize itself false (rune m).1 = r at *
              generalize rune m = q at *
              generalize refer m = z at *
              have hz0' : 0 ≤ (z.1 : Int) := by omega
              go_wp2_with fail
              refine HR.out.mono ?_
              rintro e w2 ⟨rfl, hb2⟩
              have HE2 := hid (HER.out.below hb2 (Nat.le_refl _))
              go_wp2_with fail
              refine (HIN.out _).mono ?_
              rintro e w3 ⟨rfl, rfl⟩
              go_wp2_with fail
              refine (HF.out _ HE2.out).mono ?_
              rintro e w4 ⟨rfl, hb4⟩
              have HB4 := hid (bt hb2 hb4)
              clear hb2 hb4
              go_wp2_with fail
              refine (Bld.WriteRune_any (w.heap.size + 2) w.heap.size out (z.1 : Int) hz0' hfrl _ (HIS.out.later HB4.out) (by omega) (by have := HB4.out.size; omega)).mono ?_
              rintro e w5 ⟨rfl, hI5, hB5⟩
              have HI5 := hid hI5
              have HB5 := hid ((HBU.out.trans (Bld.But.of HB4.out hzr)).trans hB5)
              clear hI5 hB5
              go_wp2_with fail
              go_roundw
              case rel => exact ⟨pos + z.2, out ++ enc (z.1 : Int), by go_num, HNX.out, HI5.out, HB5.out⟩
              case measure => simp [intOf]; omega
          · have hz38 : (((rune m).1 : Int) == 38) = false := by rw [beq_eq_false_iff_ne]; omega
            by_cases h5 : pre [13, 10] m = true
            · have hit := item_crlf (v := false) h5
              have hcr := rune_crlf h5
              have hpl := pre_len h5
              simp only [List.length_cons, List.length_nil] at hpl
              have hn := HNE.out (by rw [hit])
              rw [hit] at hn
              have h13 : itself false (rune m).1 = itself false 13 := by rw [hcr]
              rw [← h13] at hn
              have hbg := fun a ha w => has_any m [13, 10] true h5 a ha w
              have HBG := hid hbg
              have HNX := hid hn
              clear h0 h1 h2 h5 hit hn hbg hEr hcr h13
              generalize itself false (rune m).1 = r at *
              generalize rune m = q at *
              have hz0' : 0 ≤ (r : Int) := by omega
              go_wp2_with fail
              refine HR.out.mono ?_
              rintro e w2 ⟨rfl, hb2⟩
              have HB4 := hid hb2
              clear hb2
              go_wp2_with fail
              refine (HIN.out _).mono ?_
              rintro e w3 ⟨rfl, rfl⟩
              go_wp2_with fail
              refine (HBG.out _ (by decide) _).mono ?_
              rintro e w3 ⟨rfl, rfl⟩
              go_wp2_with fail
              refine (Bld.WriteRune_any (w.heap.size + 2) w.heap.size out (r : Int) hz0' hfl _ (HIS.out.later HB4.out) (by omega) (by have := HB4.out.size; omega)).mono ?_
              rintro e w5 ⟨rfl, hI5, hB5⟩
              have HI5 := hid hI5
              have HB5 := hid ((HBU.out.trans (Bld.But.of HB4.out hzr)).trans hB5)
              clear hI5 hB5
              go_wp2_with fail
              go_roundw
              case rel => exact ⟨pos + 2, out ++ enc (r : Int), by go_num, HNX.out, HI5.out, HB5.out⟩
              case measure => simp [intOf]; omega
            · have h5' : pre [13, 10] m = false := by simpa using h5
              have hit := item_own (v := false) h0 h1 h2 h5'
              have hn := HNE.out (by rw [hit])
              rw [hit] at hn
              have hbg := fun a ha w => has_any m [13, 10] false h5' a ha w
              have HBG := hid hbg
              have HNX := hid hn
              clear h0 h1 h2 h5 h5' hit hn hbg hEr
              generalize itself false (rune m).1 = r at *
              generalize rune m = q at *
              have hz0' : 0 ≤ (r : Int) := by omega
              go_wp2_with fail
              refine HR.out.mono ?_
              rintro e w2 ⟨rfl, hb2⟩
              have HB4 := hid hb2
              clear hb2
              go_wp2_with fail
              refine (HIN.out _).mono ?_
              rintro e w3 ⟨rfl, rfl⟩
              go_wp2_with fail
              refine (HBG.out _ (by decide) _).mono ?_
              rintro e w3 ⟨rfl, rfl⟩
              go_wp2_with fail
              refine (Bld.WriteRune_any (w.heap.size + 2) w.heap.size out (r : Int) hz0' hfl _ (HIS.out.later HB4.out) (by omega) (by have := HB4.out.size; omega)).mono ?_
              rintro e w5 ⟨rfl, hI5, hB5⟩
              have HI5 := hid hI5
              have HB5 := hid ((HBU.out.trans (Bld.But.of HB4.out hzr)).trans hB5)
              clear hI5 hB5
              go_wp2_with fail
              go_roundw
              case rel => exact ⟨pos + q.2, out ++ enc (r : Int), by go_num, HNX.out, HI5.out, HB5.out⟩
              case measure => simp [intOf]; omega
    · have hd := HTO.out.done hp
      have HD := hid hd
      have hstr := Bld.String_any (w.heap.size + 2) w.heap.size out wr HIS.out
      have HSR := hid hstr
      have hpl : pos = l.length := by omega
      clear hd hstr hbytes hTr hEr
      go_wp2_with fail
      refine HSR.out.mono ?_
      rintro e w2 ⟨rfl, hb2⟩
      go_wp2
      go_ret3
      exact ⟨by rw [HD.out]; rfl, (HL.out _ HBU.out).trans hb2⟩

set_option maxHeartbeats 4000000 in
theorem tell_value (l : List UInt8) (hl : l.length ≤ 1000000) (w : World) (hT : Tabs w) (hE : Errs w) :
    Calls Tryz.prog 105 #[.string (text l), .func (.func 140) #[] #[]] w fun e w' => e = .returned (tellV (tell true l)) ∧ Below w.heap.size w w' := by
  have s1 : (text l).size = l.length := text_size l
  have ef : ∀ args w, (callFunc 140 args).run Tryz.prog w = .ok (.enter 140 args) w := enters_of Tryz.func140 (by kernel_rfl) rfl
  obtain ⟨vb, w1, hcv, hvb, hb1, hz1⟩ := conv_at (P := Tryz.prog) l (by omega) 9 24 5 under9 underB under8 (w.alloc (.cells #[.pointer none, .slice none 0 0] 89))
  have hsz0 : (w.alloc (.cells #[.pointer none, .slice none 0 0] 89)).heap.size = w.heap.size + 1 := by simp
  have hI : Bld.Is (w.heap.size + 2) w.heap.size [] w1 := (Bld.Is.fresh (w.heap.size + 2) w (by omega)).later hb1
  have hb0 : Below w.heap.size w w1 := ((Below.refl _ w).alloc (Nat.le_refl _) _).trans (hb1.mono (by omega))
  rw [hsz0] at hz1 hvb
  have hvb' : ∀ wr : World, Bld.But (w.heap.size + 2) w.heap.size w1 wr → Bytes wr vb l := fun wr h => hvb wr (h.block _ (by omega) (by omega))
  have hlow : ∀ wr : World, Bld.But (w.heap.size + 2) w.heap.size w1 wr → Below w.heap.size w wr := fun wr h => hb0.trans (h.below (Nat.le_refl _) (by omega))
  have HI := hid hI
  have HV := hid hvb'
  have HL := hid hlow
  have HT := hid hT
  have HE := hid hE
  clear hI hvb hvb' hb1 hb0 hlow hT hE hsz0
  go_enter Tryz.func105, Tryz.ntmps105
  go_wp2_with fail
  have HCV := hid hcv
  clear hcv
  go_loopw [9] (fun i wr => ∃ (pos : Nat) (out : List UInt8), i = .int .i64 pos ∧ Told true l pos out ∧ Bld.Is (w.heap.size + 2) w.heap.size out wr ∧ Bld.But (w.heap.size + 2) w.heap.size w1 wr) (fun i _ => l.length - (intOf i).toNat)
  case atStart => exact ⟨0, [], rfl, Told.start _ _, HI.out, Bld.But.refl _ _ _⟩
  case round =>
    rename World => wr
    obtain ⟨pos, out, rfl, hTo, hIs, hBu⟩ := hrel
    have ho1 := hTo.1
    have ho2 := hTo.2.1
    have hzr : w.heap.size + 2 ≤ wr.heap.size := by have := hBu.size; omega
    have hTr := HT.out.below (HL.out wr hBu) (Nat.le_refl _)
    have hEr := HE.out.below (HL.out wr hBu) (Nat.le_refl _)
    have hbytes := HV.out wr hBu
    have HTO := hid hTo
    have HIS := hid hIs
    have HBU := hid hBu
    clear hTo hIs hBu
    by_cases hp : pos < l.length
    · have hra := runeR_at hp
      have hx : (text l).extract pos l.length = text (l.drop pos) := by have := text_extract l pos; rwa [s1] at this
      have hml : (l.drop pos).length = l.length - pos := List.length_drop
      have hstop := fun (h : (item true (l.drop pos)).2.2 ≠ 0) => HTO.out.stop hp h
      have hnext := fun (h : (item true (l.drop pos)).2.2 = 0) => HTO.out.next h
      generalize l.drop pos = m at *
      have hle := rune_le m
      have HST := hid hstop
      have HNE := hid hnext
      clear hstop hnext
      by_cases h0 : (rune m).2 = 0
      · rw [if_pos h0] at hra
        have hrune := Rune_eq vb l pos wr hTr hbytes 0 0 4 hra
        have hit := item_bad (v := true) h0
        have hs := HST.out (by rw [hit]; simp)
        rw [hit] at hs
        have HS := hid hs
        have HR := hid hrune
        clear h0 hit hs hrune hra hTr hEr hbytes
        go_wp2_with fail
        refine HR.out.mono ?_
        rintro e w2 ⟨rfl, hb2⟩
        go_wp2
        go_ret3
        exact ⟨by rw [HS.out]; rfl, (HL.out _ HBU.out).trans (hb2.mono (by omega))⟩
      · rw [if_neg h0] at hra
        obtain ⟨hf, _, _, hk1, hk4⟩ := rune_some (l := m) (c := (rune m).1) (k := (rune m).2) rfl h0
        have hc1 := fine_le hf
        have hrune := Rune_eq vb l pos wr hTr hbytes _ _ 0 hra
        have hin := fun w => inValue_any (rune m).1 w
        have hfi := itself_fine true _ hf
        have hfl := fine_le hfi
        have HR := hid hrune
        have HIN := hid hin
        have HFI := hid hfi
        clear hrune hra hTr hbytes hin hfi hf
        by_cases h1 : (rune m).1 = 60
        · have hit := item_lt (v := true) h0 h1
          have hs := HST.out (by rw [hit]; simp)
          rw [hit] at hs
          have hz60 : (((rune m).1 : Int) == 60) = true := by rw [beq_iff_eq]; omega
          have HS := hid hs
          clear h0 h1 hit hs hEr
          generalize itself true (rune m).1 = r at *
          generalize rune m = q at *
          go_wp2_with fail
          refine HR.out.mono ?_
          rintro e w2 ⟨rfl, hb2⟩
          go_wp2_with fail
          refine (HIN.out _).mono ?_
          rintro e w3 ⟨rfl, rfl⟩
          go_wp2
          go_ret3
          exact ⟨by rw [HS.out]; rfl, (HL.out _ HBU.out).trans (hb2.mono (by omega))⟩
        · have hz60 : (((rune m).1 : Int) == 60) = false := by rw [beq_eq_false_iff_ne]; omega
          by_cases h2 : (rune m).1 = 38
          · have hz38 : (((rune m).1 : Int) == 38) = true := by rw [beq_iff_eq]; omega
            obtain ⟨t, ht⟩ := front_amp h0 h2
            have href : ∀ w, Errs w → Calls Tryz.prog 122 #[.string (text m)] w fun e w' => e = .returned (refV (refer m)) ∧ Below w.heap.size w w' := fun w hE => by
              rw [ht]
              have hm := congrArg List.length ht
              simp only [List.length_cons] at hm
              exact reference_code t (by omega) w hE
            unfold refV at href
            have hrl := refer_le m
            by_cases h3 : (refer m).2 = 0
            · have hit := item_amp_no (v := true) h0 h1 h2 h3
              have hs := HST.out (by rw [hit]; simp)
              rw [hit] at hs
              have hz3 : (((refer m).2 : Int) == 0) = true := by rw [beq_iff_eq]; omega
              have HS := hid hs
              have HF := hid href
              have HER := hid hEr
              have HT2 := hid ht
              clear h0 h1 h2 h3 hit hs href hrl hEr ht
              generalize itself true (rune m).1 = r at *
              generalize rune m = q at *
              go_wp2_with fail
              refine HR.out.mono ?_
              rintro e w2 ⟨rfl, hb2⟩
              have HE2 := hid (HER.out.below hb2 (Nat.le_refl _))
              go_wp2_with fail
              refine (HIN.out _).mono ?_
              rintro e w3 ⟨rfl, rfl⟩
              go_wp2_with fail
              refine (HF.out _ HE2.out).mono ?_
              rintro e w4 ⟨rfl, hb4⟩
              go_wp2
              go_ret3
              exact ⟨by rw [HS.out]; rfl, (HL.out _ HBU.out).trans ((bt hb2 hb4).mono (by omega))⟩
            · have hit := item_amp (v := true) h0 h1 h2 h3
              have hn := HNE.out (by rw [hit])
              rw [hit] at hn
              have hz3 : (((refer m).2 : Int) == 0) = false := by rw [beq_eq_false_iff_ne]; omega
              have hfr := (hrl.2 h3).1
              have hfrl := fine_le hfr
              have hk1' := (hrl.2 h3).2.1
              have hk2' := (hrl.2 h3).2.2
              have HNX := hid hn
              have HF := hid href
              have HER := hid hEr
              have HT2 := hid ht
              clear h0 h1 h2 h3 hit hn href hrl hfr hEr ht
              generalize itself true (rune m).1 = r at *
              generalize rune m = q at *
              generalize refer m = z at *
              have hz0' : 0 ≤ (z.1 : Int) := by omega
              go_wp2_with fail
              refine HR.out.mono ?_
              rintro e w2 ⟨rfl, hb2⟩
              have HE2 := hid (HER.out.below hb2 (Nat.le_refl _))
              go_wp2_with fail
              refine (HIN.out _).mono ?_
              rintro e w3 ⟨rfl, rfl⟩
              go_wp2_with fail
              refine (HF.out _ HE2.out).mono ?_
              rintro e w4 ⟨rfl, hb4⟩
              have HB4 := hid (bt hb2 hb4)
              clear hb2 hb4
              go_wp2_with fail
              refine (Bld.WriteRune_any (w.heap.size + 2) w.heap.size out (z.1 : Int) hz0' hfrl _ (HIS.out.later HB4.out) (by omega) (by have := HB4.out.size; omega)).mono ?_
              rintro e w5 ⟨rfl, hI5, hB5⟩
              have HI5 := hid hI5
              have HB5 := hid ((HBU.out.trans (Bld.But.of HB4.out hzr)).trans hB5)
              clear hI5 hB5
              go_wp2_with fail
              go_roundw
              case rel => exact ⟨pos + z.2, out ++ enc (z.1 : Int), by go_num, HNX.out, HI5.out, HB5.out⟩
              case measure => simp [intOf]; omega
          · have hz38 : (((rune m).1 : Int) == 38) = false := by rw [beq_eq_false_iff_ne]; omega
            by_cases h5 : pre [13, 10] m = true
            · have hit := item_crlf (v := true) h5
              have hcr := rune_crlf h5
              have hpl := pre_len h5
              simp only [List.length_cons, List.length_nil] at hpl
              have hn := HNE.out (by rw [hit])
              rw [hit] at hn
              have h13 : itself true (rune m).1 = itself true 13 := by rw [hcr]
              rw [← h13] at hn
              have hbg := fun a ha w => has_any m [13, 10] true h5 a ha w
              have HBG := hid hbg
              have HNX := hid hn
              clear h0 h1 h2 h5 hit hn hbg hEr hcr h13
              generalize itself true (rune m).1 = r at *
              generalize rune m = q at *
              have hz0' : 0 ≤ (r : Int) := by omega
              go_wp2_with fail
              refine HR.out.mono ?_
              rintro e w2 ⟨rfl, hb2⟩
              have HB4 := hid hb2
              clear hb2
              go_wp2_with fail
              refine (HIN.out _).mono ?_
              rintro e w3 ⟨rfl, rfl⟩
              go_wp2_with fail
              refine (HBG.out _ (by decide) _).mono ?_
              rintro e w3 ⟨rfl, rfl⟩
              go_wp2_with fail
              refine (Bld.WriteRune_any (w.heap.size + 2) w.heap.size out (r : Int) hz0' hfl _ (HIS.out.later HB4.out) (by omega) (by have := HB4.out.size; omega)).mono ?_
              rintro e w5 ⟨rfl, hI5, hB5⟩
              have HI5 := hid hI5
              have HB5 := hid ((HBU.out.trans (Bld.But.of HB4.out hzr)).trans hB5)
              clear hI5 hB5
              go_wp2_with fail
              go_roundw
              case rel => exact ⟨pos + 2, out ++ enc (r : Int), by go_num, HNX.out, HI5.out, HB5.out⟩
              case measure => simp [intOf]; omega
            · have h5' : pre [13, 10] m = false := by simpa using h5
              have hit := item_own (v := true) h0 h1 h2 h5'
              have hn := HNE.out (by rw [hit])
              rw [hit] at hn
              have hbg := fun a ha w => has_any m [13, 10] false h5' a ha w
              have HBG := hid hbg
              have HNX := hid hn
              clear h0 h1 h2 h5 h5' hit hn hbg hEr
              generalize itself true (rune m).1 = r at *
              generalize rune m = q at *
              have hz0' : 0 ≤ (r : Int) := by omega
              go_wp2_with fail
              refine HR.out.mono ?_
              rintro e w2 ⟨rfl, hb2⟩
              have HB4 := hid hb2
              clear hb2
              go_wp2_with fail
              refine (HIN.out _).mono ?_
              rintro e w3 ⟨rfl, rfl⟩
              go_wp2_with fail
              refine (HBG.out _ (by decide) _).mono ?_
              rintro e w3 ⟨rfl, rfl⟩
              go_wp2_with fail
              refine (Bld.WriteRune_any (w.heap.size + 2) w.heap.size out (r : Int) hz0' hfl _ (HIS.out.later HB4.out) (by omega) (by have := HB4.out.size; omega)).mono ?_
              rintro e w5 ⟨rfl, hI5, hB5⟩
              have HI5 := hid hI5
              have HB5 := hid ((HBU.out.trans (Bld.But.of HB4.out hzr)).trans hB5)
              clear hI5 hB5
              go_wp2_with fail
              go_roundw
              case rel => exact ⟨pos + q.2, out ++ enc (r : Int), by go_num, HNX.out, HI5.out, HB5.out⟩
              case measure => simp [intOf]; omega
    · have hd := HTO.out.done hp
      have HD := hid hd
      have hstr := Bld.String_any (w.heap.size + 2) w.heap.size out wr HIS.out
      have HSR := hid hstr
      have hpl : pos = l.length := by omega
      clear hd hstr hbytes hTr hEr
      go_wp2_with fail
      refine HSR.out.mono ?_
      rintro e w2 ⟨rfl, hb2⟩
      go_wp2
      go_ret3
      exact ⟨by rw [HD.out]; rfl, (HL.out _ HBU.out).trans hb2⟩

set_option maxHeartbeats 400000 in
theorem Text_any (l : List UInt8) (hl : l.length ≤ 1000000) (w : World) (hT : Tabs w) (hE : Errs w) :
    Calls Tryz.prog 82 #[.string (text l)] w fun e w' => e = .returned (tellV (tell false l)) ∧ Below w.heap.size w w' := by
  have h := tell_text l hl w hT hE
  unfold tellV at h ⊢
  generalize tell false l = r at *
  have H := hid h
  clear h hT hE
  go_enter Tryz.func82, Tryz.ntmps82
  go_wp2_with fail
  refine H.out.mono ?_
  rintro e w2 ⟨rfl, hb2⟩
  go_wp2
  go_ret3
  exact ⟨rfl, hb2⟩
set_option maxHeartbeats 400000 in
theorem Value_any (l : List UInt8) (hl : l.length ≤ 1000000) (w : World) (hT : Tabs w) (hE : Errs w) :
    Calls Tryz.prog 132 #[.string (text l)] w fun e w' => e = .returned (tellV (tell true l)) ∧ Below w.heap.size w w' := by
  have h := tell_value l hl w hT hE
  unfold tellV at h ⊢
  generalize tell true l = r at *
  have H := hid h
  clear h hT hE
  go_enter Tryz.func132, Tryz.ntmps132
  go_wp2_with fail
  refine H.out.mono ?_
  rintro e w2 ⟨rfl, hb2⟩
  go_wp2
  go_ret3
  exact ⟨rfl, hb2⟩
end Go.Proofs.YthodmdfbahkflaaGreatDoor.Ent
namespace Go.Proofs.YthodmdfbahkflaaGreatDoor
open Go Go.RowKit

/-- A store into a map, as a literal makes it. -/
theorem wpList_insert_own {H : Type} {P : Program} (w : World) {ops : Array Oper} {rest : List Oper} {o : Oper} {a : Act} {Q : Exit → Act → World → Prop}
    (hg : o.guard = none) (m x v : Operand) (t : TypeId) (hop : o.op = Op.insert t m x v)
    (k e : TypeId) (K : Maps.Keyed P k) (ht : P.underlying t = some (.map k e)) (R : Value → Option (DataW H × List MemPlace)) (b n : Nat) (D : DataW H)
    (hm : a.eval m = .map (some b)) (hown : w.ownsMap P k R b n D) (hn : n < maxLen) (key val : Value) (kl : Lit) (hx : a.eval x = key) (hv : a.eval v = val) (hkey : keyOf P k key = some kl)
    (d : DataW H) (ps : List MemPlace) (hval : R val = some (d, ps))
    (hK : ∀ w', w'.ownsMap P k R b (n + 1) (D.put kl d) → w.grownBy w' (some b) → wpList P ops Q rest (a.put o.dst undef) w') :
    wpList P ops Q (o :: rest) a w := by
  refine wpList_plain hg fun K' hK' => ?_
  obtain ⟨w', hrun, h1, h2⟩ := hown.update K ht hn hkey hval
  unfold Oper.wp
  simp [execOp, hop, hm, hx, hv, hrun, Result.andThen]
  exact hK' _ _ (hK w' h1 h2)

end Go.Proofs.YthodmdfbahkflaaGreatDoor
namespace Go.Proofs.YthodmdfbahkflaaGreatDoor.Ent
open Go Go.Proofs.YthodmdfbahkflaaGreatDoor Go.Proofs.YthodmdfbahkflaaGreatDoor.Utf Go.RowKit
set_option maxRecDepth 100000

/-- What a map tells of a key. -/
def Looks (D : DataW Unit) (c : Nat) (o : Option (List UInt8)) : Prop :=
  (∃ es, D = .map es) ∧ Maps.has D (.int .i32 c) = o.isSome ∧ D.atKey (.int .i32 c) (.lit (.string [])) = .lit (.string (o.getD []))
theorem Looks.nil (c : Nat) : Looks (.map []) c none := ⟨⟨_, rfl⟩, rfl, rfl⟩
theorem Looks.put {D : DataW Unit} {c : Nat} {o : Option (List UInt8)} (h : Looks D c o) (k : Nat) (t : List UInt8) : Looks (D.put (.int .i32 k) (.lit (.string t))) c (if c = k then some t else o) := by
  obtain ⟨hD, h1, h2⟩ := h
  refine ⟨?_, ?_⟩
  · obtain ⟨es, rfl⟩ := hD; exact ⟨_, rfl⟩
  · by_cases e : c = k
    · subst e
      rw [if_pos rfl]
      exact ⟨Maps.has_put_same hD (by simp [WideAt.IsKeyLit]) _, Maps.atKey_put_same hD (by simp [WideAt.IsKeyLit]) _ _⟩
    · rw [if_neg e]
      have hne : (Lit.int .i32 (c : Int)) ≠ .int .i32 (k : Int) := by
        intro x; injection x with _ x; exact e (by omega)
      exact ⟨by rw [Maps.has_put_other hne]; exact h1, by rw [Maps.atKey_put_other hne]; exact h2⟩

def escD0 : DataW Unit := ((((DataW.map [] : DataW Unit).put (.int .i32 38) (.lit (.string [38, 97, 109, 112, 59]))).put (.int .i32 60) (.lit (.string [38, 108, 116, 59]))).put (.int .i32 62) (.lit (.string [38, 103, 116, 59]))).put (.int .i32 13) (.lit (.string [38, 35, 49, 51, 59]))
def escD1 : DataW Unit := ((escD0.put (.int .i32 34) (.lit (.string [38, 113, 117, 111, 116, 59]))).put (.int .i32 9) (.lit (.string [38, 35, 57, 59]))).put (.int .i32 10) (.lit (.string [38, 35, 49, 48, 59]))
theorem looks0 (c : Nat) : Looks escD0 c (escT false c) := by
  have h := ((((Looks.nil c).put 38 [38, 97, 109, 112, 59]).put 60 [38, 108, 116, 59]).put 62 [38, 103, 116, 59]).put 13 [38, 35, 49, 51, 59]
  have e : escT false c = if c = 13 then some [38, 35, 49, 51, 59] else if c = 62 then some [38, 103, 116, 59] else if c = 60 then some [38, 108, 116, 59] else if c = 38 then some [38, 97, 109, 112, 59] else none := by
    unfold escT
    repeat' split
    all_goals first | rfl | (exfalso; simp_all; done) | (exfalso; omega)
  rw [e]; exact h
theorem looks1 (c : Nat) : Looks escD1 c (escT true c) := by
  have h := (((looks0 c).put 34 [38, 113, 117, 111, 116, 59]).put 9 [38, 35, 57, 59]).put 10 [38, 35, 49, 48, 59]
  have e : escT true c = if c = 10 then some [38, 35, 49, 48, 59] else if c = 9 then some [38, 35, 57, 59] else if c = 34 then some [38, 113, 117, 111, 116, 59] else escT false c := by
    unfold escT
    repeat' split
    all_goals first | rfl | (exfalso; simp_all; done) | (exfalso; omega)
  rw [e]; exact h
def escD : Bool → DataW Unit
  | false => escD0
  | true => escD1
theorem looks (v : Bool) (c : Nat) : Looks (escD v) c (escT v c) := by
  cases v
  · exact looks0 c
  · exact looks1 c

/-- The block holds the map of what is escaped. -/
def EscMap (v : Bool) (w : World) (b : Nat) : Prop := ∃ n, n ≤ 7 ∧ w.ownsMap Tryz.prog 21 (plainElem (H := Unit) Tryz.prog 9) b n (escD v)
theorem EscMap.below {v : Bool} {w w' : World} {b B : Nat} (h : EscMap v w b) (hb : Below B w w') (hB : b < B) : EscMap v w' b := by
  obtain ⟨n, hn, es, clock, h1, r⟩ := h
  exact ⟨n, hn, es, clock, (hb.block b hB).trans h1, r⟩

end Go.Proofs.YthodmdfbahkflaaGreatDoor.Ent
namespace Go.Proofs.YthodmdfbahkflaaGreatDoor.Ent
open Go Go.Proofs.YthodmdfbahkflaaGreatDoor Go.Proofs.YthodmdfbahkflaaGreatDoor.Utf Go.RowKit
set_option maxRecDepth 100000

/-- From here on all is right. -/
def Rest (l : List UInt8) (pos : Nat) : Prop := pos ≤ l.length ∧ check (l.drop pos) = (l.drop pos).length
theorem Rest.start {l : List UInt8} (h : check l = l.length) : Rest l 0 := ⟨by omega, by simpa using h⟩
theorem Rest.step {v : Bool} {l : List UInt8} {pos : Nat} (h : Rest l pos) (hp : pos < l.length) :
    (rune (l.drop pos)).2 ≠ 0 ∧ fine ((rune (l.drop pos)).1 : Int) = true ∧ Rest l (pos + (rune (l.drop pos)).2) ∧ esc v (l.take (pos + (rune (l.drop pos)).2)) = esc v (l.take pos) ++ (escT v (rune (l.drop pos)).1).getD (enc ((rune (l.drop pos)).1 : Int)) := by
  obtain ⟨h1, h2⟩ := h
  have hr := rune_le (l.drop pos)
  have hne : (rune (l.drop pos)).2 ≠ 0 := by
    intro e
    rw [check_stop e] at h2
    simp at h2; omega
  obtain ⟨hf, _⟩ := rune_some (l := l.drop pos) (c := (rune (l.drop pos)).1) (k := (rune (l.drop pos)).2) rfl hne
  have hck : check (l.drop (pos + (rune (l.drop pos)).2)) = (l.drop (pos + (rune (l.drop pos)).2)).length := by
    rw [check_step hne, List.drop_drop] at h2
    simp only [List.length_drop] at h2 hr ⊢
    omega
  refine ⟨hne, hf, ⟨by simp only [List.length_drop] at hr; omega, hck⟩, ?_⟩
  rw [List.take_add, esc_append, rune_take _ hne, esc_enc v _ hf]

end Go.Proofs.YthodmdfbahkflaaGreatDoor.Ent
namespace Go.Proofs.YthodmdfbahkflaaGreatDoor.Ent
open Go Go.Proofs.YthodmdfbahkflaaGreatDoor Go.Proofs.YthodmdfbahkflaaGreatDoor.Utf Go.Proofs.YthodmdfbahkflaaGreatDoor.Names Go.RowKit
set_option maxRecDepth 100000

theorem esc_snoc (v : Bool) (l : List UInt8) (k : Nat) (hk : k < l.length) : esc v (l.take (k + 1)) = esc v (l.take k) ++ escB v l[k] := by
  rw [List.take_succ_eq_append_getElem hk, esc_append]; simp [esc]
theorem byte_ne {b : UInt8} {n : UInt8} (h : ¬ b = n) : ¬ b.toNat = n.toNat := fun e => h (UInt8.toNat_inj.1 e)

/-- The document's own answer, as values. -/
def rescV (v : Bool) (l : List UInt8) : Value := if check l = l.length then .tuple #[.string (text (esc v l)), .bool true] else .tuple #[.string (text []), .bool false]

set_option maxHeartbeats 4000000 in
theorem REscape_any (v : Bool) (l : List UInt8) (hl : l.length ≤ 4000000) (w : World) :
    Calls Tryz.prog 16 #[.string (text l), .bool v] w fun e w' => e = .returned (rescV v l) ∧ Below w.heap.size w w' := by
  have s1 : (text l).size = l.length := text_size l
  obtain ⟨vb, w1, hcv, hvb, hb1, _⟩ := conv_at (P := Tryz.prog) l (by omega) 9 24 5 under9 underB under8 w
  have hck := RCheck_any vb l w1 (hvb w1 rfl)
  have HCK := hid hck
  have HB1 := hid hb1
  clear hck hvb hb1
  by_cases hc : check l = l.length
  · have hev : rescV v l = .tuple #[.string (text (esc v l)), .bool true] := by unfold rescV; rw [if_pos hc]
    rw [hc] at HCK
    have HEV := hid hev
    clear hc hev
    go_enter Tryz.func16, Tryz.ntmps16
    go_wp2_with fail
    refine HCK.out.mono ?_
    rintro e w2 ⟨rfl, hb2⟩
    have HB2 := hid (bt HB1.out hb2)
    clear hb2 hcv
    go_wp2_with fail
    go_loop [6, 7] (fun o i => ∃ k : Nat, k ≤ l.length ∧ i = .int .i64 k ∧ o = .string (text (esc v (l.take k)))) (fun _ i => l.length - (intOf i).toNat)
    case atStart => exact ⟨0, by omega, rfl, by simp [esc]; rfl⟩
    case round =>
      obtain ⟨k, hk, rfl, rfl⟩ := hrel
      by_cases hlt : k < l.length
      · have hsn := esc_snoc v l k hlt
        have hone : (text l).extract k (k + 1) = text [l[k]] := text_one l k hlt
        have hol := esc_len v (l.take k)
        rw [List.length_take] at hol
        unfold escB at hsn
        generalize l[k] = b at *
        generalize esc v (l.take k) = out at *
        have HS := hid hsn
        clear hsn
        by_cases h38 : b = 38
        · have q38 := list_yes (show [b] = [38] from by rw [h38])
          have hb38 : b.toNat = 38 := by rw [h38]; rfl
          clear h38
          have hes : esc v (l.take (k + 1)) = out ++ [38, 97, 109, 112, 59] := by rw [HS.out, show escT v b.toNat = some [38, 97, 109, 112, 59] from by unfold escT; rw [hb38]; rfl]; rfl
          have had : text out ++ (⟨#[38, 97, 109, 112, 59]⟩ : ByteArray) = text (out ++ [38, 97, 109, 112, 59]) := by rw [show (⟨#[38, 97, 109, 112, 59]⟩ : ByteArray) = text [38, 97, 109, 112, 59] from rfl, text_append]
          have hadz : (text out).size + (⟨#[38, 97, 109, 112, 59]⟩ : ByteArray).size ≤ 9223372036854775807 := by rw [show (⟨#[38, 97, 109, 112, 59]⟩ : ByteArray) = text [38, 97, 109, 112, 59] from rfl, text_size, text_size]; simp; omega
          have HES := hid hes
          clear hes
          go_wp2_with fail
          all_goals
            go_round
            case rel => exact ⟨k + 1, hlt, by go_num, by rw [HES.out]⟩
            case measure => simp [intOf]; omega
        have q38 := list_no (show ¬ [b] = [38] from fun e => h38 (by simpa using e))
        have z38 : ¬ b.toNat = 38 := byte_ne h38
        clear h38
        by_cases h60 : b = 60
        · have q60 := list_yes (show [b] = [60] from by rw [h60])
          have hb60 : b.toNat = 60 := by rw [h60]; rfl
          clear h60
          have hes : esc v (l.take (k + 1)) = out ++ [38, 108, 116, 59] := by rw [HS.out, show escT v b.toNat = some [38, 108, 116, 59] from by unfold escT; rw [hb60]; rfl]; rfl
          have had : text out ++ (⟨#[38, 108, 116, 59]⟩ : ByteArray) = text (out ++ [38, 108, 116, 59]) := by rw [show (⟨#[38, 108, 116, 59]⟩ : ByteArray) = text [38, 108, 116, 59] from rfl, text_append]
          have hadz : (text out).size + (⟨#[38, 108, 116, 59]⟩ : ByteArray).size ≤ 9223372036854775807 := by rw [show (⟨#[38, 108, 116, 59]⟩ : ByteArray) = text [38, 108, 116, 59] from rfl, text_size, text_size]; simp; omega
          have HES := hid hes
          clear hes
          go_wp2_with fail
          all_goals
            go_round
            case rel => exact ⟨k + 1, hlt, by go_num, by rw [HES.out]⟩
            case measure => simp [intOf]; omega
        have q60 := list_no (show ¬ [b] = [60] from fun e => h60 (by simpa using e))
        have z60 : ¬ b.toNat = 60 := byte_ne h60
        clear h60
        by_cases h62 : b = 62
        · have q62 := list_yes (show [b] = [62] from by rw [h62])
          have hb62 : b.toNat = 62 := by rw [h62]; rfl
          clear h62
          have hes : esc v (l.take (k + 1)) = out ++ [38, 103, 116, 59] := by rw [HS.out, show escT v b.toNat = some [38, 103, 116, 59] from by unfold escT; rw [hb62]; rfl]; rfl
          have had : text out ++ (⟨#[38, 103, 116, 59]⟩ : ByteArray) = text (out ++ [38, 103, 116, 59]) := by rw [show (⟨#[38, 103, 116, 59]⟩ : ByteArray) = text [38, 103, 116, 59] from rfl, text_append]
          have hadz : (text out).size + (⟨#[38, 103, 116, 59]⟩ : ByteArray).size ≤ 9223372036854775807 := by rw [show (⟨#[38, 103, 116, 59]⟩ : ByteArray) = text [38, 103, 116, 59] from rfl, text_size, text_size]; simp; omega
          have HES := hid hes
          clear hes
          go_wp2_with fail
          all_goals
            go_round
            case rel => exact ⟨k + 1, hlt, by go_num, by rw [HES.out]⟩
            case measure => simp [intOf]; omega
        have q62 := list_no (show ¬ [b] = [62] from fun e => h62 (by simpa using e))
        have z62 : ¬ b.toNat = 62 := byte_ne h62
        clear h62
        by_cases h13 : b = 13
        · have q13 := list_yes (show [b] = [13] from by rw [h13])
          have hb13 : b.toNat = 13 := by rw [h13]; rfl
          clear h13
          have hes : esc v (l.take (k + 1)) = out ++ [38, 35, 49, 51, 59] := by rw [HS.out, show escT v b.toNat = some [38, 35, 49, 51, 59] from by unfold escT; rw [hb13]; rfl]; rfl
          have had : text out ++ (⟨#[38, 35, 49, 51, 59]⟩ : ByteArray) = text (out ++ [38, 35, 49, 51, 59]) := by rw [show (⟨#[38, 35, 49, 51, 59]⟩ : ByteArray) = text [38, 35, 49, 51, 59] from rfl, text_append]
          have hadz : (text out).size + (⟨#[38, 35, 49, 51, 59]⟩ : ByteArray).size ≤ 9223372036854775807 := by rw [show (⟨#[38, 35, 49, 51, 59]⟩ : ByteArray) = text [38, 35, 49, 51, 59] from rfl, text_size, text_size]; simp; omega
          have HES := hid hes
          clear hes
          go_wp2_with fail
          all_goals
            go_round
            case rel => exact ⟨k + 1, hlt, by go_num, by rw [HES.out]⟩
            case measure => simp [intOf]; omega
        have q13 := list_no (show ¬ [b] = [13] from fun e => h13 (by simpa using e))
        have z13 : ¬ b.toNat = 13 := byte_ne h13
        clear h13
        by_cases h34 : b = 34
        · have q34 := list_yes (show [b] = [34] from by rw [h34])
          have hb34 : b.toNat = 34 := by rw [h34]; rfl
          clear h34
          cases v
          · have hes : esc false (l.take (k + 1)) = out ++ [b] := by rw [HS.out, show escT false b.toNat = none from by unfold escT; rw [hb34]; rfl]; rfl
            have had : text out ++ text [b] = text (out ++ [b]) := text_append _ _
            have hadz : (text out).size + (text [b]).size ≤ 9223372036854775807 := by rw [text_size, text_size]; simp; omega
            have HES := hid hes
            clear hes
            go_wp2_with fail
            all_goals
              go_round
              case rel => exact ⟨k + 1, hlt, by go_num, by rw [HES.out]⟩
              case measure => simp [intOf]; omega
          · have hes : esc true (l.take (k + 1)) = out ++ [38, 113, 117, 111, 116, 59] := by rw [HS.out, show escT true b.toNat = some [38, 113, 117, 111, 116, 59] from by unfold escT; rw [hb34]; rfl]; rfl
            have had : text out ++ (⟨#[38, 113, 117, 111, 116, 59]⟩ : ByteArray) = text (out ++ [38, 113, 117, 111, 116, 59]) := by rw [show (⟨#[38, 113, 117, 111, 116, 59]⟩ : ByteArray) = text [38, 113, 117, 111, 116, 59] from rfl, text_append]
            have hadz : (text out).size + (⟨#[38, 113, 117, 111, 116, 59]⟩ : ByteArray).size ≤ 9223372036854775807 := by rw [show (⟨#[38, 113, 117, 111, 116, 59]⟩ : ByteArray) = text [38, 113, 117, 111, 116, 59] from rfl, text_size, text_size]; simp; omega
            have HES := hid hes
            clear hes
            go_wp2_with fail
            all_goals
              go_round
              case rel => exact ⟨k + 1, hlt, by go_num, by rw [HES.out]⟩
              case measure => simp [intOf]; omega
        have q34 := list_no (show ¬ [b] = [34] from fun e => h34 (by simpa using e))
        have z34 : ¬ b.toNat = 34 := byte_ne h34
        clear h34
        by_cases h9 : b = 9
        · have q9 := list_yes (show [b] = [9] from by rw [h9])
          have hb9 : b.toNat = 9 := by rw [h9]; rfl
          clear h9
          cases v
          · have hes : esc false (l.take (k + 1)) = out ++ [b] := by rw [HS.out, show escT false b.toNat = none from by unfold escT; rw [hb9]; rfl]; rfl
            have had : text out ++ text [b] = text (out ++ [b]) := text_append _ _
            have hadz : (text out).size + (text [b]).size ≤ 9223372036854775807 := by rw [text_size, text_size]; simp; omega
            have HES := hid hes
            clear hes
            go_wp2_with fail
            all_goals
              go_round
              case rel => exact ⟨k + 1, hlt, by go_num, by rw [HES.out]⟩
              case measure => simp [intOf]; omega
          · have hes : esc true (l.take (k + 1)) = out ++ [38, 35, 57, 59] := by rw [HS.out, show escT true b.toNat = some [38, 35, 57, 59] from by unfold escT; rw [hb9]; rfl]; rfl
            have had : text out ++ (⟨#[38, 35, 57, 59]⟩ : ByteArray) = text (out ++ [38, 35, 57, 59]) := by rw [show (⟨#[38, 35, 57, 59]⟩ : ByteArray) = text [38, 35, 57, 59] from rfl, text_append]
            have hadz : (text out).size + (⟨#[38, 35, 57, 59]⟩ : ByteArray).size ≤ 9223372036854775807 := by rw [show (⟨#[38, 35, 57, 59]⟩ : ByteArray) = text [38, 35, 57, 59] from rfl, text_size, text_size]; simp; omega
            have HES := hid hes
            clear hes
            go_wp2_with fail
            all_goals
              go_round
              case rel => exact ⟨k + 1, hlt, by go_num, by rw [HES.out]⟩
              case measure => simp [intOf]; omega
        have q9 := list_no (show ¬ [b] = [9] from fun e => h9 (by simpa using e))
        have z9 : ¬ b.toNat = 9 := byte_ne h9
        clear h9
        by_cases h10 : b = 10
        · have q10 := list_yes (show [b] = [10] from by rw [h10])
          have hb10 : b.toNat = 10 := by rw [h10]; rfl
          clear h10
          cases v
          · have hes : esc false (l.take (k + 1)) = out ++ [b] := by rw [HS.out, show escT false b.toNat = none from by unfold escT; rw [hb10]; rfl]; rfl
            have had : text out ++ text [b] = text (out ++ [b]) := text_append _ _
            have hadz : (text out).size + (text [b]).size ≤ 9223372036854775807 := by rw [text_size, text_size]; simp; omega
            have HES := hid hes
            clear hes
            go_wp2_with fail
            all_goals
              go_round
              case rel => exact ⟨k + 1, hlt, by go_num, by rw [HES.out]⟩
              case measure => simp [intOf]; omega
          · have hes : esc true (l.take (k + 1)) = out ++ [38, 35, 49, 48, 59] := by rw [HS.out, show escT true b.toNat = some [38, 35, 49, 48, 59] from by unfold escT; rw [hb10]; rfl]; rfl
            have had : text out ++ (⟨#[38, 35, 49, 48, 59]⟩ : ByteArray) = text (out ++ [38, 35, 49, 48, 59]) := by rw [show (⟨#[38, 35, 49, 48, 59]⟩ : ByteArray) = text [38, 35, 49, 48, 59] from rfl, text_append]
            have hadz : (text out).size + (⟨#[38, 35, 49, 48, 59]⟩ : ByteArray).size ≤ 9223372036854775807 := by rw [show (⟨#[38, 35, 49, 48, 59]⟩ : ByteArray) = text [38, 35, 49, 48, 59] from rfl, text_size, text_size]; simp; omega
            have HES := hid hes
            clear hes
            go_wp2_with fail
            all_goals
              go_round
              case rel => exact ⟨k + 1, hlt, by go_num, by rw [HES.out]⟩
              case measure => simp [intOf]; omega
        have q10 := list_no (show ¬ [b] = [10] from fun e => h10 (by simpa using e))
        have z10 : ¬ b.toNat = 10 := byte_ne h10
        clear h10
        have hno : escT v b.toNat = none := by
          unfold escT
          rw [if_neg z38, if_neg z60, if_neg z62, if_neg z13, if_neg (fun e => z34 e.2), if_neg (fun e => z9 e.2), if_neg (fun e => z10 e.2)]
        clear z38 z60 z62 z13 z34 z9 z10
        cases v
        · have hes : esc false (l.take (k + 1)) = out ++ [b] := by rw [HS.out, show escT false b.toNat = none from by exact hno]; rfl
          have had : text out ++ text [b] = text (out ++ [b]) := text_append _ _
          have hadz : (text out).size + (text [b]).size ≤ 9223372036854775807 := by rw [text_size, text_size]; simp; omega
          have HES := hid hes
          clear hes
          go_wp2_with fail
          all_goals
            go_round
            case rel => exact ⟨k + 1, hlt, by go_num, by rw [HES.out]⟩
            case measure => simp [intOf]; omega
        · have hes : esc true (l.take (k + 1)) = out ++ [b] := by rw [HS.out, show escT true b.toNat = none from by exact hno]; rfl
          have had : text out ++ text [b] = text (out ++ [b]) := text_append _ _
          have hadz : (text out).size + (text [b]).size ≤ 9223372036854775807 := by rw [text_size, text_size]; simp; omega
          have HES := hid hes
          clear hes
          go_wp2_with fail
          all_goals
            go_round
            case rel => exact ⟨k + 1, hlt, by go_num, by rw [HES.out]⟩
            case measure => simp [intOf]; omega
      · have hkl : l.take k = l := List.take_of_length_le (by omega)
        rw [hkl]
        go_wp2
        go_ret2
        exact ⟨by rw [HEV.out]; rfl, HB2.out⟩
  · have hev : rescV v l = .tuple #[.string (text []), .bool false] := by unfold rescV; rw [if_neg hc]
    have hcl : ((check l : Int) != (l.length : Int)) = true := by rw [bne_iff_ne]; omega
    have hcl2 : ¬ (check l : Int) = (l.length : Int) := by omega
    have HEV := hid hev
    clear hc hev
    go_enter Tryz.func16, Tryz.ntmps16
    go_wp2_with fail
    refine HCK.out.mono ?_
    rintro e w2 ⟨rfl, hb2⟩
    go_wp2
    go_ret2
    exact ⟨by rw [HEV.out]; rfl, bt HB1.out hb2⟩
end Go.Proofs.YthodmdfbahkflaaGreatDoor.Ent
namespace Go.Proofs.YthodmdfbahkflaaGreatDoor.Ent
open Go Go.Proofs.YthodmdfbahkflaaGreatDoor Go.Proofs.YthodmdfbahkflaaGreatDoor.Utf
set_option maxRecDepth 100000

theorem rune_low (c : Nat) (h : c < 128) (hf : fine (c : Int) = true) (r : List UInt8) : rune (UInt8.ofNat c :: r) = (c, 1) := by
  have := rune_enc c hf r
  rw [enc_low h] at this
  exact this
theorem pre_crlf {m : List UInt8} (h : pre [13, 10] m = true) : rune m = (13, 1) := by
  obtain ⟨r, rfl⟩ := (pre_iff _ _).1 h
  exact rune_low 13 (by omega) (by decide) (10 :: r)

/-- A character ahead that tells itself. -/
theorem item_self {v : Bool} {c : Nat} (hf : fine (c : Int) = true) (h1 : c ≠ 38) (h2 : c ≠ 60) (h3 : c ≠ 13) (h4 : v = true → c ≠ 9 ∧ c ≠ 10) (m : List UInt8) : item v (enc (c : Int) ++ m) = (c, (enc (c : Int)).length, 0) := by
  have e := rune_enc c hf m
  have hl := enc_len (c : Int)
  have hp : pre [13, 10] (enc (c : Int) ++ m) = false := by
    rw [← Bool.not_eq_true]
    intro h
    have := pre_crlf h
    rw [this] at e
    injection e with e _
    exact h3 e.symm
  have hi : itself v c = c := by
    unfold itself
    by_cases hv : v = true
    · have := h4 hv
      rw [if_pos hv, if_neg (by omega)]
    · rw [if_neg hv, if_neg h3]
  unfold item
  rw [e, if_neg (by simp only; omega), if_neg h2, if_neg h1, hp]
  simp [hi]
theorem tell_self {v : Bool} {c : Nat} (hf : fine (c : Int) = true) (h1 : c ≠ 38) (h2 : c ≠ 60) (h3 : c ≠ 13) (h4 : v = true → c ≠ 9 ∧ c ≠ 10) (m : List UInt8) : tell v (enc (c : Int) ++ m) = fin (enc (c : Int)) (enc (c : Int)).length (tell v m) := by
  have h := item_self hf h1 h2 h3 h4 m
  rw [tell_step (by rw [h]), h]
  simp only
  congr 2
  simp

/-- A text without references and ends of lines. -/
def calm (l : List UInt8) : Prop := ∀ b ∈ l, b ≠ 38 ∧ b ≠ 60 ∧ b ≠ 13 ∧ b ≠ 10 ∧ b ≠ 9
theorem enc_mem {c : Nat} (h : c < 128) : UInt8.ofNat c ∈ enc (c : Int) := by rw [enc_low h]; simp
/-- .. tells itself. -/
theorem tell_calm (v : Bool) (l : List UInt8) (h : check l = l.length) (m : List UInt8) : calm l → tell v (l ++ m) = fin l l.length (tell v m) := by
  refine by_runes (p := fun l => calm l → tell v (l ++ m) = fin l l.length (tell v m)) ?_ ?_ l h
  · intro _
    unfold fin
    rw [List.nil_append, List.nil_append, List.length_nil, Nat.zero_add]
    by_cases e : (tell v m).2.2 = 0
    · rw [if_pos e]
    · rw [if_neg e]; conv => lhs; rw [← Prod.eta (tell v m), tell_none e]
  · intro c r hf hck ih hq
    have key : ∀ n : Nat, n < 128 → (n = 38 ∨ n = 60 ∨ n = 13 ∨ n = 10 ∨ n = 9) → c ≠ n := by
      intro n hn hc e
      subst e
      have := hq (UInt8.ofNat c) (by simp [enc_mem hn])
      rcases hc with rfl | rfl | rfl | rfl | rfl <;> simp at this
    rw [List.append_assoc, tell_self hf (key 38 (by omega) (by simp)) (key 60 (by omega) (by simp)) (key 13 (by omega) (by simp)) (fun _ => ⟨key 9 (by omega) (by simp), key 10 (by omega) (by simp)⟩), ih (fun b hb => hq b (by simp [hb])), fin_fin, List.length_append]

/-! Numerals. -/
/-- A number's digits, to a base, out of a row of them. -/
def numF (base : Nat) (all : List UInt8) : Nat → Nat → List UInt8
  | 0, _ => []
  | f + 1, n => if n < base then [all.getD n 0] else numF base all f (n / base) ++ [all.getD (n % base) 0]
def num (base : Nat) (all : List UInt8) (n : Nat) : List UInt8 := numF base all (n + 1) n
end Go.Proofs.YthodmdfbahkflaaGreatDoor.Ent
namespace Go.Proofs.YthodmdfbahkflaaGreatDoor.Ent
open Go Go.Proofs.YthodmdfbahkflaaGreatDoor Go.Proofs.YthodmdfbahkflaaGreatDoor.Utf Go.RowKit
set_option maxRecDepth 100000

/-- What all statements ask of the world: the library's tables, and its error. -/
def Fit (w : World) : Prop := Tabs w ∧ Errs w
theorem Fit.below {w w' : World} (h : Fit w) (hb : Below w.heap.size w w') : Fit w' := ⟨h.1.below hb (Nat.le_refl _), h.2.below hb (Nat.le_refl _)⟩

end Go.Proofs.YthodmdfbahkflaaGreatDoor.Ent
namespace Go.Proofs.YthodmdfbahkflaaGreatDoor.Utf
open Go Go.Proofs.YthodmdfbahkflaaGreatDoor
set_option maxRecDepth 100000


theorem chk_fst {x j : Nat} (h : (chk x j).2 ≠ 0) : chk x j = (x, j) := by
  rcases chk_cases x j with e | ⟨e, _⟩
  · rw [e] at h; exact absurd rfl h
  · exact e
/-- A byte below 128 is a character of its own. -/
theorem runeN_low (n b0 b1 b2 b3 : Nat) (h : (runeN n b0 b1 b2 b3).2 ≠ 0) (hl : b0 < 128 ∨ (1 < (runeN n b0 b1 b2 b3).2 ∧ b1 < 128) ∨ (2 < (runeN n b0 b1 b2 b3).2 ∧ b2 < 128) ∨ (3 < (runeN n b0 b1 b2 b3).2 ∧ b3 < 128)) : runeN n b0 b1 b2 b3 = (b0, 1) := by
  unfold runeN at h hl ⊢
  by_cases e : n = 0
  · rw [if_pos e] at h; exact absurd rfl h
  rw [if_neg e] at h hl ⊢
  by_cases e0 : b0 < 128
  · rw [if_pos e0] at h hl ⊢
    exact chk_fst h
  rw [if_neg e0] at h hl ⊢
  by_cases e1 : b0 < 192
  · rw [if_pos e1] at h; exact absurd rfl h
  rw [if_neg e1] at h hl ⊢
  by_cases e2 : b0 < 224
  · rw [if_pos e2] at h hl ⊢
    by_cases c : 2 ≤ n ∧ b1 / 64 = 2
    · rw [if_pos c] at h hl ⊢
      rw [chk_fst h] at hl
      simp only at hl; omega
    · rw [if_neg c] at h; exact absurd rfl h
  rw [if_neg e2] at h hl ⊢
  by_cases e3 : b0 < 240
  · rw [if_pos e3] at h hl ⊢
    by_cases c : 3 ≤ n ∧ b1 / 64 = 2 ∧ b2 / 64 = 2
    · rw [if_pos c] at h hl ⊢
      rw [chk_fst h] at hl
      simp only at hl; omega
    · rw [if_neg c] at h; exact absurd rfl h
  rw [if_neg e3] at h hl ⊢
  by_cases e4 : b0 < 248
  · rw [if_pos e4] at h hl ⊢
    by_cases c : 4 ≤ n ∧ b1 / 64 = 2 ∧ b2 / 64 = 2 ∧ b3 / 64 = 2
    · rw [if_pos c] at h hl ⊢
      rw [chk_fst h] at hl
      simp only at hl; omega
    · rw [if_neg c] at h; exact absurd rfl h
  rw [if_neg e4] at h; exact absurd rfl h
theorem rune_low {l : List UInt8} (h : (rune l).2 ≠ 0) {j : Nat} (hj : j < (rune l).2) (hb : nth l j < 128) : rune l = (nth l 0, 1) := by
  have h4 := (rune_le l).2
  unfold rune at h hj h4 ⊢
  refine runeN_low _ _ _ _ _ h ?_
  rcases (by omega : j = 0 ∨ j = 1 ∨ j = 2 ∨ j = 3) with rfl | rfl | rfl | rfl
  · exact .inl hb
  · exact .inr (.inl ⟨hj, hb⟩)
  · exact .inr (.inr (.inl ⟨hj, hb⟩))
  · exact .inr (.inr (.inr ⟨hj, hb⟩))
end Go.Proofs.YthodmdfbahkflaaGreatDoor.Utf

namespace Go.Proofs.YthodmdfbahkflaaGreatDoor.Names
open Go Go.Proofs.YthodmdfbahkflaaGreatDoor Go.Proofs.YthodmdfbahkflaaGreatDoor.Utf
set_option maxRecDepth 100000

theorem rune_append {a : List UInt8} (b : List UInt8) (h : (rune a).2 ≠ 0) : rune (a ++ b) = rune a := by
  have h1 := rune_le a
  exact rune_own a (a ++ b) _ rfl h (by simp; omega) (fun i hi => nth_append_left a b i (by omega))
theorem drop_append_le (a b : List UInt8) (k : Nat) (h : k ≤ a.length) : (a ++ b).drop k = a.drop k ++ b := by
  rw [List.drop_append_of_le_length h]
/-- Characters, put one behind the other. -/
theorem chars_append : ∀ (a : List UInt8) (b : List UInt8) (cs : List Nat), chars a = some cs → chars (a ++ b) = (chars b).map (cs ++ ·) := by
  intro a b
  refine by_chars (p := fun a => ∀ cs, chars a = some cs → chars (a ++ b) = (chars b).map (cs ++ ·)) ?_ ?_ ?_ a
  · intro cs h
    rw [chars_nil] at h; cases h
    rw [List.nil_append]
    cases chars b <;> simp
  · intro a h0 h cs hc
    rw [chars_none h0 h] at hc; cases hc
  · intro a h ih cs hc
    rw [chars_step h] at hc
    cases hd : chars (a.drop (rune a).2) with
    | none => rw [hd] at hc; cases hc
    | some ds =>
      rw [hd] at hc; cases hc
      have h1 := rune_append b h
      have h2 : (rune (a ++ b)).2 ≠ 0 := by rw [h1]; exact h
      rw [chars_step h2, h1, drop_append_le a b _ (rune_le a).1, ih ds hd]
      cases chars b <;> simp

theorem shp_iff {p q : Int → Bool} {l : List UInt8} : shp p q l = true ↔ ∃ (c : Nat) (cs : List Nat), chars l = some (c :: cs) ∧ p c = true ∧ cs.all (fun c => q c) = true := by
  unfold shp
  constructor
  · intro h
    cases hc : chars l with
    | none => rw [hc] at h; cases h
    | some ds =>
      cases ds with
      | nil => rw [hc] at h; cases h
      | cons c cs =>
        rw [hc] at h
        simp only [Bool.and_eq_true] at h
        exact ⟨c, cs, rfl, h.1, h.2⟩
  · rintro ⟨c, cs, hc, h1, h2⟩
    rw [hc]; simp only [h1, h2, Bool.and_self]
/-- The first place, in two texts with that byte between. -/
theorem firstAt_between {c : UInt8} {a : List UInt8} (b : List UInt8) (h : firstAt c a = none) : firstAt c (a ++ c :: b) = some a.length := by
  refine firstAt_is (by simp) fun k hk => ?_
  rw [List.getElem?_append_left hk]
  exact firstAt_none h k
theorem firstAt_ahead {c : UInt8} {a : List UInt8} {i : Nat} (b : List UInt8) (h : firstAt c a = some i) : firstAt c (a ++ b) = some i := by
  have hl := firstAt_lt h
  obtain ⟨h1, h2⟩ := firstAt_at h
  refine firstAt_is (by rw [List.getElem?_append_left hl]; exact h1) fun k hk => ?_
  rw [List.getElem?_append_left (by omega)]
  exact h2 k hk

end Go.Proofs.YthodmdfbahkflaaGreatDoor.Names
