/- Plain mathematics of layer 1: which numbers are characters, and kinds of them. No program in it. | Layer 1: contracts of the functions that ask of a number which kind of character it is. | Layer 1: contracts of the functions that ask of a number which kind of name's character it is. | Slices told by what they hold, over any program: a slice's value stays a variable; what the walk asks of it (its length, a piece of it, an element's place, its text) are equations that this text gives. | Plain mathematics of layer 1: the character that bytes begin with, by the document; that the language's way of reading tells the same. -/
import Derived.Test.YthodmdfbahkflaaGreatDoorChecked
import Derived.WalkKit
import Derived.WalkSpells
import Derived.WalkLawsBesides
import Derived.Laws.BytesArg
import Derived.Lib.Strings
import Derived.Lib.DecodeN
set_option linter.unusedVariables false
set_option linter.unusedSimpArgs false
namespace Go.Proofs.YthodmdfbahkflaaGreatDoor.Utf

def fine (c : Int) : Bool := decide (c = 9 ∨ c = 10 ∨ c = 13 ∨ (32 ≤ c ∧ c ≤ 55295) ∨ (57344 ≤ c ∧ c ≤ 65533) ∨ (65536 ≤ c ∧ c ≤ 1114111))
def space (c : Int) : Bool := decide (c = 9 ∨ c = 10 ∨ c = 13 ∨ c = 32)
def first (c : Int) : Bool := decide ((65 ≤ c ∧ c ≤ 90) ∨ (97 ≤ c ∧ c ≤ 122) ∨ c = 95 ∨ (192 ≤ c ∧ c ≠ 215 ∧ c ≠ 247 ∧ fine c = true))
def next (c : Int) : Bool := decide (first c = true ∨ (48 ≤ c ∧ c ≤ 57))
def part (c : Int) : Bool := decide (next c = true ∨ c = 45 ∨ c = 46 ∨ c = 183)

theorem fine_iff (c : Int) : fine c = true ↔ (c = 9 ∨ c = 10 ∨ c = 13 ∨ (32 ≤ c ∧ c ≤ 55295) ∨ (57344 ≤ c ∧ c ≤ 65533) ∨ (65536 ≤ c ∧ c ≤ 1114111)) := by simp only [fine, decide_eq_true_eq]
theorem space_iff (c : Int) : space c = true ↔ (c = 9 ∨ c = 10 ∨ c = 13 ∨ c = 32) := by simp only [space, decide_eq_true_eq]
theorem first_iff (c : Int) : first c = true ↔ ((65 ≤ c ∧ c ≤ 90) ∨ (97 ≤ c ∧ c ≤ 122) ∨ c = 95 ∨ (192 ≤ c ∧ c ≠ 215 ∧ c ≠ 247 ∧ fine c = true)) := by simp only [first, decide_eq_true_eq]
theorem next_iff (c : Int) : next c = true ↔ (first c = true ∨ (48 ≤ c ∧ c ≤ 57)) := by simp only [next, decide_eq_true_eq]
theorem part_iff (c : Int) : part c = true ↔ (next c = true ∨ c = 45 ∨ c = 46 ∨ c = 183) := by simp only [part, decide_eq_true_eq]

end Go.Proofs.YthodmdfbahkflaaGreatDoor.Utf
namespace Go.Proofs.YthodmdfbahkflaaGreatDoor.Utf
open Go Go.Proofs.YthodmdfbahkflaaGreatDoor Go.RowKit

theorem ret_bool {a b : Bool} (h : a = b) : Ending.returned (.bool a) = .returned (.bool b) := by rw [h]

set_option maxHeartbeats 400000 in
theorem within_any (c a b : Int) (w : World) :
    Calls Tryz.prog 96 #[.int .i64 c, .int .i64 a, .int .i64 b] w fun e w' => e = .returned (.bool (decide (a ≤ c ∧ c ≤ b))) ∧ w = w' := by
  go_enter Tryz.func96, Tryz.ntmps96
  go_wp2
  all_goals go_ret
  all_goals exact ⟨ret_bool (by simp; try omega), rfl⟩

set_option maxHeartbeats 1000000 in
theorem Fine_any (c : Int) (w : World) :
    Calls Tryz.prog 69 #[.int .i64 c] w fun e w' => e = .returned (.bool (fine c)) ∧ w = w' := by
  go_enter Tryz.func69, Tryz.ntmps69
  go_wp2
  all_goals go_ret
  all_goals exact ⟨ret_bool (by rw [Bool.eq_iff_iff, fine_iff]; simp; try omega), rfl⟩

set_option maxHeartbeats 1000000 in
theorem RFine_any (c : Int) (w : World) :
    Calls Tryz.prog 84 #[.int .i64 c] w fun e w' => e = .returned (.bool (fine c)) ∧ w = w' := by
  go_enter Tryz.func84, Tryz.ntmps84
  go_wp2
  all_goals go_ret
  all_goals exact ⟨ret_bool (by rw [Bool.eq_iff_iff, fine_iff]; simp; try omega), rfl⟩

set_option maxHeartbeats 1000000 in
theorem Space_any (c : Int) (w : World) :
    Calls Tryz.prog 70 #[.int .i64 c] w fun e w' => e = .returned (.bool (space c)) ∧ w = w' := by
  go_enter Tryz.func70, Tryz.ntmps70
  go_wp2
  all_goals go_ret
  all_goals exact ⟨ret_bool (by rw [Bool.eq_iff_iff, space_iff]; simp; try omega), rfl⟩

theorem RSpace_any (c : Int) (w : World) :
    Calls Tryz.prog 12 #[.int .i64 c] w fun e w' => e = .returned (.bool (space c)) ∧ w = w' := by
  go_enter Tryz.func12, Tryz.ntmps12
  go_wp2
  all_goals go_ret
  all_goals exact ⟨ret_bool (by rw [Bool.eq_iff_iff, space_iff]; simp; try omega), rfl⟩

set_option maxHeartbeats 1000000 in
theorem letter_any (c : Int) (w : World) :
    Calls Tryz.prog 127 #[.int .i64 c] w fun e w' => e = .returned (.bool (first c)) ∧ w = w' := by
  go_enter Tryz.func127, Tryz.ntmps127
  go_wp2_with (first
    | (go_at_call 96; refine (within_any _ _ _ _).mono ?_; rintro e w' ⟨rfl, rfl⟩)
    | (go_at_call 69; refine (Fine_any _ _).mono ?_; rintro e w' ⟨rfl, rfl⟩))
  all_goals go_ret
  all_goals exact ⟨ret_bool (by rw [Bool.eq_iff_iff, first_iff]; cases hf : fine c <;> simp_all <;> try omega), rfl⟩

end Go.Proofs.YthodmdfbahkflaaGreatDoor.Utf
namespace Go.Proofs.YthodmdfbahkflaaGreatDoor.Utf
open Go Go.Proofs.YthodmdfbahkflaaGreatDoor Go.RowKit

theorem digit_any (c : Int) (w : World) :
    Calls Tryz.prog 128 #[.int .i64 c] w fun e w' => e = .returned (.bool (decide (48 ≤ c ∧ c ≤ 57))) ∧ w = w' := by
  go_enter Tryz.func128, Tryz.ntmps128
  go_wp2_with (go_at_call 96; refine (within_any _ _ _ _).mono ?_; rintro e w' ⟨rfl, rfl⟩)
  all_goals go_ret
  all_goals exact ⟨ret_bool (by simp), rfl⟩

theorem Start_any (c : Int) (w : World) :
    Calls Tryz.prog 111 #[.int .i64 c] w fun e w' => e = .returned (.bool (first c)) ∧ w = w' := by
  go_enter Tryz.func111, Tryz.ntmps111
  go_wp2_with (go_at_call 127; refine (letter_any _ _).mono ?_; rintro e w' ⟨rfl, rfl⟩)
  all_goals go_ret
  all_goals exact ⟨rfl, rfl⟩

theorem Part_any (c : Int) (w : World) :
    Calls Tryz.prog 112 #[.int .i64 c] w fun e w' => e = .returned (.bool (part c)) ∧ w = w' := by
  go_enter Tryz.func112, Tryz.ntmps112
  go_wp2_with (first
    | (go_at_call 127; refine (letter_any _ _).mono ?_; rintro e w' ⟨rfl, rfl⟩)
    | (go_at_call 128; refine (digit_any _ _).mono ?_; rintro e w' ⟨rfl, rfl⟩))
  all_goals go_ret
  all_goals exact ⟨ret_bool (by rw [Bool.eq_iff_iff, part_iff, next_iff]; cases hf : first c <;> simp_all <;> try omega), rfl⟩

set_option maxHeartbeats 1000000 in
theorem RFirst_any (c : Int) (w : World) :
    Calls Tryz.prog 51 #[.int .i64 c] w fun e w' => e = .returned (.bool (first c)) ∧ w = w' := by
  go_enter Tryz.func51, Tryz.ntmps51
  go_wp2_with (go_at_call 84; refine (RFine_any _ _).mono ?_; rintro e w' ⟨rfl, rfl⟩)
  all_goals go_ret
  all_goals exact ⟨ret_bool (by rw [Bool.eq_iff_iff, first_iff]; cases hf : fine c <;> simp_all <;> try omega), rfl⟩

theorem RNext_any (c : Int) (w : World) :
    Calls Tryz.prog 86 #[.int .i64 c] w fun e w' => e = .returned (.bool (next c)) ∧ w = w' := by
  go_enter Tryz.func86, Tryz.ntmps86
  go_wp2_with (go_at_call 51; refine (RFirst_any _ _).mono ?_; rintro e w' ⟨rfl, rfl⟩)
  all_goals go_ret
  all_goals exact ⟨ret_bool (by rw [Bool.eq_iff_iff, next_iff]; cases hf : first c <;> simp_all <;> try omega), rfl⟩

theorem RPart_any (c : Int) (w : World) :
    Calls Tryz.prog 52 #[.int .i64 c] w fun e w' => e = .returned (.bool (part c)) ∧ w = w' := by
  go_enter Tryz.func52, Tryz.ntmps52
  go_wp2_with (go_at_call 86; refine (RNext_any _ _).mono ?_; rintro e w' ⟨rfl, rfl⟩)
  all_goals go_ret
  all_goals exact ⟨ret_bool (by rw [Bool.eq_iff_iff, part_iff]; cases hf : next c <;> simp_all <;> try omega), rfl⟩

end Go.Proofs.YthodmdfbahkflaaGreatDoor.Utf
namespace Go.Proofs.YthodmdfbahkflaaGreatDoor
open Go Go.RowKit

/-- A fact kept from the walk. -/
theorem hid {p : Prop} (h : p) : Hid p := h

/-- Two steps, one behind the other. -/
theorem bt {a b c : World} (h : Below a.heap.size a b) (k : Below b.heap.size b c) : Below a.heap.size a c := h.trans (k.mono h.size)
theorem b0 (a : World) : Below a.heap.size a a := Below.refl _ _
theorem ba {a b : World} (h : Below a.heap.size a b) (o : Obj) : Below a.heap.size a (b.alloc o) := h.alloc h.size o

/-- The slice v holds n elements of sz cells each, the cells xs, in the world w. -/
structure Row (sz : Nat) (w : World) (v : Value) (n : Nat) (xs : List Value) : Prop where
  form : ∃ a c, v = .slice a n c ∧ n ≤ c ∧ c ≤ maxLen ∧ n ≤ 281474976710656 ∧ (a = none → c = 0) ∧ (0 < xs.length → ∃ b off, a = some ⟨b, off, none⟩ ∧ ∀ j u, xs[j]? = some u → w.cell? ⟨b, off + j, none⟩ = some u)
  size : xs.length = n * sz

/-- Cells that hold bytes. -/
def cellsOf (l : List UInt8) : List Value := l.map fun x => Value.int .u8 x.toNat
theorem cellsOf_length (l : List UInt8) : (cellsOf l).length = l.length := by simp [cellsOf]
theorem cellsOf_append (l m : List UInt8) : cellsOf (l ++ m) = cellsOf l ++ cellsOf m := by simp [cellsOf]
theorem cellsOf_drop (l : List UInt8) (k : Nat) : cellsOf (l.drop k) = (cellsOf l).drop k := by simp [cellsOf]
theorem cellsOf_take (l : List UInt8) (k : Nat) : cellsOf (l.take k) = (cellsOf l).take k := by simp [cellsOf]
/-- A slice of bytes. -/
def Bytes (w : World) (v : Value) (l : List UInt8) : Prop := Row 1 w v l.length (cellsOf l)

section
variable {P : Program} {sz : Nat} {w : World} {v : Value} {n : Nat} {xs : List Value}

theorem Row.nil (sz : Nat) (w : World) : Row sz w (.slice none 0 0) 0 [] := ⟨⟨none, 0, rfl, by simp, by simp, by simp, fun _ => rfl, fun h => by simp at h⟩, by simp⟩

theorem Row.le (h : Row sz w v n xs) : n ≤ 281474976710656 := by
  obtain ⟨⟨a, c, rfl, h1, h2, h3, _⟩, _⟩ := h
  exact h3

theorem Row.len (h : Row sz w v n xs) (t ty e : TypeId) (ht : P.underlying t = some (.slice e)) (W : World) : (Builtin.len_ #[t] ty #[v]).run P W = .ok (.int .i64 n) W := by
  obtain ⟨⟨a, c, rfl, _⟩, _⟩ := h
  simp [Builtin.len_, run_underlying ht, goInt]

/-- It is the same in a world in which the old blocks' cells read as they did. -/
theorem Row.later {w' : World} (h : Row sz w v n xs) (hc : ∀ b o, b < w.heap.size → w'.cell? ⟨b, o, none⟩ = w.cell? ⟨b, o, none⟩) : Row sz w' v n xs := by
  obtain ⟨⟨a, c, rfl, h1, h2, h0, hz, h3⟩, h4⟩ := h
  refine ⟨⟨a, c, rfl, h1, h2, h0, hz, fun hx => ?_⟩, h4⟩
  obtain ⟨b, off, rfl, h9⟩ := h3 hx
  refine ⟨b, off, rfl, fun j u hj => ?_⟩
  have := h9 j u hj
  rw [hc b _ (World.block_lt_of_cell? _ _ this)]
  exact this
theorem Row.below {w' : World} (h : Row sz w v n xs) {B : Nat} (hb : Below B w w') (hB : w.heap.size ≤ B) : Row sz w' v n xs :=
  h.later fun b o hl => hb.cell (p := ⟨b, o, none⟩) (by show b < B; omega)

theorem get_sub (xs : List Value) (a k j : Nat) (u : Value) (h : ((xs.drop a).take k)[j]? = some u) : xs[a + j]? = some u := by
  rw [List.getElem?_take] at h
  split at h
  · rw [List.getElem?_drop] at h; exact h
  · cases h

/-- A piece of it. -/
theorem Row.sub (h : Row sz w v n xs) (lo hi : Nat) (h1 : lo ≤ hi) (h2 : hi ≤ n) (t e : TypeId) (ht : P.underlying t = some (.slice e)) (hs : ∀ W, (sizeOf e).run P W = .ok sz W) :
    ∃ v', (∀ kl kh W, (Instr.slice t v (some (.int kl lo)) (some (.int kh hi)) none).run P W = .ok v' W) ∧
      (hi = n → ∀ kl W, (Instr.slice t v (some (.int kl lo)) none none).run P W = .ok v' W) ∧
      (lo = 0 → ∀ kh W, (Instr.slice t v none (some (.int kh hi)) none).run P W = .ok v' W) ∧
      Row sz w v' (hi - lo) ((xs.drop (lo * sz)).take ((hi - lo) * sz)) := by
  obtain ⟨⟨a, c, rfl, h3, h4, h0, hz, h5⟩, h6⟩ := h
  have hs' : ∀ W, (sizeOf e).run P W = .ok sz W := hs
  have e1 : (lo : Int).toNat = lo := by simp
  have e2 : (hi : Int).toNat = hi := by simp
  have hh0 : (0 : Int) ≤ (hi : Int) := by omega
  have hl0 : (0 : Int) ≤ (lo : Int) := by omega
  have hlh : (lo : Int) ≤ (hi : Int) := by omega
  have hhc : (hi : Int) ≤ (c : Int) := by omega
  refine ⟨sliced a lo hi c sz, ?_, ?_, ?_, ?_⟩
  · intro kl kh W
    simp [Instr.slice, run_underlying ht, Instr.sliceBounds, run_sliceBound, sliced, hs', hhc, hlh]
  · intro hn kl W
    have hln : (lo : Int) ≤ (n : Int) := by omega
    simp [Instr.slice, run_underlying ht, Instr.sliceBounds, run_sliceBound, sliced, hs', hln, hn]
  · intro hn kh W
    simp [Instr.slice, run_underlying ht, Instr.sliceBounds, run_sliceBound, sliced, hs', hhc, hn]
  · have hlen : ((xs.drop (lo * sz)).take ((hi - lo) * sz)).length = (hi - lo) * sz := by
      have : hi * sz ≤ n * sz := Nat.mul_le_mul_right _ h2
      have h9 : (hi - lo) * sz = hi * sz - lo * sz := Nat.sub_mul _ _ _
      simp [h6]; omega
    refine ⟨⟨_, _, rfl, by omega, by omega, by omega, fun e => ?_, fun hx => ?_⟩, hlen⟩
    · by_cases hc : c = lo
      · omega
      · rw [if_neg hc] at e
        have := hz (by simpa using e); omega
    · obtain ⟨b, off, rfl, h9⟩ := h5 (by rw [hlen] at hx; rw [h6]; exact Nat.lt_of_lt_of_le hx (Nat.mul_le_mul_right _ (by omega)))
      have hne : c ≠ lo := by
        intro e
        have : hi - lo = 0 := by omega
        rw [hlen, this] at hx; simp at hx
      refine ⟨b, off + lo * sz, by simp [hne, Addr.add_lit], fun j u hj => ?_⟩
      have := h9 _ _ (get_sub _ _ _ _ _ hj)
      rw [show off + lo * sz + j = off + (lo * sz + j) from by omega]
      exact this

/-- An element's place. -/
theorem Row.at (h : Row sz w v n xs) (hs0 : 0 < sz) (i : Nat) (hi : i < n) (t e : TypeId) (ht : P.underlying t = some (.slice e)) (hs : ∀ W, (sizeOf e).run P W = .ok sz W) :
    ∃ b o, (∀ k W, (Instr.indexAt t v (.int k i)).run P W = .ok (.pointer (some ⟨b, o, none⟩)) W) ∧ (∀ j u, j < sz → xs[i * sz + j]? = some u → w.cell? ⟨b, o + j, none⟩ = some u) := by
  obtain ⟨⟨a, c, rfl, h3, h4, h0, hz, h5⟩, h6⟩ := h
  obtain ⟨b, off, rfl, h9⟩ := h5 (by rw [h6]; exact Nat.mul_pos (by omega) hs0)
  refine ⟨b, off + i * sz, fun k W => ?_, fun j u _ hj => ?_⟩
  · simp [Instr.indexAt, asIntOf, run_underlying ht, hs, Addr.add_lit]
    intro hh; omega
  · have := h9 _ _ hj
    rw [show off + i * sz + j = off + (i * sz + j) from by omega]
    exact this

/-- A row that the call owns. -/
theorem Row.ofOwns {B : Nat} {e : TypeId} (h : w.ownsRow B e sz v n xs) (hn : n ≤ 281474976710656) : Row sz w v n xs := by
  obtain ⟨h1, h2⟩ := h
  rcases h2 with ⟨rfl, rfl⟩ | ⟨g, cap, cur, rfl, h3, h4, h5, h6, h7, h8⟩
  · exact ⟨⟨none, 0, rfl, by omega, by simp, by omega, fun _ => rfl, fun h => by rw [h1] at h; simp at h⟩, h1⟩
  · refine ⟨⟨_, cap, rfl, h5, h6, hn, (fun e => by cases e), fun _ => ⟨g, 0, rfl, fun j u hj => ?_⟩⟩, h1⟩
    rw [← h8, List.getElem?_take] at hj
    split at hj
    · simp [World.cell?, h4]
      simpa using hj
    · cases hj

/-- A slice made of cells written out: the walk's own form. -/
theorem Row.ofBuild (w : World) (cs : Array Value) (e : TypeId) (n : Nat) (hs : cs.size = n * sz) (hn : n ≤ 281474976710656) (mark : Nat × Nat := (0, 0)) :
    Row sz (w.alloc (.cells cs e mark)) (.slice (some ⟨w.heap.size, 0, none⟩) n n) n cs.toList := by
  refine ⟨⟨_, n, rfl, Nat.le_refl _, by unfold maxLen; omega, hn, (fun e => by cases e), fun _ => ⟨w.heap.size, 0, rfl, fun j u hj => ?_⟩⟩, by simp [hs]⟩
  have hn := heap_alloc_new w (.cells cs e mark)
  simp only [World.cell?, hn]
  simpa using hj

end

section
variable {P : Program} {w : World} {v : Value} {l : List UInt8}

/-- The text that bytes are. -/
def text (l : List UInt8) : ByteArray := ⟨l.toArray⟩
theorem text_data (l : List UInt8) : (text l).data.toList = l := by simp [text]
theorem text_size (l : List UInt8) : (text l).size = l.length := by simp [text, ByteArray.size]

theorem Bytes.conv (h : Bytes w v l) (src dst e : TypeId) (hs : P.underlying src = some (.slice e)) (he : P.underlying e = some (.int .u8)) (hd : P.underlying dst = some .string) :
    (convert src dst v).run P w = .ok (.string (text l)) w := by
  obtain ⟨⟨a, c, rfl, h1, h2, h0, hz, h3⟩, h4⟩ := h
  rcases Nat.eq_zero_or_pos l.length with e0 | e0
  · have : l = [] := List.eq_nil_of_length_eq_zero e0
    subst this
    cases a with
    | none => exact run_convert_bytes_nil w src e hs he 0 c dst hd
    | some x =>
      have hl : (loadCells x 0).run P w = .ok (([] : List Int).map (Value.int .u8)).toArray w := by
        have := run_loadCells_list (P := P) w x [] (fun j v hj => by simp at hj)
        simpa using this
      rw [List.length_nil, run_convert_bytes_string w src dst e _ 0 c hs he hd, run_bytesToString w _ 0 c [] hl]
      rfl
  · obtain ⟨b, off, rfl, h9⟩ := h3 (by rw [cellsOf_length]; exact e0)
    have := run_convert_bytes_arg (P := P) w src e hs he b off l.length c (l.map fun x => (x.toNat : Int)) (by simp) (fun i hi => by
      have := h9 i (.int .u8 l[i].toNat) (by simp [cellsOf, hi])
      rw [this]; simp [hi]) dst hd
    rw [this]
    congr 2
    simp [strOfNums, text]
    apply List.ext_getElem
    · simp
    · simp

theorem text_cut (l : List UInt8) (a b : Nat) : (text l).extract a b = text ((l.drop a).take (b - a)) := by
  rw [Lib.extract_eq, text_data]; rfl
theorem text_extract (l : List UInt8) (a : Nat) : (text l).extract a (text l).size = text (l.drop a) := by
  rw [text_cut, text_size, List.take_of_length_le (by simp)]

theorem Bytes.ofOwns {B : Nat} {e : TypeId} (h : w.ownsRow B e 1 v l.length (cellsOf l)) (hn : l.length ≤ 281474976710656) : Bytes w v l := Row.ofOwns h hn

theorem Bytes.len (h : Bytes w v l) (t ty e : TypeId) (ht : P.underlying t = some (.slice e)) (W : World) : (Builtin.len_ #[t] ty #[v]).run P W = .ok (.int .i64 l.length) W := Row.len h t ty e ht W
theorem Bytes.le (h : Bytes w v l) : l.length ≤ 281474976710656 := Row.le h
theorem Bytes.below {w' : World} (h : Bytes w v l) {B : Nat} (hb : Below B w w') (hB : w.heap.size ≤ B) : Bytes w' v l := Row.below h hb hB
theorem Bytes.drew (h : Bytes w v l) : Bytes w.drew v l := Row.later h fun _ _ _ => rfl
theorem Bytes.alloc (h : Bytes w v l) (o : Obj) : Bytes (w.alloc o) v l := Row.below h ((Below.refl w.heap.size w).alloc (Nat.le_refl _) o) (Nat.le_refl _)
theorem Bytes.sub (h : Bytes w v l) (lo hi : Nat) (h1 : lo ≤ hi) (h2 : hi ≤ l.length) (t e : TypeId) (ht : P.underlying t = some (.slice e)) (hs : ∀ W, (sizeOf e).run P W = .ok 1 W) :
    ∃ v', (∀ kl kh W, (Instr.slice t v (some (.int kl lo)) (some (.int kh hi)) none).run P W = .ok v' W) ∧
      (hi = l.length → ∀ kl W, (Instr.slice t v (some (.int kl lo)) none none).run P W = .ok v' W) ∧
      (lo = 0 → ∀ kh W, (Instr.slice t v none (some (.int kh hi)) none).run P W = .ok v' W) ∧
      Bytes w v' ((l.drop lo).take (hi - lo)) := by
  obtain ⟨v', a1, a2, a3, a4⟩ := Row.sub h lo hi h1 h2 t e ht hs
  refine ⟨v', a1, a2, a3, ?_⟩
  unfold Bytes
  have : ((l.drop lo).take (hi - lo)).length = hi - lo := by simp; omega
  rw [this, cellsOf_take, cellsOf_drop]
  simpa using a4
theorem Bytes.at (h : Bytes w v l) (i : Nat) (hi : i < l.length) (t e : TypeId) (ht : P.underlying t = some (.slice e)) (hs : ∀ W, (sizeOf e).run P W = .ok 1 W) :
    ∃ b o, (∀ k W, (Instr.indexAt t v (.int k i)).run P W = .ok (.pointer (some ⟨b, o, none⟩)) W) ∧ w.cell? ⟨b, o, none⟩ = some (.int .u8 l[i].toNat) := by
  obtain ⟨b, o, a1, a2⟩ := Row.at h (by omega) i hi t e ht hs
  exact ⟨b, o, a1, by simpa using a2 0 (.int .u8 l[i].toNat) (by omega) (by simp [cellsOf, hi])⟩

/-- A byte of a list, as a number; 0 behind its end. -/
def nth (l : List UInt8) (i : Nat) : Nat := (l.getD i 0).toNat
theorem nth_lt (l : List UInt8) (i : Nat) : nth l i < 256 := by unfold nth; exact UInt8.toNat_lt _
theorem nth_get {l : List UInt8} {i : Nat} (h : i < l.length) : l[i].toNat = nth l i := by simp [nth, h]

theorem Bytes.atI (h : Bytes w v l) (i : Int) (h0 : 0 ≤ i) (hi : i < l.length) (t e : TypeId) (ht : P.underlying t = some (.slice e)) (hs : ∀ W, (sizeOf e).run P W = .ok 1 W) :
    ∃ b o, (∀ k W, (Instr.indexAt t v (.int k i)).run P W = .ok (.pointer (some ⟨b, o, none⟩)) W) ∧ w.cell? ⟨b, o, none⟩ = some (.int .u8 (nth l i.toNat)) := by
  obtain ⟨k, rfl⟩ := Int.eq_ofNat_of_zero_le h0
  obtain ⟨b, o, a1, a2⟩ := h.at k (by omega) t e ht hs
  rw [nth_get] at a2
  exact ⟨b, o, a1, a2⟩
theorem Bytes.subI (h : Bytes w v l) (lo hi : Int) (h0 : 0 ≤ lo) (h1 : lo ≤ hi) (h2 : hi ≤ l.length) (t e : TypeId) (ht : P.underlying t = some (.slice e)) (hs : ∀ W, (sizeOf e).run P W = .ok 1 W) :
    ∃ v', (∀ kl kh W, (Instr.slice t v (some (.int kl lo)) (some (.int kh hi)) none).run P W = .ok v' W) ∧
      (hi = l.length → ∀ kl W, (Instr.slice t v (some (.int kl lo)) none none).run P W = .ok v' W) ∧
      (lo = 0 → ∀ kh W, (Instr.slice t v none (some (.int kh hi)) none).run P W = .ok v' W) ∧
      Bytes w v' ((l.drop lo.toNat).take (hi - lo).toNat) := by
  obtain ⟨a, rfl⟩ := Int.eq_ofNat_of_zero_le h0
  obtain ⟨b, rfl⟩ := Int.eq_ofNat_of_zero_le (by omega : 0 ≤ hi)
  obtain ⟨v', a1, a2, a3, a4⟩ := h.sub a b (by omega) (by omega) t e ht hs
  refine ⟨v', a1, fun e => a2 (by omega), fun e => a3 (by omega), ?_⟩
  rw [show ((b : Int) - (a : Int)).toNat = b - a from by omega, Int.toNat_natCast]
  exact a4

end
/-- Cells that hold whole numbers. -/
def numsOf (l : List Int) : List Value := l.map fun x => Value.int .i64 x
theorem numsOf_append (l m : List Int) : numsOf (l ++ m) = numsOf l ++ numsOf m := by simp [numsOf]
theorem numsOf_one (l : List Int) : ∀ u ∈ numsOf l, u.oneCell' = true := by
  intro u hu
  simp only [numsOf, List.mem_map] at hu
  obtain ⟨x, _, rfl⟩ := hu
  rfl
/-- A slice of whole numbers. -/
def Nums (w : World) (v : Value) (l : List Int) : Prop := Row 1 w v l.length (numsOf l)
section
variable {P : Program} {w : World} {v : Value} {l : List Int}
theorem Nums.len (h : Nums w v l) (t ty e : TypeId) (ht : P.underlying t = some (.slice e)) (W : World) : (Builtin.len_ #[t] ty #[v]).run P W = .ok (.int .i64 l.length) W := Row.len h t ty e ht W
theorem Nums.le (h : Nums w v l) : l.length ≤ 281474976710656 := Row.le h
theorem Nums.below {w' : World} (h : Nums w v l) {B : Nat} (hb : Below B w w') (hB : w.heap.size ≤ B) : Nums w' v l := Row.below h hb hB
theorem Nums.ofOwns {B : Nat} {e : TypeId} (h : w.ownsRow B e 1 v l.length (numsOf l)) (hn : l.length ≤ 281474976710656) : Nums w v l := Row.ofOwns h hn
theorem Nums.at (h : Nums w v l) (i : Nat) (hi : i < l.length) (t e : TypeId) (ht : P.underlying t = some (.slice e)) (hs : ∀ W, (sizeOf e).run P W = .ok 1 W) :
    ∃ b o, (∀ k W, (Instr.indexAt t v (.int k i)).run P W = .ok (.pointer (some ⟨b, o, none⟩)) W) ∧ w.cell? ⟨b, o, none⟩ = some (.int .i64 l[i]) := by
  obtain ⟨b, o, a1, a2⟩ := Row.at h (by omega) i hi t e ht hs
  exact ⟨b, o, a1, by simpa using a2 0 (.int .i64 l[i]) (by omega) (by simp [numsOf, hi])⟩
theorem Nums.sub (h : Nums w v l) (lo hi : Nat) (h1 : lo ≤ hi) (h2 : hi ≤ l.length) (t e : TypeId) (ht : P.underlying t = some (.slice e)) (hs : ∀ W, (sizeOf e).run P W = .ok 1 W) :
    ∃ v', (∀ kl kh W, (Instr.slice t v (some (.int kl lo)) (some (.int kh hi)) none).run P W = .ok v' W) ∧
      (hi = l.length → ∀ kl W, (Instr.slice t v (some (.int kl lo)) none none).run P W = .ok v' W) ∧
      (lo = 0 → ∀ kh W, (Instr.slice t v none (some (.int kh hi)) none).run P W = .ok v' W) ∧
      Nums w v' ((l.drop lo).take (hi - lo)) := by
  obtain ⟨v', a1, a2, a3, a4⟩ := Row.sub h lo hi h1 h2 t e ht hs
  refine ⟨v', a1, a2, a3, ?_⟩
  unfold Nums
  have : ((l.drop lo).take (hi - lo)).length = hi - lo := by simp; omega
  rw [this]
  simpa [numsOf] using a4
end
/-- Cells that hold texts. -/
def strsOf (l : List (List UInt8)) : List Value := l.map fun x => Value.string (text x)
/-- A slice of texts. -/
def Strs (w : World) (v : Value) (l : List (List UInt8)) : Prop := Row 1 w v l.length (strsOf l)
section
variable {P : Program} {w : World} {v : Value} {l : List (List UInt8)}
theorem Strs.len (h : Strs w v l) (t ty e : TypeId) (ht : P.underlying t = some (.slice e)) (W : World) : (Builtin.len_ #[t] ty #[v]).run P W = .ok (.int .i64 l.length) W := Row.len h t ty e ht W
theorem Strs.le (h : Strs w v l) : l.length ≤ 281474976710656 := Row.le h
theorem Strs.below {w' : World} (h : Strs w v l) {B : Nat} (hb : Below B w w') (hB : w.heap.size ≤ B) : Strs w' v l := Row.below h hb hB
theorem Strs.ofOwns {B : Nat} {e : TypeId} (h : w.ownsRow B e 1 v l.length (strsOf l)) (hn : l.length ≤ 281474976710656) : Strs w v l := Row.ofOwns h hn
theorem Strs.at (h : Strs w v l) (i : Nat) (hi : i < l.length) (t e : TypeId) (ht : P.underlying t = some (.slice e)) (hs : ∀ W, (sizeOf e).run P W = .ok 1 W) :
    ∃ b o, (∀ k W, (Instr.indexAt t v (.int k i)).run P W = .ok (.pointer (some ⟨b, o, none⟩)) W) ∧ w.cell? ⟨b, o, none⟩ = some (.string (text l[i])) := by
  obtain ⟨b, o, a1, a2⟩ := Row.at h (by omega) i hi t e ht hs
  exact ⟨b, o, a1, by simpa using a2 0 (.string (text l[i])) (by omega) (by simp [strsOf, hi])⟩
end
/-- A slice's length. -/
def lenOf : Value → Nat
  | .slice _ n _ => n
  | _ => 0
theorem Row.lenOf {sz n : Nat} {w : World} {v : Value} {xs : List Value} (h : Row sz w v n xs) : lenOf v = n := by
  obtain ⟨⟨a, c, rfl, _⟩, _⟩ := h
  rfl
end Go.Proofs.YthodmdfbahkflaaGreatDoor
namespace Go.Proofs.YthodmdfbahkflaaGreatDoor.Utf
open Go Go.Proofs.YthodmdfbahkflaaGreatDoor
set_option maxRecDepth 100000

/-- How many bytes a character has. -/
def width (c : Nat) : Nat := if c < 128 then 1 else if c < 2048 then 2 else if c < 65536 then 3 else 4

/-- A character of k bytes that may be, or none. -/
def chk (c k : Nat) : Nat × Nat := if fine (c : Int) = true ∧ width c = k then (c, k) else (0, 0)

def val4 (b0 b1 b2 b3 : Nat) : Nat := (b0 - 240) * 262144 + (b1 - 128) * 4096 + (b2 - 128) * 64 + (b3 - 128)

/-- The character that n bytes begin with, of which the first are b0 to b3: and how many bytes it has; none: 0, 0. -/
def runeN (n b0 b1 b2 b3 : Nat) : Nat × Nat :=
  if n = 0 then (0, 0)
  else if b0 < 128 then chk b0 1
  else if b0 < 192 then (0, 0)
  else if b0 < 224 then (if 2 ≤ n ∧ b1 / 64 = 2 then chk ((b0 - 192) * 64 + (b1 - 128)) 2 else (0, 0))
  else if b0 < 240 then (if 3 ≤ n ∧ b1 / 64 = 2 ∧ b2 / 64 = 2 then chk ((b0 - 224) * 4096 + (b1 - 128) * 64 + (b2 - 128)) 3 else (0, 0))
  else if b0 < 248 then (if 4 ≤ n ∧ b1 / 64 = 2 ∧ b2 / 64 = 2 ∧ b3 / 64 = 2 then chk (val4 b0 b1 b2 b3) 4 else (0, 0))
  else (0, 0)

/-- What the program makes of what the language tells: 65533 only of its own bytes. -/
def fin (n b0 b1 b2 : Nat) (d : Nat × Nat) : Nat × Nat :=
  if d.1 = 65533 then (if 3 ≤ n ∧ b0 = 239 ∧ b1 = 191 ∧ b2 = 189 then d else (0, 0))
  else if fine (d.1 : Int) = true then d else (0, 0)
def goN (n b0 b1 b2 b3 : Nat) : Nat × Nat := fin n b0 b1 b2 (Go.Lib.decodeN n b0 b1 b2 b3)

theorem chk_fine {c k : Nat} (h : fine (c : Int) = true) (hw : width c = k) : chk c k = (c, k) := by unfold chk; rw [if_pos ⟨h, hw⟩]
theorem chk_not {c k : Nat} (h : ¬ (fine (c : Int) = true ∧ width c = k)) : chk c k = (0, 0) := by unfold chk; rw [if_neg h]
theorem nfine_iff (c : Nat) : fine (c : Int) = true ↔ (c = 9 ∨ c = 10 ∨ c = 13 ∨ (32 ≤ c ∧ c ≤ 55295) ∨ (57344 ≤ c ∧ c ≤ 65533) ∨ (65536 ≤ c ∧ c ≤ 1114111)) := by rw [fine_iff]; omega

theorem fin_bad {n b0 b1 b2 k : Nat} (h : ¬ (3 ≤ n ∧ b0 = 239 ∧ b1 = 191 ∧ b2 = 189)) : fin n b0 b1 b2 (65533, k) = (0, 0) := by
  unfold fin; simp only [if_true]; rw [if_neg h]
theorem fin_own {n b0 b1 b2 x k : Nat} (h : x = 65533 → 3 ≤ n ∧ b0 = 239 ∧ b1 = 191 ∧ b2 = 189) (hw : fine (x : Int) = true → width x = k) : fin n b0 b1 b2 (x, k) = chk x k := by
  unfold fin
  simp only
  by_cases hx : x = 65533
  · rw [if_pos hx, if_pos (h hx)]
    have hf : fine (x : Int) = true := by rw [nfine_iff]; omega
    rw [chk_fine hf (hw hf)]
  · rw [if_neg hx]
    by_cases hf : fine (x : Int) = true
    · rw [if_pos hf, chk_fine hf (hw hf)]
    · rw [if_neg hf, chk_not (fun e => hf e.1)]

theorem dec_bad {n b0 b1 b2 b3 : Nat} (h0 : 128 ≤ b0) (h1 : ¬ (b0 / 32 = 6 ∧ (1 < n ∧ b1 / 64 = 2))) (h2 : ¬ (b0 / 16 = 14 ∧ (1 < n ∧ b1 / 64 = 2) ∧ (2 < n ∧ b2 / 64 = 2)))
    (h3 : ¬ (b0 / 8 = 30 ∧ (1 < n ∧ b1 / 64 = 2) ∧ (2 < n ∧ b2 / 64 = 2) ∧ (3 < n ∧ b3 / 64 = 2))) : Go.Lib.decodeN n b0 b1 b2 b3 = (65533, 1) := by
  unfold Go.Lib.decodeN
  rw [if_neg (by omega : ¬ b0 < 128), if_neg h1, if_neg h2, if_neg h3]
theorem dec_two {n b0 b1 b2 b3 x : Nat} (h0 : 128 ≤ b0) (h1 : b0 / 32 = 6 ∧ (1 < n ∧ b1 / 64 = 2)) (hx : b0 % 32 * 64 + b1 % 64 = x) :
    Go.Lib.decodeN n b0 b1 b2 b3 = if x ≥ 128 then (x, 2) else (65533, 1) := by
  unfold Go.Lib.decodeN
  rw [if_neg (by omega : ¬ b0 < 128), if_pos h1, hx]
theorem dec_three {n b0 b1 b2 b3 x : Nat} (h0 : 128 ≤ b0) (h1 : ¬ (b0 / 32 = 6 ∧ (1 < n ∧ b1 / 64 = 2))) (h2 : b0 / 16 = 14 ∧ (1 < n ∧ b1 / 64 = 2) ∧ (2 < n ∧ b2 / 64 = 2)) (hx : b0 % 16 * 4096 + b1 % 64 * 64 + b2 % 64 = x) :
    Go.Lib.decodeN n b0 b1 b2 b3 = if x ≥ 2048 ∧ (x < 55296 ∨ (57344 ≤ x ∧ x ≤ 1114111)) then (x, 3) else (65533, 1) := by
  unfold Go.Lib.decodeN
  rw [if_neg (by omega : ¬ b0 < 128), if_neg h1, if_pos h2, hx]
theorem dec_four {n b0 b1 b2 b3 x : Nat} (h0 : 128 ≤ b0) (h1 : ¬ (b0 / 32 = 6 ∧ (1 < n ∧ b1 / 64 = 2))) (h2 : ¬ (b0 / 16 = 14 ∧ (1 < n ∧ b1 / 64 = 2) ∧ (2 < n ∧ b2 / 64 = 2)))
    (h3 : b0 / 8 = 30 ∧ (1 < n ∧ b1 / 64 = 2) ∧ (2 < n ∧ b2 / 64 = 2) ∧ (3 < n ∧ b3 / 64 = 2)) (hx : b0 % 8 * 262144 + b1 % 64 * 4096 + b2 % 64 * 64 + b3 % 64 = x) :
    Go.Lib.decodeN n b0 b1 b2 b3 = if x ≥ 65536 ∧ (x < 55296 ∨ (57344 ≤ x ∧ x ≤ 1114111)) then (x, 4) else (65533, 1) := by
  unfold Go.Lib.decodeN
  rw [if_neg (by omega : ¬ b0 < 128), if_neg h1, if_neg h2, if_pos h3, hx]

theorem width_two {x : Nat} (h : 128 ≤ x) (h' : x < 2048) : width x = 2 := by unfold width; rw [if_neg (by omega), if_pos h']
theorem width_three {x : Nat} (h : 2048 ≤ x) (h' : x < 65536) : width x = 3 := by unfold width; rw [if_neg (by omega), if_neg (by omega), if_pos h']
theorem width_four {x : Nat} (h : 65536 ≤ x) : width x = 4 := by unfold width; rw [if_neg (by omega), if_neg (by omega), if_neg (by omega)]
theorem width_one {x : Nat} (h : x < 128) : width x = 1 := by unfold width; rw [if_pos h]
theorem width_iff (x : Nat) : (width x = 1 ↔ x < 128) ∧ (width x = 2 ↔ 128 ≤ x ∧ x < 2048) ∧ (width x = 3 ↔ 2048 ≤ x ∧ x < 65536) ∧ (width x = 4 ↔ 65536 ≤ x) := by
  rcases (by omega : x < 128 ∨ (128 ≤ x ∧ x < 2048) ∨ (2048 ≤ x ∧ x < 65536) ∨ 65536 ≤ x) with h | ⟨h, h'⟩ | ⟨h, h'⟩ | h
  · rw [width_one h]; omega
  · rw [width_two h h']; omega
  · rw [width_three h h']; omega
  · rw [width_four h]; omega

theorem go_eq (n b0 b1 b2 b3 : Nat) (hn : 1 ≤ n) (h0 : b0 < 256) (h1 : b1 < 256) (h2 : b2 < 256) (h3 : b3 < 256) : goN n b0 b1 b2 b3 = runeN n b0 b1 b2 b3 := by
  unfold goN runeN
  rw [if_neg (by omega : ¬ n = 0)]
  by_cases c0 : b0 < 128
  · rw [if_pos c0]
    have : Go.Lib.decodeN n b0 b1 b2 b3 = (b0, 1) := by unfold Go.Lib.decodeN; rw [if_pos c0]
    rw [this, fin_own (by omega) (fun _ => width_one c0)]
  · rw [if_neg c0]
    by_cases c1 : b0 < 192
    · rw [if_pos c1, dec_bad (by omega) (by omega) (by omega) (by omega), fin_bad (by omega)]
    · rw [if_neg c1]
      by_cases c2 : b0 < 224
      · rw [if_pos c2]
        by_cases e : 2 ≤ n ∧ b1 / 64 = 2
        · obtain ⟨x, hx⟩ : ∃ x, b0 % 32 * 64 + b1 % 64 = x := ⟨_, rfl⟩
          rw [if_pos e, show (b0 - 192) * 64 + (b1 - 128) = x from by omega, dec_two (x := x) (by omega) (by omega) hx]
          by_cases k : x ≥ 128
          · rw [if_pos k, fin_own (by omega) (fun _ => width_two k (by omega))]
          · rw [if_neg k, fin_bad (by omega), chk_not (fun e => by have := (width_iff x).2.1; omega)]
        · rw [if_neg e, dec_bad (by omega) (by omega) (by omega) (by omega), fin_bad (by omega)]
      · rw [if_neg c2]
        by_cases c3 : b0 < 240
        · rw [if_pos c3]
          by_cases e : 3 ≤ n ∧ b1 / 64 = 2 ∧ b2 / 64 = 2
          · obtain ⟨x, hx⟩ : ∃ x, b0 % 16 * 4096 + b1 % 64 * 64 + b2 % 64 = x := ⟨_, rfl⟩
            rw [if_pos e, show (b0 - 224) * 4096 + (b1 - 128) * 64 + (b2 - 128) = x from by omega, dec_three (x := x) (by omega) (by omega) (by omega) hx]
            by_cases k : x ≥ 2048 ∧ (x < 55296 ∨ (57344 ≤ x ∧ x ≤ 1114111))
            · rw [if_pos k, fin_own (by omega) (fun _ => width_three k.1 (by omega))]
            · rw [if_neg k, fin_bad (by omega), chk_not (fun e => by have := (width_iff x).2.2.1; have := (nfine_iff x).1 e.1; omega)]
          · rw [if_neg e, dec_bad (by omega) (by omega) (by omega) (by omega), fin_bad (by omega)]
        · rw [if_neg c3]
          by_cases c4 : b0 < 248
          · rw [if_pos c4]
            by_cases e : 4 ≤ n ∧ b1 / 64 = 2 ∧ b2 / 64 = 2 ∧ b3 / 64 = 2
            · obtain ⟨x, hx⟩ : ∃ x, b0 % 8 * 262144 + b1 % 64 * 4096 + b2 % 64 * 64 + b3 % 64 = x := ⟨_, rfl⟩
              have e0 : b0 - 240 = b0 % 8 := by clear hx; omega
              have e1 : b1 - 128 = b1 % 64 := by clear hx; omega
              have e2 : b2 - 128 = b2 % 64 := by clear hx; omega
              have e3 : b3 - 128 = b3 % 64 := by clear hx; omega
              have hy : val4 b0 b1 b2 b3 = x := by unfold val4; rw [e0, e1, e2, e3]; exact hx
              rw [if_pos e, hy, dec_four (x := x) (by omega) (by omega) (by omega) (by omega) hx]
              by_cases k : x ≥ 65536 ∧ (x < 55296 ∨ (57344 ≤ x ∧ x ≤ 1114111))
              · rw [if_pos k, fin_own (by omega) (fun _ => width_four k.1)]
              · rw [if_neg k, fin_bad (by omega), chk_not (fun e => by have := (width_iff x).2.2.2; have := (nfine_iff x).1 e.1; omega)]
            · rw [if_neg e, dec_bad (by omega) (by omega) (by omega) (by omega), fin_bad (by omega)]
          · rw [if_neg c4, dec_bad (by omega) (by omega) (by omega) (by omega), fin_bad (by omega)]

/-- The same of a list of bytes. -/
def rune (l : List UInt8) : Nat × Nat := runeN l.length (nth l 0) (nth l 1) (nth l 2) (nth l 3)

theorem chk_cases (c k : Nat) : chk c k = (0, 0) ∨ (chk c k = (c, k) ∧ fine (c : Int) = true ∧ width c = k) := by
  unfold chk; split
  · rename_i h; exact .inr ⟨rfl, h.1, h.2⟩
  · exact .inl rfl

/-- Just the first four bytes play a part. -/
theorem runeN_le (n m b0 b1 b2 b3 : Nat) (h : n = m ∨ (4 ≤ n ∧ 4 ≤ m)) : runeN n b0 b1 b2 b3 = runeN m b0 b1 b2 b3 := by
  rcases h with rfl | ⟨h1, h2⟩
  · rfl
  · unfold runeN
    have e0 : (n = 0) = (m = 0) := by simp; omega
    have e2 : (2 ≤ n) = (2 ≤ m) := by simp; omega
    have e3 : (3 ≤ n) = (3 ≤ m) := by simp; omega
    have e4 : (4 ≤ n) = (4 ≤ m) := by simp; omega
    simp only [e0, e2, e3, e4]

/-- A character that is there may be, has as many bytes as its number asks, and these are there. -/
theorem runeN_some (n b0 b1 b2 b3 c k : Nat) (h : runeN n b0 b1 b2 b3 = (c, k)) (hk : k ≠ 0) : fine (c : Int) = true ∧ width c = k ∧ k ≤ n ∧ 1 ≤ k ∧ k ≤ 4 := by
  have key : ∀ x j, j ≤ n → 1 ≤ j → j ≤ 4 → chk x j = (c, k) → fine (c : Int) = true ∧ width c = k ∧ k ≤ n ∧ 1 ≤ k ∧ k ≤ 4 := by
    intro x j h1 h2 h3 h4
    rcases chk_cases x j with e | ⟨e, e1, e2⟩
    · rw [e] at h4; cases h4; exact absurd rfl hk
    · rw [e] at h4; cases h4; exact ⟨e1, e2, h1, h2, h3⟩
  have no : ((0 : Nat), (0 : Nat)) = (c, k) → False := by intro e; cases e; exact hk rfl
  unfold runeN at h
  split at h
  · exact (no h).elim
  · split at h
    · exact key _ 1 (by omega) (by omega) (by omega) h
    · split at h
      · exact (no h).elim
      · split at h
        · split at h
          · exact key _ 2 (by omega) (by omega) (by omega) h
          · exact (no h).elim
        · split at h
          · split at h
            · exact key _ 3 (by omega) (by omega) (by omega) h
            · exact (no h).elim
          · split at h
            · split at h
              · exact key _ 4 (by omega) (by omega) (by omega) h
              · exact (no h).elim
            · exact (no h).elim
theorem runeN_none (n b0 b1 b2 b3 : Nat) (h : (runeN n b0 b1 b2 b3).2 = 0) : runeN n b0 b1 b2 b3 = (0, 0) := by
  have key : ∀ x j, 1 ≤ j → (chk x j).2 = 0 → chk x j = (0, 0) := by
    intro x j hj hx
    rcases chk_cases x j with e | ⟨e, _⟩
    · exact e
    · rw [e] at hx; simp at hx; omega
  revert h
  unfold runeN
  repeat' split
  all_goals intro h
  all_goals first | rfl | exact key _ _ (by omega) h

theorem rune_some {l : List UInt8} {c k : Nat} (h : rune l = (c, k)) (hk : k ≠ 0) : fine (c : Int) = true ∧ width c = k ∧ k ≤ l.length ∧ 1 ≤ k ∧ k ≤ 4 := runeN_some _ _ _ _ _ _ _ h hk
theorem rune_none {l : List UInt8} (h : (rune l).2 = 0) : rune l = (0, 0) := runeN_none _ _ _ _ _ h
theorem rune_le (l : List UInt8) : (rune l).2 ≤ l.length ∧ (rune l).2 ≤ 4 := by
  by_cases h : (rune l).2 = 0
  · omega
  · have := rune_some (l := l) (c := (rune l).1) (k := (rune l).2) rfl h
    omega

/-- The first place at which a character should begin and none does; how many bytes there are, if there is none. -/
def checkF : Nat → List UInt8 → Nat
  | 0, _ => 0
  | f + 1, l => if (rune l).2 = 0 then 0 else (rune l).2 + checkF f (l.drop (rune l).2)
def check (l : List UInt8) : Nat := checkF l.length l

theorem checkF_eq : ∀ (f g : Nat) (l : List UInt8), l.length ≤ f → l.length ≤ g → checkF f l = checkF g l
  | 0, g, l, h, _ => by
    have : l = [] := List.eq_nil_of_length_eq_zero (by omega)
    subst this
    cases g <;> simp [checkF, rune, runeN]
  | f + 1, 0, l, _, h => by
    have : l = [] := List.eq_nil_of_length_eq_zero (by omega)
    subst this
    simp [checkF, rune, runeN]
  | f + 1, g + 1, l, h, h' => by
    unfold checkF
    split
    · rfl
    · rename_i hk
      have := rune_le l
      rw [checkF_eq f g (l.drop (rune l).2) (by simp; omega) (by simp; omega)]
theorem check_nil : check [] = 0 := rfl
theorem check_stop {l : List UInt8} (h : (rune l).2 = 0) : check l = 0 := by
  unfold check
  cases hl : l.length with
  | zero => rfl
  | succ n => simp [checkF, h]
theorem check_step {l : List UInt8} (h : (rune l).2 ≠ 0) : check l = (rune l).2 + check (l.drop (rune l).2) := by
  have h1 := rune_le l
  unfold check
  cases hl : l.length with
  | zero => omega
  | succ n =>
    rw [checkF, if_neg h]
    rw [checkF_eq n (l.drop (rune l).2).length _ (by simp; omega) (by simp)]
theorem check_le (l : List UInt8) : check l ≤ l.length := by
  generalize hn : l.length = n
  induction n using Nat.strongRecOn generalizing l with
  | _ n ih =>
    by_cases h : (rune l).2 = 0
    · rw [check_stop h]; omega
    · rw [check_step h]
      have h1 := rune_le l
      have := ih (l.drop (rune l).2).length (by simp; omega) _ rfl
      simp at this; omega
end Go.Proofs.YthodmdfbahkflaaGreatDoor.Utf
