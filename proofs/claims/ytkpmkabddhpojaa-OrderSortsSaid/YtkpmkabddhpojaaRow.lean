/- Slices told by what they hold, over any program: a slice's value stays a variable; what the walk asks of it (its length, a piece of it, an element's place, its text) are equations that this text gives. -/
import Derived.WalkKit
import Derived.Laws.BytesArg
import Derived.Lib.Strings
set_option linter.unusedVariables false
set_option linter.unusedSimpArgs false
namespace Go.Proofs.Ytkpmkabddhpojaa
open Go Go.RowKit

/-- A fact kept from the walk. -/
theorem hid {p : Prop} (h : p) : Hid p := h

/-- Two steps, one behind the other. -/
theorem bt {a b c : World} (h : Below a.heap.size a b) (k : Below b.heap.size b c) : Below a.heap.size a c := h.trans (k.mono h.size)
theorem b0 (a : World) : Below a.heap.size a a := Below.refl _ _
theorem ba {a b : World} (h : Below a.heap.size a b) (o : Obj) : Below a.heap.size a (b.alloc o) := h.alloc h.size o

/-- The slice v holds n elements of sz cells each, the cells xs, in the world w. -/
structure Row (sz : Nat) (w : World) (v : Value) (n : Nat) (xs : List Value) : Prop where
  form : ∃ a c, v = .slice a n c ∧ n ≤ c ∧ c ≤ maxLen ∧ n ≤ 281474976710656 ∧ (a = none → c = 0) ∧ (0 < xs.length → ∃ b off, a = some ⟨b, off, none⟩ ∧ ∀ j u, xs[j]? = some u → w.cell? ⟨b, off + j, none⟩ = some u)
  size : xs.length = n * sz

/-- Cells that hold bytes. -/
def cellsOf (l : List UInt8) : List Value := l.map fun x => Value.int .u8 x.toNat
theorem cellsOf_length (l : List UInt8) : (cellsOf l).length = l.length := by simp [cellsOf]
theorem cellsOf_append (l m : List UInt8) : cellsOf (l ++ m) = cellsOf l ++ cellsOf m := by simp [cellsOf]
theorem cellsOf_drop (l : List UInt8) (k : Nat) : cellsOf (l.drop k) = (cellsOf l).drop k := by simp [cellsOf]
theorem cellsOf_take (l : List UInt8) (k : Nat) : cellsOf (l.take k) = (cellsOf l).take k := by simp [cellsOf]
/-- A slice of bytes. -/
def Bytes (w : World) (v : Value) (l : List UInt8) : Prop := Row 1 w v l.length (cellsOf l)

section
variable {P : Program} {sz : Nat} {w : World} {v : Value} {n : Nat} {xs : List Value}

theorem Row.nil (sz : Nat) (w : World) : Row sz w (.slice none 0 0) 0 [] := ⟨⟨none, 0, rfl, by simp, by simp, by simp, fun _ => rfl, fun h => by simp at h⟩, by simp⟩

theorem Row.le (h : Row sz w v n xs) : n ≤ 281474976710656 := by
  obtain ⟨⟨a, c, rfl, h1, h2, h3, _⟩, _⟩ := h
  exact h3

theorem Row.len (h : Row sz w v n xs) (t ty e : TypeId) (ht : P.underlying t = some (.slice e)) (W : World) : (Builtin.len_ #[t] ty #[v]).run P W = .ok (.int .i64 n) W := by
  obtain ⟨⟨a, c, rfl, _⟩, _⟩ := h
  simp [Builtin.len_, run_underlying ht, goInt]

/-- It is the same in a world in which the old blocks' cells read as they did. -/
theorem Row.later {w' : World} (h : Row sz w v n xs) (hc : ∀ b o, b < w.heap.size → w'.cell? ⟨b, o, none⟩ = w.cell? ⟨b, o, none⟩) : Row sz w' v n xs := by
  obtain ⟨⟨a, c, rfl, h1, h2, h0, hz, h3⟩, h4⟩ := h
  refine ⟨⟨a, c, rfl, h1, h2, h0, hz, fun hx => ?_⟩, h4⟩
  obtain ⟨b, off, rfl, h9⟩ := h3 hx
  refine ⟨b, off, rfl, fun j u hj => ?_⟩
  have := h9 j u hj
  rw [hc b _ (World.block_lt_of_cell? _ _ this)]
  exact this
theorem Row.below {w' : World} (h : Row sz w v n xs) {B : Nat} (hb : Below B w w') (hB : w.heap.size ≤ B) : Row sz w' v n xs :=
  h.later fun b o hl => hb.cell (p := ⟨b, o, none⟩) (by show b < B; omega)

theorem get_sub (xs : List Value) (a k j : Nat) (u : Value) (h : ((xs.drop a).take k)[j]? = some u) : xs[a + j]? = some u := by
  rw [List.getElem?_take] at h
  split at h
  · rw [List.getElem?_drop] at h; exact h
  · cases h

/-- A piece of it. -/
theorem Row.sub (h : Row sz w v n xs) (lo hi : Nat) (h1 : lo ≤ hi) (h2 : hi ≤ n) (t e : TypeId) (ht : P.underlying t = some (.slice e)) (hs : ∀ W, (sizeOf e).run P W = .ok sz W) :
    ∃ v', (∀ kl kh W, (Instr.slice t v (some (.int kl lo)) (some (.int kh hi)) none).run P W = .ok v' W) ∧
      (hi = n → ∀ kl W, (Instr.slice t v (some (.int kl lo)) none none).run P W = .ok v' W) ∧
      (lo = 0 → ∀ kh W, (Instr.slice t v none (some (.int kh hi)) none).run P W = .ok v' W) ∧
      Row sz w v' (hi - lo) ((xs.drop (lo * sz)).take ((hi - lo) * sz)) := by
  obtain ⟨⟨a, c, rfl, h3, h4, h0, hz, h5⟩, h6⟩ := h
  have hs' : ∀ W, (sizeOf e).run P W = .ok sz W := hs
  have e1 : (lo : Int).toNat = lo := by simp
  have e2 : (hi : Int).toNat = hi := by simp
  have hh0 : (0 : Int) ≤ (hi : Int) := by omega
  have hl0 : (0 : Int) ≤ (lo : Int) := by omega
  have hlh : (lo : Int) ≤ (hi : Int) := by omega
  have hhc : (hi : Int) ≤ (c : Int) := by omega
  refine ⟨sliced a lo hi c sz, ?_, ?_, ?_, ?_⟩
  · intro kl kh W
    simp [Instr.slice, run_underlying ht, Instr.sliceBounds, run_sliceBound, sliced, hs', hhc, hlh]
  · intro hn kl W
    have hln : (lo : Int) ≤ (n : Int) := by omega
    simp [Instr.slice, run_underlying ht, Instr.sliceBounds, run_sliceBound, sliced, hs', hln, hn]
  · intro hn kh W
    simp [Instr.slice, run_underlying ht, Instr.sliceBounds, run_sliceBound, sliced, hs', hhc, hn]
  · have hlen : ((xs.drop (lo * sz)).take ((hi - lo) * sz)).length = (hi - lo) * sz := by
      have : hi * sz ≤ n * sz := Nat.mul_le_mul_right _ h2
      have h9 : (hi - lo) * sz = hi * sz - lo * sz := Nat.sub_mul _ _ _
      simp [h6]; omega
    refine ⟨⟨_, _, rfl, by omega, by omega, by omega, fun e => ?_, fun hx => ?_⟩, hlen⟩
    · by_cases hc : c = lo
      · omega
      · rw [if_neg hc] at e
        have := hz (by simpa using e); omega
    · obtain ⟨b, off, rfl, h9⟩ := h5 (by rw [hlen] at hx; rw [h6]; exact Nat.lt_of_lt_of_le hx (Nat.mul_le_mul_right _ (by omega)))
      have hne : c ≠ lo := by
        intro e
        have : hi - lo = 0 := by omega
        rw [hlen, this] at hx; simp at hx
      refine ⟨b, off + lo * sz, by simp [hne, Addr.add_lit], fun j u hj => ?_⟩
      have := h9 _ _ (get_sub _ _ _ _ _ hj)
      rw [show off + lo * sz + j = off + (lo * sz + j) from by omega]
      exact this

/-- An element's place. -/
theorem Row.at (h : Row sz w v n xs) (hs0 : 0 < sz) (i : Nat) (hi : i < n) (t e : TypeId) (ht : P.underlying t = some (.slice e)) (hs : ∀ W, (sizeOf e).run P W = .ok sz W) :
    ∃ b o, (∀ k W, (Instr.indexAt t v (.int k i)).run P W = .ok (.pointer (some ⟨b, o, none⟩)) W) ∧ (∀ j u, j < sz → xs[i * sz + j]? = some u → w.cell? ⟨b, o + j, none⟩ = some u) := by
  obtain ⟨⟨a, c, rfl, h3, h4, h0, hz, h5⟩, h6⟩ := h
  obtain ⟨b, off, rfl, h9⟩ := h5 (by rw [h6]; exact Nat.mul_pos (by omega) hs0)
  refine ⟨b, off + i * sz, fun k W => ?_, fun j u _ hj => ?_⟩
  · simp [Instr.indexAt, asIntOf, run_underlying ht, hs, Addr.add_lit]
    intro hh; omega
  · have := h9 _ _ hj
    rw [show off + i * sz + j = off + (i * sz + j) from by omega]
    exact this

/-- A row that the call owns. -/
theorem Row.ofOwns {B : Nat} {e : TypeId} (h : w.ownsRow B e sz v n xs) (hn : n ≤ 281474976710656) : Row sz w v n xs := by
  obtain ⟨h1, h2⟩ := h
  rcases h2 with ⟨rfl, rfl⟩ | ⟨g, cap, cur, rfl, h3, h4, h5, h6, h7, h8⟩
  · exact ⟨⟨none, 0, rfl, by omega, by simp, by omega, fun _ => rfl, fun h => by rw [h1] at h; simp at h⟩, h1⟩
  · refine ⟨⟨_, cap, rfl, h5, h6, hn, (fun e => by cases e), fun _ => ⟨g, 0, rfl, fun j u hj => ?_⟩⟩, h1⟩
    rw [← h8, List.getElem?_take] at hj
    split at hj
    · simp [World.cell?, h4]
      simpa using hj
    · cases hj

/-- A slice made of cells written out: the walk's own form. -/
theorem Row.ofBuild (w : World) (cs : Array Value) (e : TypeId) (n : Nat) (hs : cs.size = n * sz) (hn : n ≤ 281474976710656) (mark : Nat × Nat := (0, 0)) :
    Row sz (w.alloc (.cells cs e mark)) (.slice (some ⟨w.heap.size, 0, none⟩) n n) n cs.toList := by
  refine ⟨⟨_, n, rfl, Nat.le_refl _, by unfold maxLen; omega, hn, (fun e => by cases e), fun _ => ⟨w.heap.size, 0, rfl, fun j u hj => ?_⟩⟩, by simp [hs]⟩
  have hn := heap_alloc_new w (.cells cs e mark)
  simp only [World.cell?, hn]
  simpa using hj

end

section
variable {P : Program} {w : World} {v : Value} {l : List UInt8}

/-- The text that bytes are. -/
def text (l : List UInt8) : ByteArray := ⟨l.toArray⟩
theorem text_data (l : List UInt8) : (text l).data.toList = l := by simp [text]
theorem text_size (l : List UInt8) : (text l).size = l.length := by simp [text, ByteArray.size]

theorem Bytes.conv (h : Bytes w v l) (src dst e : TypeId) (hs : P.underlying src = some (.slice e)) (he : P.underlying e = some (.int .u8)) (hd : P.underlying dst = some .string) :
    (convert src dst v).run P w = .ok (.string (text l)) w := by
  obtain ⟨⟨a, c, rfl, h1, h2, h0, hz, h3⟩, h4⟩ := h
  rcases Nat.eq_zero_or_pos l.length with e0 | e0
  · have : l = [] := List.eq_nil_of_length_eq_zero e0
    subst this
    cases a with
    | none => exact run_convert_bytes_nil w src e hs he 0 c dst hd
    | some x =>
      have hl : (loadCells x 0).run P w = .ok (([] : List Int).map (Value.int .u8)).toArray w := by
        have := run_loadCells_list (P := P) w x [] (fun j v hj => by simp at hj)
        simpa using this
      rw [List.length_nil, run_convert_bytes_string w src dst e _ 0 c hs he hd, run_bytesToString w _ 0 c [] hl]
      rfl
  · obtain ⟨b, off, rfl, h9⟩ := h3 (by rw [cellsOf_length]; exact e0)
    have := run_convert_bytes_arg (P := P) w src e hs he b off l.length c (l.map fun x => (x.toNat : Int)) (by simp) (fun i hi => by
      have := h9 i (.int .u8 l[i].toNat) (by simp [cellsOf, hi])
      rw [this]; simp [hi]) dst hd
    rw [this]
    congr 2
    simp [strOfNums, text]
    apply List.ext_getElem
    · simp
    · simp

theorem text_cut (l : List UInt8) (a b : Nat) : (text l).extract a b = text ((l.drop a).take (b - a)) := by
  rw [Lib.extract_eq, text_data]; rfl
theorem text_extract (l : List UInt8) (a : Nat) : (text l).extract a (text l).size = text (l.drop a) := by
  rw [text_cut, text_size, List.take_of_length_le (by simp)]

theorem Bytes.ofOwns {B : Nat} {e : TypeId} (h : w.ownsRow B e 1 v l.length (cellsOf l)) (hn : l.length ≤ 281474976710656) : Bytes w v l := Row.ofOwns h hn

theorem Bytes.len (h : Bytes w v l) (t ty e : TypeId) (ht : P.underlying t = some (.slice e)) (W : World) : (Builtin.len_ #[t] ty #[v]).run P W = .ok (.int .i64 l.length) W := Row.len h t ty e ht W
theorem Bytes.le (h : Bytes w v l) : l.length ≤ 281474976710656 := Row.le h
theorem Bytes.below {w' : World} (h : Bytes w v l) {B : Nat} (hb : Below B w w') (hB : w.heap.size ≤ B) : Bytes w' v l := Row.below h hb hB
theorem Bytes.drew (h : Bytes w v l) : Bytes w.drew v l := Row.later h fun _ _ _ => rfl
theorem Bytes.alloc (h : Bytes w v l) (o : Obj) : Bytes (w.alloc o) v l := Row.below h ((Below.refl w.heap.size w).alloc (Nat.le_refl _) o) (Nat.le_refl _)
theorem Bytes.sub (h : Bytes w v l) (lo hi : Nat) (h1 : lo ≤ hi) (h2 : hi ≤ l.length) (t e : TypeId) (ht : P.underlying t = some (.slice e)) (hs : ∀ W, (sizeOf e).run P W = .ok 1 W) :
    ∃ v', (∀ kl kh W, (Instr.slice t v (some (.int kl lo)) (some (.int kh hi)) none).run P W = .ok v' W) ∧
      (hi = l.length → ∀ kl W, (Instr.slice t v (some (.int kl lo)) none none).run P W = .ok v' W) ∧
      (lo = 0 → ∀ kh W, (Instr.slice t v none (some (.int kh hi)) none).run P W = .ok v' W) ∧
      Bytes w v' ((l.drop lo).take (hi - lo)) := by
  obtain ⟨v', a1, a2, a3, a4⟩ := Row.sub h lo hi h1 h2 t e ht hs
  refine ⟨v', a1, a2, a3, ?_⟩
  unfold Bytes
  have : ((l.drop lo).take (hi - lo)).length = hi - lo := by simp; omega
  rw [this, cellsOf_take, cellsOf_drop]
  simpa using a4
theorem Bytes.at (h : Bytes w v l) (i : Nat) (hi : i < l.length) (t e : TypeId) (ht : P.underlying t = some (.slice e)) (hs : ∀ W, (sizeOf e).run P W = .ok 1 W) :
    ∃ b o, (∀ k W, (Instr.indexAt t v (.int k i)).run P W = .ok (.pointer (some ⟨b, o, none⟩)) W) ∧ w.cell? ⟨b, o, none⟩ = some (.int .u8 l[i].toNat) := by
  obtain ⟨b, o, a1, a2⟩ := Row.at h (by omega) i hi t e ht hs
  exact ⟨b, o, a1, by simpa using a2 0 (.int .u8 l[i].toNat) (by omega) (by simp [cellsOf, hi])⟩

/-- A byte of a list, as a number; 0 behind its end. -/
def nth (l : List UInt8) (i : Nat) : Nat := (l.getD i 0).toNat
theorem nth_lt (l : List UInt8) (i : Nat) : nth l i < 256 := by unfold nth; exact UInt8.toNat_lt _
theorem nth_get {l : List UInt8} {i : Nat} (h : i < l.length) : l[i].toNat = nth l i := by simp [nth, h]

theorem Bytes.atI (h : Bytes w v l) (i : Int) (h0 : 0 ≤ i) (hi : i < l.length) (t e : TypeId) (ht : P.underlying t = some (.slice e)) (hs : ∀ W, (sizeOf e).run P W = .ok 1 W) :
    ∃ b o, (∀ k W, (Instr.indexAt t v (.int k i)).run P W = .ok (.pointer (some ⟨b, o, none⟩)) W) ∧ w.cell? ⟨b, o, none⟩ = some (.int .u8 (nth l i.toNat)) := by
  obtain ⟨k, rfl⟩ := Int.eq_ofNat_of_zero_le h0
  obtain ⟨b, o, a1, a2⟩ := h.at k (by omega) t e ht hs
  rw [nth_get] at a2
  exact ⟨b, o, a1, a2⟩
theorem Bytes.subI (h : Bytes w v l) (lo hi : Int) (h0 : 0 ≤ lo) (h1 : lo ≤ hi) (h2 : hi ≤ l.length) (t e : TypeId) (ht : P.underlying t = some (.slice e)) (hs : ∀ W, (sizeOf e).run P W = .ok 1 W) :
    ∃ v', (∀ kl kh W, (Instr.slice t v (some (.int kl lo)) (some (.int kh hi)) none).run P W = .ok v' W) ∧
      (hi = l.length → ∀ kl W, (Instr.slice t v (some (.int kl lo)) none none).run P W = .ok v' W) ∧
      (lo = 0 → ∀ kh W, (Instr.slice t v none (some (.int kh hi)) none).run P W = .ok v' W) ∧
      Bytes w v' ((l.drop lo.toNat).take (hi - lo).toNat) := by
  obtain ⟨a, rfl⟩ := Int.eq_ofNat_of_zero_le h0
  obtain ⟨b, rfl⟩ := Int.eq_ofNat_of_zero_le (by omega : 0 ≤ hi)
  obtain ⟨v', a1, a2, a3, a4⟩ := h.sub a b (by omega) (by omega) t e ht hs
  refine ⟨v', a1, fun e => a2 (by omega), fun e => a3 (by omega), ?_⟩
  rw [show ((b : Int) - (a : Int)).toNat = b - a from by omega, Int.toNat_natCast]
  exact a4

end
/-- Cells that hold whole numbers. -/
def numsOf (l : List Int) : List Value := l.map fun x => Value.int .i64 x
theorem numsOf_length (l : List Int) : (numsOf l).length = l.length := by simp [numsOf]
theorem numsOf_append (l m : List Int) : numsOf (l ++ m) = numsOf l ++ numsOf m := by simp [numsOf]
theorem numsOf_one (l : List Int) : ∀ u ∈ numsOf l, u.oneCell' = true := by
  intro u hu
  simp only [numsOf, List.mem_map] at hu
  obtain ⟨x, _, rfl⟩ := hu
  rfl
/-- A slice of whole numbers. -/
def Nums (w : World) (v : Value) (l : List Int) : Prop := Row 1 w v l.length (numsOf l)
section
variable {P : Program} {w : World} {v : Value} {l : List Int}
theorem Nums.len (h : Nums w v l) (t ty e : TypeId) (ht : P.underlying t = some (.slice e)) (W : World) : (Builtin.len_ #[t] ty #[v]).run P W = .ok (.int .i64 l.length) W := Row.len h t ty e ht W
theorem Nums.le (h : Nums w v l) : l.length ≤ 281474976710656 := Row.le h
theorem Nums.below {w' : World} (h : Nums w v l) {B : Nat} (hb : Below B w w') (hB : w.heap.size ≤ B) : Nums w' v l := Row.below h hb hB
theorem Nums.ofOwns {B : Nat} {e : TypeId} (h : w.ownsRow B e 1 v l.length (numsOf l)) (hn : l.length ≤ 281474976710656) : Nums w v l := Row.ofOwns h hn
theorem Nums.at (h : Nums w v l) (i : Nat) (hi : i < l.length) (t e : TypeId) (ht : P.underlying t = some (.slice e)) (hs : ∀ W, (sizeOf e).run P W = .ok 1 W) :
    ∃ b o, (∀ k W, (Instr.indexAt t v (.int k i)).run P W = .ok (.pointer (some ⟨b, o, none⟩)) W) ∧ w.cell? ⟨b, o, none⟩ = some (.int .i64 l[i]) := by
  obtain ⟨b, o, a1, a2⟩ := Row.at h (by omega) i hi t e ht hs
  exact ⟨b, o, a1, by simpa using a2 0 (.int .i64 l[i]) (by omega) (by simp [numsOf, hi])⟩
theorem Nums.sub (h : Nums w v l) (lo hi : Nat) (h1 : lo ≤ hi) (h2 : hi ≤ l.length) (t e : TypeId) (ht : P.underlying t = some (.slice e)) (hs : ∀ W, (sizeOf e).run P W = .ok 1 W) :
    ∃ v', (∀ kl kh W, (Instr.slice t v (some (.int kl lo)) (some (.int kh hi)) none).run P W = .ok v' W) ∧
      (hi = l.length → ∀ kl W, (Instr.slice t v (some (.int kl lo)) none none).run P W = .ok v' W) ∧
      (lo = 0 → ∀ kh W, (Instr.slice t v none (some (.int kh hi)) none).run P W = .ok v' W) ∧
      Nums w v' ((l.drop lo).take (hi - lo)) := by
  obtain ⟨v', a1, a2, a3, a4⟩ := Row.sub h lo hi h1 h2 t e ht hs
  refine ⟨v', a1, a2, a3, ?_⟩
  unfold Nums
  have : ((l.drop lo).take (hi - lo)).length = hi - lo := by simp; omega
  rw [this]
  simpa [numsOf] using a4
end
/-- Cells that hold texts. -/
def strsOf (l : List (List UInt8)) : List Value := l.map fun x => Value.string (text x)
theorem strsOf_length (l : List (List UInt8)) : (strsOf l).length = l.length := by simp [strsOf]
theorem strsOf_append (l m : List (List UInt8)) : strsOf (l ++ m) = strsOf l ++ strsOf m := by simp [strsOf]
theorem strsOf_one (l : List (List UInt8)) : ∀ u ∈ strsOf l, u.oneCell' = true := by
  intro u hu
  simp only [strsOf, List.mem_map] at hu
  obtain ⟨x, _, rfl⟩ := hu
  rfl
/-- A slice of texts. -/
def Strs (w : World) (v : Value) (l : List (List UInt8)) : Prop := Row 1 w v l.length (strsOf l)
section
variable {P : Program} {w : World} {v : Value} {l : List (List UInt8)}
theorem Strs.len (h : Strs w v l) (t ty e : TypeId) (ht : P.underlying t = some (.slice e)) (W : World) : (Builtin.len_ #[t] ty #[v]).run P W = .ok (.int .i64 l.length) W := Row.len h t ty e ht W
theorem Strs.le (h : Strs w v l) : l.length ≤ 281474976710656 := Row.le h
theorem Strs.below {w' : World} (h : Strs w v l) {B : Nat} (hb : Below B w w') (hB : w.heap.size ≤ B) : Strs w' v l := Row.below h hb hB
theorem Strs.ofOwns {B : Nat} {e : TypeId} (h : w.ownsRow B e 1 v l.length (strsOf l)) (hn : l.length ≤ 281474976710656) : Strs w v l := Row.ofOwns h hn
theorem Strs.at (h : Strs w v l) (i : Nat) (hi : i < l.length) (t e : TypeId) (ht : P.underlying t = some (.slice e)) (hs : ∀ W, (sizeOf e).run P W = .ok 1 W) :
    ∃ b o, (∀ k W, (Instr.indexAt t v (.int k i)).run P W = .ok (.pointer (some ⟨b, o, none⟩)) W) ∧ w.cell? ⟨b, o, none⟩ = some (.string (text l[i])) := by
  obtain ⟨b, o, a1, a2⟩ := Row.at h (by omega) i hi t e ht hs
  exact ⟨b, o, a1, by simpa using a2 0 (.string (text l[i])) (by omega) (by simp [strsOf, hi])⟩
end
/-- A slice's length. -/
def lenOf : Value → Nat
  | .slice _ n _ => n
  | _ => 0
theorem Row.lenOf {sz n : Nat} {w : World} {v : Value} {xs : List Value} (h : Row sz w v n xs) : lenOf v = n := by
  obtain ⟨⟨a, c, rfl, _⟩, _⟩ := h
  rfl
end Go.Proofs.Ytkpmkabddhpojaa
