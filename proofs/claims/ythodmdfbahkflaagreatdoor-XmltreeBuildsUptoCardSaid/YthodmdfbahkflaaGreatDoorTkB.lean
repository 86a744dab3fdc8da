/- Layer 4: the library's functions of two slices of bytes, told by rows: bytes.HasPrefix, bytes.Cut; strings.Cut at any text. | Layer 4: the reader and its cursor, told by what they hold; contracts of done, missing, begins, take, ask. | Layer 4: contracts of take, ask. | Layer 4: contract of named; what a name is made of. | Layer 4: a map of the names that stand ahead in a tag; what is between the blocks that a call may change. | Layer 4: contract of blanks. | Rows of tokens and of their attributes, told by what they hold; and how they come in as arguments. | Rows of tokens that a call builds: it owns the tokens' row and each row of attributes. -/
import Derived.Test.YthodmdfbahkflaaGreatDoorTkA
import Derived.Test.YthodmdfbahkflaaGreatDoorPk2
import Derived.Test.YthodmdfbahkflaaGreatDoorShelf
import Derived.Test.YthodmdfbahkflaaGreatDoorShelf2
import Derived.WalkSmall
import Derived.Test.YthodmdfbahkflaaGreatDoorPk3
import Derived.Deep.LoopGhost
import Derived.Deep.QuietTactic
import Derived.BigQuiet
import Derived.Test.YthodmdfbahkflaaGreatDoorPk4
import Derived.Maps.Views
import Derived.Laws.ResultCell
import Derived.Test.YthodmdfbahkflaaGreatDoorRows
import Derived.Deep.Fields
set_option linter.unusedVariables false
set_option linter.unusedSimpArgs false
namespace Go.Proofs.YthodmdfbahkflaaGreatDoor.Tok
open Go Go.Proofs.YthodmdfbahkflaaGreatDoor Go.Proofs.YthodmdfbahkflaaGreatDoor.Utf Go.Proofs.YthodmdfbahkflaaGreatDoor.Names Go.Proofs.YthodmdfbahkflaaGreatDoor.Ent Go.RowKit
set_option maxRecDepth 100000

def intsOf (l : List UInt8) : List Int := l.map fun x => (x.toNat : Int)
theorem intsOf_length (l : List UInt8) : (intsOf l).length = l.length := by simp [intsOf]
theorem bytesOf_ints (l : List UInt8) : Lib.bytesOf (intsOf l) = l := by
  unfold Lib.bytesOf intsOf
  rw [List.map_map]
  conv => rhs; rw [← List.map_id l]
  refine List.map_congr_left fun x _ => ?_
  simp
theorem intsOf_byte (l : List UInt8) : ∀ x ∈ intsOf l, 0 ≤ x ∧ x < 256 := by
  intro x hx
  simp only [intsOf, List.mem_map] at hx
  obtain ⟨b, _, rfl⟩ := hx
  have := UInt8.toNat_lt b
  omega
/-- A row of bytes in the library's words. -/
theorem bytesIn {w : World} {v : Value} {l : List UInt8} (h : Bytes w v l) : ∃ p c, v = .slice p l.length c ∧ l.length ≤ c ∧ (p = none → c = 0) ∧ Lib.BytesIn w p l.length (intsOf l) := by
  obtain ⟨⟨a, c, rfl, h1, h2, h3, hz, h4⟩, h5⟩ := h
  refine ⟨a, c, rfl, h1, hz, fun hn => ?_⟩
  obtain ⟨b, off, rfl, h9⟩ := h4 (by rw [cellsOf_length]; exact hn)
  refine ⟨b, off, rfl, fun i hi => ?_⟩
  have := h9 i (.int .u8 l[i].toNat) (by simp [cellsOf, hi])
  rw [this]
  simp [intsOf, List.getD, List.getElem?_eq_getElem hi]

theorem HasPrefix_row {v u : Value} {l p : List UInt8} {w : World} (h : Bytes w v l) (k : Bytes w u p) :
    Calls Tryz.prog 72 #[v, u] w fun e w' => e = .returned (.bool (pre p l)) ∧ w' = w := by
  obtain ⟨a, c, rfl, h1, h2, h3⟩ := bytesIn h
  obtain ⟨b, d, rfl, k1, k2, k3⟩ := bytesIn k
  have := Tryz.bytes_HasPrefix_all a b l.length c p.length d (intsOf l) (intsOf p) w (intsOf_length l) (intsOf_length p) h1 h3 k3
  rw [bytesOf_ints, bytesOf_ints] at this
  exact this

/-- The library's first place is the mathematics'. -/
theorem index_find (t : List UInt8) : ∀ l : List UInt8, Lib.index l t = match find t l with | none => -1 | some i => (i : Int)
  | [] => by
    unfold Lib.index find
    cases t <;> simp
  | c :: r => by
    have ih := index_find t r
    unfold Lib.index find
    by_cases h : pre t (c :: r) = true
    · have h' : t.isPrefixOf (c :: r) = true := h
      rw [if_pos h, if_pos h']; rfl
    · have h' : ¬ t.isPrefixOf (c :: r) = true := h
      rw [if_neg h, if_neg h', ih]
      cases hf : find t r with
      | none => simp
      | some i =>
        have : ((i : Int) == -1) = false := by rw [beq_eq_false_iff_ne]; omega
        simp [this]
theorem find_room {t l : List UInt8} {i : Nat} (h : find t l = some i) : i + t.length ≤ l.length := by
  have := Lib.index_room l t (by rw [index_find, h]; simp)
  rw [index_find, h] at this
  simp only at this
  omega
/-- What stands ahead of a text, and behind it. -/
def aheadOf (t l : List UInt8) : List UInt8 := match find t l with | none => l | some i => l.take i
theorem aheadOf_some {t l : List UInt8} {i : Nat} (h : find t l = some i) : aheadOf t l = l.take i := by unfold aheadOf; rw [h]
theorem aheadOf_none {t l : List UInt8} (h : find t l = none) : aheadOf t l = l := by unfold aheadOf; rw [h]
theorem aheadOf_le (t l : List UInt8) : (aheadOf t l).length ≤ l.length := by
  unfold aheadOf
  split
  · exact Nat.le_refl _
  · rw [List.length_take]; omega

/-- The library's variable that its searches read holds some number. -/
def MaxL (w : World) : Prop := ∃ m, w.cell? ⟨0, 0, none⟩ = some (.int .i64 m)
theorem MaxL.below {w w' : World} (h : MaxL w) (hb : Below w.heap.size w w') : MaxL w' := by
  obtain ⟨m, hm⟩ := h
  exact ⟨m, by rw [hb.cell (p := ⟨0, 0, none⟩) (World.block_lt_of_cell? _ _ hm)]; exact hm⟩
theorem MaxL.kept {w w' : World} {r : Nat} (h : MaxL w) (hb : w.grownBy w' (some r)) (hr : 0 < r) : MaxL w' := by
  obtain ⟨m, hm⟩ := h
  refine ⟨m, ?_⟩
  rw [World.cell?_of_block (a := ⟨0, 0, none⟩) (hb.block _ (World.block_lt_of_cell? _ _ hm) (fun e => by injection e with e; rw [← e] at hr; exact absurd hr (Nat.lt_irrefl _)))]
  exact hm

theorem Cut_row {v u : Value} {l p : List UInt8} {w : World} (h : Bytes w v l) (k : Bytes w u p) (hm : MaxL w) (hl : l.length < 4294967281) :
    Calls Tryz.prog 80 #[v, u] w fun e w' => (∃ v1 v2, e = .returned (.tuple #[v1, v2, .bool (find p l).isSome]) ∧ ∀ X, Bytes X v l → Bytes X v1 (aheadOf p l)) ∧ ∃ q, w' = w.drewN q := by
  obtain ⟨a, c, rfl, h1, h2, h3⟩ := bytesIn h
  obtain ⟨b, d, rfl, k1, k2, k3⟩ := bytesIn k
  obtain ⟨m, hm⟩ := hm
  have kle := k.le
  have := Tryz.bytes_Cut_all a b l.length c p.length d (intsOf l) (intsOf p) m w (intsOf_length l) (intsOf_length p) (intsOf_byte l) (intsOf_byte p) h3 k3 h2 h1 hl (by omega) hm
  rw [bytesOf_ints, bytesOf_ints, index_find] at this
  refine this.mono ?_
  rintro e w' ⟨rfl, q, rfl⟩
  refine ⟨?_, q, rfl⟩
  cases hf : find p l with
  | none =>
    refine ⟨.slice a l.length c, .slice none 0 0, by simp [Lib.cutV], ?_⟩
    rw [aheadOf_none hf]; exact fun X h => h
  | some i =>
    have hr := find_room hf
    refine ⟨.slice a i c, Lib.fromV a l.length c (i + p.length), by simp [Lib.cutV], ?_⟩
    rw [aheadOf_some hf]
    intro X h
    obtain ⟨⟨a', c', e, g1, g2, g3, gz, g4⟩, g5⟩ := h
    cases e
    have hlt : (l.take i).length = i := by simp; omega
    refine ⟨⟨a, c, by rw [hlt], by omega, g2, by omega, gz, fun hx => ?_⟩, by rw [cellsOf_length]; omega⟩
    rw [cellsOf_length, hlt] at hx
    obtain ⟨bb, off, rfl, g9⟩ := g4 (by rw [cellsOf_length]; omega)
    refine ⟨bb, off, rfl, fun j x hj => g9 j x ?_⟩
    rw [cellsOf_take, List.getElem?_take] at hj
    split at hj
    · exact hj
    · cases hj

/-- strings.Cut. -/
theorem SCut_row (l p : List UInt8) (w : World) (hm : MaxL w) (hl : l.length < 4294967281) :
    Calls Tryz.prog 81 #[.string (text l), .string (text p)] w fun e w' => (∃ s, e = .returned (.tuple #[.string (text (aheadOf p l)), .string s, .bool (find p l).isSome])) ∧ ∃ q, w' = w.drewN q := by
  obtain ⟨m, hm⟩ := hm
  have := Tryz.strings_Cut (text l) (text p) m w (by rw [text_size]; exact hl) hm
  refine this.mono ?_
  rintro e w' ⟨rfl, hq⟩
  refine ⟨?_, hq⟩
  rw [text_data, text_data]
  unfold Lib.cut
  rw [index_find]
  cases hf : find p l with
  | none => exact ⟨text [], by rw [aheadOf_none hf]; simp [text]⟩
  | some i => exact ⟨text (l.drop (i + p.length)), by rw [aheadOf_some hf]; simp [text]⟩
end Go.Proofs.YthodmdfbahkflaaGreatDoor.Tok
namespace Go.Proofs.YthodmdfbahkflaaGreatDoor.Tok
open Go Go.Proofs.YthodmdfbahkflaaGreatDoor Go.Proofs.YthodmdfbahkflaaGreatDoor.Utf Go.Proofs.YthodmdfbahkflaaGreatDoor.Names Go.Proofs.YthodmdfbahkflaaGreatDoor.Ent Go.RowKit
set_option maxRecDepth 100000

/-- What all statements ask of the world: the library's tables, its errors, and the variable that its searches read. -/
def FitM (w : World) : Prop := Ent.Fit w ∧ MaxL w
theorem FitM.below {w w' : World} (h : FitM w) (hb : Below w.heap.size w w') : FitM w' := ⟨h.1.below hb, h.2.below hb⟩

/-- All old blocks but r are as they were. -/
abbrev Kept (r : Nat) (w w' : World) : Prop := w.grownBy w' (some r)
theorem Kept.refl (r : Nat) (w : World) : Kept r w w := ⟨rfl, rfl, rfl, Nat.le_refl _, fun _ _ _ => rfl⟩
theorem Kept.trans {r : Nat} {a b c : World} (h : Kept r a b) (k : Kept r b c) : Kept r a c :=
  ⟨k.os.trans h.os, k.tape.trans h.tape, k.output.trans h.output, Nat.le_trans h.size k.size, fun i hi hn => (k.block i (Nat.lt_of_lt_of_le hi h.size) hn).trans (h.block i hi hn)⟩
theorem Kept.of {r : Nat} {w w' : World} (h : Below w.heap.size w w') : Kept r w w' := ⟨h.os, h.tape, h.output, h.size, fun k hk _ => h.block k hk⟩
theorem Kept.put (r j : Nat) (w : World) (u : Value) : Kept r w (w.setCell ⟨r, j, none⟩ u) :=
  ⟨rfl, rfl, rfl, by simp [World.setCell], fun k _ hk => Below.heap_setCell w ⟨r, j, none⟩ u k (fun e => hk (by rw [e]))⟩
theorem Kept.below {r B : Nat} {w w' : World} (h : Kept r w w') (hB : B ≤ w.heap.size) (hr : B ≤ r) : Below B w w' :=
  ⟨h.os, h.tape, h.output, h.size, fun k hk => h.block k (by omega) (fun e => by injection e with e; omega)⟩
theorem below_n {w w' : World} (h : ∃ q, w' = w.drewN q) : Below w.heap.size w w' := by
  obtain ⟨q, rfl⟩ := h
  exact below_drewN (b0 w) q

/-- The reader at r: its bytes v, which are l since the world W; the place k; its tokens t. -/
structure Rd (W : World) (r : Nat) (v : Value) (l : List UInt8) (k : Nat) (t : Value) (w : World) : Prop where
  cur : w.heap[r]? = some (.cells #[v, .int .i64 k, t] 82 (0, 0))
  low : W.heap.size ≤ r
  old : Below W.heap.size W w
  byt : Bytes W v l
  len : k ≤ l.length
  top : l.length ≤ 1000000
  fit : FitM W
section
variable {W w w' : World} {r k : Nat} {v t : Value} {l : List UInt8}
theorem Rd.lt (h : Rd W r v l k t w) : r < w.heap.size := by
  rcases Nat.lt_or_ge r w.heap.size with h' | h'
  · exact h'
  · have := h.cur; simp [Array.getElem?_eq_none h'] at this
theorem Rd.bytes (h : Rd W r v l k t w) : Bytes w v l := h.byt.below h.old (Nat.le_refl _)
theorem Rd.fitw (h : Rd W r v l k t w) : FitM w := h.fit.below h.old
theorem Rd.later (h : Rd W r v l k t w) (hb : Below w.heap.size w w') : Rd W r v l k t w' :=
  ⟨(hb.block r h.lt).trans h.cur, h.low, h.old.trans (hb.mono h.old.size), h.byt, h.len, h.top, h.fit⟩
theorem Rd.c0 (h : Rd W r v l k t w) : w.cell? ⟨r, 0, none⟩ = some v := by rw [Lib.cell_of_heap h.cur]; rfl
theorem Rd.c1 (h : Rd W r v l k t w) : w.cell? ⟨r, 1, none⟩ = some (.int .i64 k) := by rw [Lib.cell_of_heap h.cur]; rfl
theorem Rd.c2 (h : Rd W r v l k t w) : w.cell? ⟨r, 2, none⟩ = some t := by rw [Lib.cell_of_heap h.cur]; rfl
theorem Rd.f1 (h : Rd W r v l k t w) : w.frozen? ⟨r, 1, none⟩ = false := Lib.frozen_of_heap h.cur 1
theorem Rd.f2 (h : Rd W r v l k t w) : w.frozen? ⟨r, 2, none⟩ = false := Lib.frozen_of_heap h.cur 2
theorem Rd.move (h : Rd W r v l k t w) (n : Nat) (x : Int) (hx : x = n) (hn : n ≤ l.length) : Rd W r v l n t (w.setCell ⟨r, 1, none⟩ (.int .i64 x)) := by
  subst hx
  refine ⟨by simp [World.setCell, Array.getElem?_modify, h.cur], h.low, h.old.trans ?_, h.byt, hn, h.top, h.fit⟩
  exact (Kept.put r 1 w _).below h.old.size h.low
theorem Rd.keep (h : Rd W r v l k t w) (t' : Value) : Rd W r v l k t' (w.setCell ⟨r, 2, none⟩ t') := by
  refine ⟨by simp [World.setCell, Array.getElem?_modify, h.cur], h.low, h.old.trans ?_, h.byt, h.len, h.top, h.fit⟩
  exact (Kept.put r 2 w _).below h.old.size h.low
theorem Rd.size (h : Rd W r v l k t w) (X : World) : (Builtin.len_ #[24] 3 #[v]).run Tryz.prog X = .ok (.int .i64 l.length) X := h.byt.len 24 3 5 underB X
end

section
variable {W w : World} {r k : Nat} {v t : Value} {l : List UInt8}
set_option maxHeartbeats 1000000

theorem done_any (h : Rd W r v l k t w) :
    Calls Tryz.prog 28 #[.pointer (some ⟨r, 0, none⟩)] w fun e w' => e = .returned (.bool (decide (k = l.length))) ∧ ∃ q, w' = w.drewN q := by
  have c0 := h.c0
  have c1 := h.c1
  have hs := h.size
  have hq : ((k : Int) == (l.length : Int)) = decide (k = l.length) := by
    by_cases e : k = l.length
    · rw [decide_eq_true e]; rw [beq_iff_eq]; omega
    · rw [decide_eq_false e]; rw [beq_eq_false_iff_ne]; omega
  have H := hid h
  clear h
  go_enter Tryz.func28, Tryz.ntmps28
  go_wp2_with fail
  go_quiet (fail)
  go_wp2
  go_ret
  exact ⟨rfl, _, rfl⟩

theorem missing_any (h : Rd W r v l k t w) :
    Calls Tryz.prog 98 #[.pointer (some ⟨r, 0, none⟩)] w fun e w' => e = .returned (.int .i64 (short (l.drop k))) ∧ ∃ q, w' = w.drewN q := by
  have hd := done_any h
  have hlen := h.len
  by_cases e : k = l.length
  · have e2 : short (l.drop k) = 10 := by unfold short; rw [if_pos (by rw [e, List.drop_length])]
    rw [decide_eq_true e] at hd
    have H := hid hd
    have E := hid e2
    clear hd h e e2
    go_enter Tryz.func98, Tryz.ntmps98
    go_wp2_with fail
    refine H.out.mono ?_
    rintro e w1 ⟨rfl, hb1⟩
    go_wp2
    go_ret
    exact ⟨by rw [E.out]; rfl, hb1⟩
  · have e2 : short (l.drop k) = 5 := by
      unfold short; rw [if_neg (fun c => by have := congrArg List.length c; simp at this; omega)]
    rw [decide_eq_false e] at hd
    have H := hid hd
    have E := hid e2
    clear hd h e e2
    go_enter Tryz.func98, Tryz.ntmps98
    go_wp2_with fail
    refine H.out.mono ?_
    rintro e w1 ⟨rfl, hb1⟩
    go_wp2
    go_ret
    exact ⟨by rw [E.out]; rfl, hb1⟩

theorem begins_any (h : Rd W r v l k t w) (p : List UInt8) (hp : p.length ≤ 1000) (a : ByteArray) (ha : a = text p) :
    Calls Tryz.prog 43 #[.pointer (some ⟨r, 0, none⟩), .string a] w fun e w' => e = .returned (.bool (pre p (l.drop k))) ∧ Below w.heap.size w w' := by
  subst ha
  have c0 := h.c0
  have c1 := h.c1
  have hlen := h.len
  obtain ⟨v', _, h2, _, hv'⟩ := h.bytes.sub (P := Tryz.prog) k l.length hlen (Nat.le_refl _) 24 5 underB size8
  have hsl := h2 rfl
  rw [List.take_of_length_le (by simp)] at hv'
  obtain ⟨u, w1, hcv, hu, hb1, _⟩ := conv_at (P := Tryz.prog) p (by omega) 9 24 5 under9 underB under8 w.drew
  have hu1 := hu w1 rfl
  have hv1 : Bytes w1 v' (l.drop k) := hv'.drew.below hb1 (Nat.le_refl _)
  have C := hid (HasPrefix_row hv1 hu1)
  have hd : Rd W r v l k t w1 := h.later ((b0 w).drew.trans hb1)
  have d0 := hd.c0
  have d1 := hd.c1
  have HB := hid hb1
  clear hd
  clear hu hu1 hv1 hv' h2 hb1 h
  go_enter Tryz.func43, Tryz.ntmps43
  go_wp2_with fail
  go_region_with (go_at_call 72; refine C.out.mono ?_; rintro e w' ⟨rfl, rfl⟩)
  all_goals go_wp2
  all_goals go_ret
  all_goals exact ⟨rfl, (b0 w).drew.trans HB.out⟩
end
end Go.Proofs.YthodmdfbahkflaaGreatDoor.Tok
namespace Go.Proofs.YthodmdfbahkflaaGreatDoor.Tok
open Go Go.Proofs.YthodmdfbahkflaaGreatDoor Go.Proofs.YthodmdfbahkflaaGreatDoor.Utf Go.Proofs.YthodmdfbahkflaaGreatDoor.Names Go.Proofs.YthodmdfbahkflaaGreatDoor.Ent Go.RowKit
set_option maxRecDepth 100000

theorem pre_room {p l : List UInt8} {k : Nat} (h : pre p (l.drop k) = true) (hk : k ≤ l.length) : k + p.length ≤ l.length := by
  have := pre_len h
  rw [List.length_drop] at this
  omega
section
variable {W w : World} {r k : Nat} {v t : Value} {l : List UInt8}
set_option maxHeartbeats 1000000

theorem take_any (h : Rd W r v l k t w) (p : List UInt8) (hp : p.length ≤ 1000) (a : ByteArray) (ha : a = text p) :
    Calls Tryz.prog 73 #[.pointer (some ⟨r, 0, none⟩), .string a] w fun e w' => e = .returned (.bool (pre p (l.drop k))) ∧ Rd W r v l (if pre p (l.drop k) = true then k + p.length else k) t w' ∧ Kept r w w' := by
  have hb := begins_any h p hp a ha
  have hsz : a.size = p.length := by rw [ha]; exact text_size p
  have hlen := h.len
  have htop := h.top
  cases hq : pre p (l.drop k) with
  | true =>
    have hroom := pre_room hq hlen
    rw [hq] at hb
    have H := hid h
    have B := hid hb
    rw [if_pos rfl]
    clear h hb hq ha
    go_enter Tryz.func73, Tryz.ntmps73
    go_wp2_with fail
    refine B.out.mono ?_
    rintro e w1 ⟨rfl, hb1⟩
    have h1 := H.out.later hb1
    have c1 := h1.c1
    have f1 := h1.f1
    have H1 := hid h1
    have HB := hid hb1
    clear h1 hb1
    go_wp2
    go_ret
    exact ⟨rfl, H1.out.move _ _ (by omega) hroom, (Kept.of HB.out).trans (Kept.put _ _ _ _)⟩
  | false =>
    rw [hq] at hb
    have H := hid h
    have B := hid hb
    rw [if_neg (by simp)]
    clear h hb hq ha
    go_enter Tryz.func73, Tryz.ntmps73
    go_wp2_with fail
    refine B.out.mono ?_
    rintro e w1 ⟨rfl, hb1⟩
    go_wp2
    go_ret
    exact ⟨rfl, H.out.later hb1, Kept.of hb1⟩

/-- Behind a mark of one byte. -/
theorem ask_any (h : Rd W r v l k t w) (p : List UInt8) (hp : p.length ≤ 1000) (a : ByteArray) (ha : a = text p) :
    Calls Tryz.prog 74 #[.pointer (some ⟨r, 0, none⟩), .string a] w fun e w' => e = .returned (.int .i64 (if pre p (l.drop k) = true then 0 else short (l.drop k))) ∧ Rd W r v l (if pre p (l.drop k) = true then k + p.length else k) t w' ∧ Kept r w w' := by
  have hb := take_any h p hp a ha
  cases hq : pre p (l.drop k) with
  | true =>
    rw [hq, if_pos rfl] at hb
    have H := hid h
    have B := hid hb
    rw [if_pos rfl, if_pos rfl]
    clear h hb hq ha
    go_enter Tryz.func74, Tryz.ntmps74
    go_wp2_with fail
    refine B.out.mono ?_
    rintro e w1 ⟨rfl, h1, hk1⟩
    have H1 := hid h1
    have K1 := hid hk1
    clear h1 hk1
    go_wp2
    go_ret
    exact ⟨rfl, H1.out, K1.out⟩
  | false =>
    rw [hq, if_neg (by simp)] at hb
    have H := hid h
    have B := hid hb
    rw [if_neg (by simp), if_neg (by simp)]
    clear h hb hq ha
    go_enter Tryz.func74, Tryz.ntmps74
    go_wp2_with fail
    refine B.out.mono ?_
    rintro e w1 ⟨rfl, h1, hk1⟩
    have H1 := hid h1
    have K1 := hid hk1
    clear h1 hk1
    go_wp2_with fail
    refine (missing_any H1.out).mono ?_
    rintro e w2 ⟨rfl, hb2⟩
    have hb2' := below_n hb2
    go_wp2
    go_ret
    exact ⟨rfl, H1.out.later hb2', K1.out.trans (Kept.of hb2')⟩

end
end Go.Proofs.YthodmdfbahkflaaGreatDoor.Tok
namespace Go.Proofs.YthodmdfbahkflaaGreatDoor.Tok
open Go Go.Proofs.YthodmdfbahkflaaGreatDoor Go.Proofs.YthodmdfbahkflaaGreatDoor.Utf Go.Proofs.YthodmdfbahkflaaGreatDoor.Names Go.Proofs.YthodmdfbahkflaaGreatDoor.Ent Go.RowKit
set_option maxRecDepth 100000

/-- Does a character belong to a name, be it as its first one? -/
def namedB (c : Int) (b : Bool) : Bool := if b = true then pn c else qn c
theorem first_part {c : Int} (h : Utf.first c = true) : Utf.part c = true := (part_iff c).2 (.inl ((next_iff c).2 (.inl h)))

set_option maxHeartbeats 1000000 in
theorem named_any (c : Int) (b : Bool) (w : World) :
    Calls Tryz.prog 101 #[.int .i64 c, .bool b] w fun e w' => e = .returned (.bool (namedB c b)) ∧ w = w' := by
  have S0 := hid (fun X => (Start_any c X).mono fun e w' ⟨h1, h2⟩ => ⟨h1, h2.symm⟩ : ∀ X, Calls Tryz.prog 111 #[.int .i64 c] X fun e w' => e = .returned (.bool (Utf.first c)) ∧ w' = X)
  have P0 := hid (fun X => (Part_any c X).mono fun e w' ⟨h1, h2⟩ => ⟨h1, h2.symm⟩ : ∀ X, Calls Tryz.prog 112 #[.int .i64 c] X fun e w' => e = .returned (.bool (Utf.part c)) ∧ w' = X)
  have E : Hid (namedB c b = (decide (c = 58) || (Utf.first c || (!b && Utf.part c)))) := by
    refine hid ?_
    unfold namedB pn qn
    cases b <;> cases hf : Utf.first c <;> cases hp : Utf.part c <;> simp
    rw [first_part hf] at hp; cases hp
  by_cases h58 : c = 58
  · have hq : (c == 58) = true := by rw [beq_iff_eq]; exact h58
    rw [decide_eq_true h58] at E
    clear h58
    go_enter Tryz.func101, Tryz.ntmps101
    go_wp2
    go_ret
    exact ⟨by rw [E.out]; rfl, rfl⟩
  · have hq : (c == 58) = false := by rw [beq_eq_false_iff_ne]; exact h58
    rw [decide_eq_false h58] at E
    clear h58
    cases hf : Utf.first c
    · rw [hf] at S0 E
      clear hf
      cases b
      · go_enter Tryz.func101, Tryz.ntmps101
        go_wp2_with (first
          | (go_at_call 111; refine (S0.out _).mono ?_; rintro e w' ⟨rfl, rfl⟩)
          | (go_at_call 112; refine (P0.out _).mono ?_; rintro e w' ⟨rfl, rfl⟩))
        go_ret
        exact ⟨by rw [E.out]; rfl, rfl⟩
      · go_enter Tryz.func101, Tryz.ntmps101
        go_wp2_with (first
          | (go_at_call 111; refine (S0.out _).mono ?_; rintro e w' ⟨rfl, rfl⟩)
          | (go_at_call 112; refine (P0.out _).mono ?_; rintro e w' ⟨rfl, rfl⟩))
        go_ret
        exact ⟨by rw [E.out]; rfl, rfl⟩
    · rw [hf] at S0 E
      clear hf
      go_enter Tryz.func101, Tryz.ntmps101
      go_wp2_with (first
        | (go_at_call 111; refine (S0.out _).mono ?_; rintro e w' ⟨rfl, rfl⟩)
        | (go_at_call 112; refine (P0.out _).mono ?_; rintro e w' ⟨rfl, rfl⟩))
      go_ret
      exact ⟨by rw [E.out]; rfl, rfl⟩

/-- n bytes of a name are gone behind. -/
def Ns (m : List UInt8) (n : Nat) : Prop := n ≤ m.length ∧ (n = 0 ∨ nameLen m = n + run (m.drop n))
theorem Ns.start (m : List UInt8) : Ns m 0 := ⟨Nat.zero_le _, .inl rfl⟩
theorem Ns.step {m : List UInt8} {n : Nat} (h : Ns m n) (h1 : (rune (m.drop n)).2 ≠ 0) (h2 : namedB (rune (m.drop n)).1 (decide (n = 0)) = true) : Ns m (n + (rune (m.drop n)).2) := by
  obtain ⟨h3, h4⟩ := h
  have hr := rune_le (m.drop n)
  rw [List.length_drop] at hr
  refine ⟨by omega, .inr ?_⟩
  unfold namedB at h2
  by_cases e : n = 0
  · subst e
    rw [decide_eq_true rfl, if_pos rfl] at h2
    rw [List.drop_zero] at h1 h2 ⊢
    unfold nameLen
    rw [if_pos ⟨h1, h2⟩, run_step h1 (pn_qn h2), Nat.zero_add]
  · rw [decide_eq_false e, if_neg (by simp)] at h2
    rcases h4 with h4 | h4
    · exact absurd h4 e
    · rw [h4, run_step h1 h2, List.drop_drop]; omega
theorem Ns.stop {m : List UInt8} {n : Nat} (h : Ns m n) (h1 : (rune (m.drop n)).2 = 0 ∨ namedB (rune (m.drop n)).1 (decide (n = 0)) = false) : nameLen m = n := by
  obtain ⟨h3, h4⟩ := h
  by_cases e : n = 0
  · subst e
    rw [List.drop_zero, decide_eq_true rfl] at h1
    unfold namedB at h1
    rw [if_pos rfl] at h1
    unfold nameLen
    rw [if_neg]
    rintro ⟨a, b⟩
    rcases h1 with h1 | h1
    · exact a h1
    · rw [b] at h1; cases h1
  · rw [decide_eq_false e] at h1
    unfold namedB at h1
    rw [if_neg (by simp)] at h1
    rcases h4 with h4 | h4
    · exact absurd h4 e
    · rw [h4, run_stop]
      · rfl
      · rintro ⟨a, b⟩
        rcases h1 with h1 | h1
        · exact a h1
        · rw [b] at h1; cases h1
theorem Ns.done {m : List UInt8} {n : Nat} (h : Ns m n) (hn : ¬ n < m.length) : nameLen m = n := by
  refine h.stop (.inl ?_)
  rw [List.drop_of_length_le (by omega), rune_nil]
theorem named_zero (b : Bool) : namedB 0 b = false := by cases b <;> decide

/-- What a reader's call that asks for something answers, and where it is then. -/
def Got {α : Type} (W : World) (r : Nat) (v : Value) (l : List UInt8) (k : Nat) (t : Value) (f : α → Value) (none : Value) (o : Res α) (e : Ending) (w' : World) : Prop :=
  match o with
  | .ok x n => e = .returned (.tuple #[f x, .int .i64 0]) ∧ Rd W r v l (k + n) t w'
  | .bad p x => e = .returned (.tuple #[none, .int .i64 x]) ∧ Rd W r v l (k + p) t w'
theorem Got.ok {α : Type} {W : World} {r : Nat} {v : Value} {l : List UInt8} {k : Nat} {t : Value} {f : α → Value} {none : Value} {o : Res α} {x : α} {n j : Nat} {e : Ending} {w' : World} (h : o = .ok x n) (h1 : e = .returned (.tuple #[f x, .int .i64 0])) (h2 : Rd W r v l j t w') (h3 : j = k + n) : Got W r v l k t f none o e w' := by
  subst h; subst h3; exact ⟨h1, h2⟩
theorem Got.bad {α : Type} {W : World} {r : Nat} {v : Value} {l : List UInt8} {k : Nat} {t : Value} {f : α → Value} {none : Value} {o : Res α} {p x j : Nat} {e : Ending} {w' : World} (h : o = .bad p x) (h1 : e = .returned (.tuple #[none, .int .i64 x])) (h2 : Rd W r v l j t w') (h3 : j = k + p) : Got W r v l k t f none o e w' := by
  subst h; subst h3; exact ⟨h1, h2⟩
def strV (s : List UInt8) : Value := .string (text s)

theorem nameR_none {m : List UInt8} (h : nameLen m = 0) : nameR m = .bad 0 (short m) := by unfold nameR; rw [if_pos h]
theorem nameR_six {m : List UInt8} {n : Nat} (h : nameLen m = n) (hn : n ≠ 0) (hs : splitE (m.take n) = 6) : nameR m = .bad 0 6 := by
  unfold nameR
  rw [if_neg (by omega), h, if_neg]
  intro c; unfold splitE at hs; rw [if_pos c] at hs; cases hs
theorem nameR_good {m : List UInt8} {n : Nat} (h : nameLen m = n) (hn : n ≠ 0) (hs : splitE (m.take n) = 0) : nameR m = .ok (m.take n) n := by
  unfold nameR
  rw [if_neg (by omega), h, if_pos]
  by_cases c : (splitO (m.take n)).isSome = true
  · exact c
  · unfold splitE at hs; rw [if_neg c] at hs; cases hs
theorem splitE_two (x : List UInt8) : splitE x = 0 ∨ splitE x = 6 := by unfold splitE; split <;> simp

end Go.Proofs.YthodmdfbahkflaaGreatDoor.Tok
namespace Go.Proofs.YthodmdfbahkflaaGreatDoor.Tok
open Go Go.Proofs.YthodmdfbahkflaaGreatDoor Go.Proofs.YthodmdfbahkflaaGreatDoor.Utf Go.Proofs.YthodmdfbahkflaaGreatDoor.Names Go.Proofs.YthodmdfbahkflaaGreatDoor.Ent Go.RowKit
set_option maxRecDepth 100000

/-- The block holds the names that are ahead. -/
def SeenMap (w : World) (b : Nat) (seen : List (List UInt8)) : Prop :=
  ∃ (D : DataW Unit) (n : Nat), n ≤ seen.length ∧ w.ownsMap Tryz.prog 9 (plainElem (H := Unit) Tryz.prog 4) b n D ∧
    (∃ es, D = .map es) ∧ ∀ x : List UInt8, D.atKey (.string x) (.lit (.bool false)) = .lit (.bool (seen.contains x))
section
variable {w w' : World} {b : Nat} {seen : List (List UInt8)}
theorem SeenMap.lt (h : SeenMap w b seen) : b < w.heap.size := by
  obtain ⟨D, n, _, h, _⟩ := h
  exact h.lt
theorem SeenMap.kept {row : Option Nat} (h : SeenMap w b seen) (hg : w.grownBy w' row) (hne : some b ≠ row) : SeenMap w' b seen := by
  obtain ⟨D, n, h1, h2, h3⟩ := h
  exact ⟨D, n, h1, h2.kept hg hne, h3⟩
theorem SeenMap.later (h : SeenMap w b seen) (hb : Below w.heap.size w w') : SeenMap w' b seen :=
  h.kept (row := none) ⟨hb.os, hb.tape, hb.output, hb.size, fun k hk _ => hb.block k hk⟩ (by simp)
theorem SeenMap.made (w : World) : SeenMap (w.alloc (.map #[] 0)) w.heap.size [] := by
  have := World.ownsMap_made (H := Unit) w Tryz.prog 9 (plainElem (H := Unit) Tryz.prog 4)
  exact ⟨_, _, Nat.le_refl _, this, ⟨_, rfl⟩, fun x => rfl⟩
theorem SeenMap.look (h : SeenMap w b seen) (x : List UInt8) (hx : x.length ≤ 281474976710656) :
    (Instr.lookup 156 (.map (some b)) (.string (text x)) false).run Tryz.prog w = .ok (.bool (seen.contains x)) w := by
  obtain ⟨D, n, _, h, _, hD⟩ := h
  have hk : keyOf Tryz.prog 9 (.string (text x)) = some (.string x) := by
    have := WideMaps.keyOf_string_mk (P := Tryz.prog) under9 (s := text x) (by rw [text_size]; unfold maxLen; omega)
    rw [text_data] at this
    exact this
  obtain ⟨u, ps, hrun, hv⟩ := World.ownsMap.lookup h (Maps.string_keyed under9) Names.underM (Tryz.zeroValue4 w) (plainElem_bool underO false) hk
  rw [hD] at hv
  rw [hrun, plainElem_bool_inv underO hv]
theorem SeenMap.put {D : DataW Unit} (hI : ∃ es, D = .map es) (hD : ∀ x : List UInt8, D.atKey (.string x) (.lit (.bool false)) = .lit (.bool (seen.contains x))) {n : Nat} (hn : n ≤ seen.length) (x : List UInt8)
    (h : w'.ownsMap Tryz.prog 9 (plainElem (H := Unit) Tryz.prog 4) b (n + 1) (D.put (.string x) (.lit (.bool true)))) : SeenMap w' b (x :: seen) := by
  refine ⟨_, _, by simp; omega, h, ?_, fun y => ?_⟩
  · obtain ⟨es, rfl⟩ := hI; exact ⟨_, rfl⟩
  · by_cases e : y = x
    · subst e
      rw [Maps.atKey_put_same hI (by simp [WideAt.IsKeyLit])]
      simp
    · have hne : (Lit.string y) ≠ .string x := by intro q; injection q with q; exact e q
      rw [Maps.atKey_put_other hne, hD]
      simp [e]
end
/-- All old blocks but two are as they were. -/
structure Kept2 (r b : Nat) (w w' : World) : Prop where
  os : w'.os = w.os
  tape : w'.tape = w.tape
  output : w'.output = w.output
  size : w.heap.size ≤ w'.heap.size
  block : ∀ k, k < w.heap.size → k ≠ r → k ≠ b → w'.heap[k]? = w.heap[k]?
theorem Kept2.trans {r b : Nat} {x y z : World} (h : Kept2 r b x y) (k : Kept2 r b y z) : Kept2 r b x z :=
  ⟨k.os.trans h.os, k.tape.trans h.tape, k.output.trans h.output, Nat.le_trans h.size k.size, fun i hi h1 h2 => (k.block i (Nat.lt_of_lt_of_le hi h.size) h1 h2).trans (h.block i hi h1 h2)⟩
theorem Kept2.of {r b : Nat} {w w' : World} (h : Kept r w w') : Kept2 r b w w' := ⟨h.os, h.tape, h.output, h.size, fun k hk h1 _ => h.block k hk (fun e => by injection e with e; exact h1 e)⟩
theorem Kept2.off {r b : Nat} {w w' : World} (h : w.grownBy w' (some b)) : Kept2 r b w w' := ⟨h.os, h.tape, h.output, h.size, fun k hk _ h2 => h.block k hk (fun e => by injection e with e; exact h2 e)⟩
theorem Kept2.new {r b : Nat} {w w' : World} (h : Kept2 r b w w') {B : Nat} (hB : B ≤ w.heap.size) (hb : B ≤ b) : ∀ k, k < B → k ≠ r → w'.heap[k]? = w.heap[k]? := fun k hk h1 => h.block k (by omega) h1 (by omega)
theorem Rd.grown {W w w' : World} {r k b : Nat} {v t : Value} {l : List UInt8} (h : Rd W r v l k t w) (hg : w.grownBy w' (some b)) (hne : b ≠ r) (hb : W.heap.size ≤ b) : Rd W r v l k t w' :=
  ⟨(hg.block r h.lt (fun e => by injection e with e; exact hne e.symm)).trans h.cur, h.low, h.old.trans ⟨hg.os, hg.tape, hg.output, hg.size, fun k hk => hg.block k (Nat.lt_of_lt_of_le hk h.old.size) (fun e => by injection e with e; omega)⟩, h.byt, h.len, h.top, h.fit⟩
end Go.Proofs.YthodmdfbahkflaaGreatDoor.Tok
namespace Go.Proofs.YthodmdfbahkflaaGreatDoor.Tok
open Go Go.Proofs.YthodmdfbahkflaaGreatDoor Go.Proofs.YthodmdfbahkflaaGreatDoor.Utf Go.Proofs.YthodmdfbahkflaaGreatDoor.Names Go.Proofs.YthodmdfbahkflaaGreatDoor.Ent Go.RowKit
set_option maxRecDepth 100000

/-- n blanks are gone behind. -/
def Bk (m : List UInt8) (n : Nat) : Prop := n ≤ m.length ∧ blanks m = n + blanks (m.drop n)
theorem Bk.start (m : List UInt8) : Bk m 0 := ⟨Nat.zero_le _, by simp⟩
theorem blanks_step {m : List UInt8} {n : Nat} (hn : n < m.length) (h : isSp m[n] = true) : blanks (m.drop n) = 1 + blanks (m.drop (n + 1)) := by
  unfold blanks
  rw [List.drop_eq_getElem_cons hn, List.takeWhile_cons, if_pos h, List.length_cons]
  omega
theorem blanks_stop {m : List UInt8} {n : Nat} (hn : n < m.length) (h : isSp m[n] = false) : blanks (m.drop n) = 0 := by
  unfold blanks
  rw [List.drop_eq_getElem_cons hn, List.takeWhile_cons, if_neg (by rw [h]; simp)]
  rfl
theorem Bk.step {m : List UInt8} {n : Nat} (h : Bk m n) (hn : n < m.length) (hs : isSp m[n] = true) : Bk m (n + 1) := by
  obtain ⟨h1, h2⟩ := h
  exact ⟨by omega, by rw [h2, blanks_step hn hs]; omega⟩
theorem Bk.stop {m : List UInt8} {n : Nat} (h : Bk m n) (hn : n < m.length) (hs : isSp m[n] = false) : blanks m = n := by
  rw [h.2, blanks_stop hn hs]; rfl
theorem Bk.done {m : List UInt8} {n : Nat} (h : Bk m n) (hn : ¬ n < m.length) : blanks m = n := by
  rw [h.2, List.drop_of_length_le (by omega)]; rfl
theorem blanks_fit (m : List UInt8) : blanks m ≤ m.length := by
  unfold blanks
  exact (List.takeWhile_sublist _).length_le

section
variable {W w : World} {r k : Nat} {v t : Value} {l : List UInt8}
set_option maxHeartbeats 1000000

theorem blanks_any (h : Rd W r v l k t w) :
    Calls Tryz.prog 78 #[.pointer (some ⟨r, 0, none⟩)] w fun e w' => e = .returned (.bool (decide (0 < blanks (l.drop k)))) ∧ Rd W r v l (k + blanks (l.drop k)) t w' ∧ Kept r w w' := by
  have c1 := h.c1
  have hlen := h.len
  have htop := h.top
  obtain ⟨m, hm⟩ : ∃ m, l.drop k = m := ⟨_, rfl⟩
  rw [hm]
  have hml : m.length + k = l.length := by rw [← hm, List.length_drop]; omega
  have hget : ∀ (n : Nat) (hn : n < m.length), m[n] = l[k + n]'(by omega) := by
    subst hm
    intro n hn
    rw [List.getElem_drop]
  have H := hid h
  have HG := hid hget
  clear h hm hget
  go_enter Tryz.func78, Tryz.ntmps78
  go_wp2_with fail
  go_loopg [8] m.length (fun g _ wr => ∃ n : Nat, n + g = m.length ∧ Bk m n ∧ Rd W r v l (k + n) t wr ∧ Kept r w wr)
  case atStart => exact ⟨0, by omega, Bk.start m, H.out, Kept.refl r w⟩
  case round =>
    obtain ⟨n, hng, hbk, hrd, hkp⟩ := hrel
    have HB := hid hbk
    have HR := hid hrd
    have HK := hid hkp
    have c0 := hrd.c0
    have c1 := hrd.c1
    have f1 := hrd.f1
    by_cases hn : n < m.length
    · have hdn : decide (k + n = l.length) = false := by rw [decide_eq_false]; omega
      have HD := hid (fun q => by
        have := done_any (hrd.later (below_drewN (b0 wr) q))
        rw [hdn] at this
        exact this : ∀ q, Calls Tryz.prog 28 #[.pointer (some ⟨r, 0, none⟩)] (wr.drewN q) fun e w' => e = .returned (.bool false) ∧ ∃ m, w' = (wr.drewN q).drewN m)
      obtain ⟨bb, o, hia, hcl⟩ := hrd.bytes.at (P := Tryz.prog) (k + n) (by omega) 24 5 underB size8
      rw [← HG.out n hn] at hcl
      have hia' : ∀ (q : IntKind) (X : World), (Instr.indexAt 24 v (.int q ((k : Int) + (n : Int)))).run Tryz.prog X = .ok (.pointer (some ⟨bb, o, none⟩)) X := by
        intro q X
        have := hia q X
        rwa [show (((k + n : Nat)) : Int) = (k : Int) + (n : Int) from by omega] at this
      have c1' : wr.cell? ⟨r, 1, none⟩ = some (.int .i64 ((k : Int) + (n : Int))) := by rw [c1]; rfl
      have S0 := fun X => Space_any (m[n].toNat : Int) X
      cases hsp : isSp m[n] with
      | true =>
        have hst := HB.out.step hn hsp
        rw [show Utf.space (m[n].toNat : Int) = true from hsp] at S0
        have SS := hid (fun X => (S0 X).mono fun e w' ⟨h1, h2⟩ => ⟨h1, h2.symm⟩ : ∀ X, Calls Tryz.prog 70 #[.int .i64 (m[n].toNat : Int)] X fun e w' => e = .returned (.bool true) ∧ w' = X)
        have HST := hid hst
        have h256 : m[n].toNat < 256 := UInt8.toNat_lt _
        generalize m[n].toNat = b at *
        clear hbk hrd hkp c1 hia hsp S0 hst
        go_wp2_with fail
        go_quiet (first
          | (go_at_call 28; exact Calls.quiet_of (HD.out _))
          | (go_at_call 70; exact Calls.quiet_of_same (SS.out _)))
        go_wp2
        go_roundg (gk - 1)
        case measure => omega
        case rel => exact ⟨n + 1, by omega, HST.out, (HR.out.later (below_drewN (b0 wr) _)).move _ _ (by omega) (by omega), (HK.out.trans (Kept.of (below_drewN (b0 wr) _))).trans (Kept.put _ _ _ _)⟩
      | false =>
        have hst := HB.out.stop hn hsp
        rw [show Utf.space (m[n].toNat : Int) = false from hsp] at S0
        have SS := hid (fun X => (S0 X).mono fun e w' ⟨h1, h2⟩ => ⟨h1, h2.symm⟩ : ∀ X, Calls Tryz.prog 70 #[.int .i64 (m[n].toNat : Int)] X fun e w' => e = .returned (.bool false) ∧ w' = X)
        have HST := hid hst
        have h256 : m[n].toNat < 256 := UInt8.toNat_lt _
        generalize m[n].toNat = b at *
        clear hbk hrd hkp c1 hia hsp S0 hst
        go_wp2_with fail
        go_quiet (first
          | (go_at_call 28; exact Calls.quiet_of (HD.out _))
          | (go_at_call 70; exact Calls.quiet_of_same (SS.out _)))
        go_wp2
        go_ret
        refine ⟨by rw [HST.out]; simp; omega, ?_, HK.out.trans (Kept.of (below_drewN (b0 wr) _))⟩
        rw [HST.out]
        exact HR.out.later (below_drewN (b0 wr) _)
    · have hdn : decide (k + n = l.length) = true := by rw [decide_eq_true]; have := hbk.1; omega
      have HD := hid (fun q => by
        have := done_any (hrd.later (below_drewN (b0 wr) q))
        rw [hdn] at this
        exact this : ∀ q, Calls Tryz.prog 28 #[.pointer (some ⟨r, 0, none⟩)] (wr.drewN q) fun e w' => e = .returned (.bool true) ∧ ∃ m, w' = (wr.drewN q).drewN m)
      have HST := hid (HB.out.done hn)
      have c1' : wr.cell? ⟨r, 1, none⟩ = some (.int .i64 ((k : Int) + (n : Int))) := by rw [c1]; rfl
      clear hbk hrd hkp c1
      go_wp2_with fail
      go_quiet (first | (go_at_call 28; exact Calls.quiet_of (HD.out _)))
      go_wp2
      go_ret
      refine ⟨by rw [HST.out]; simp; omega, ?_, HK.out.trans (Kept.of (below_drewN (b0 wr) _))⟩
      rw [HST.out]
      exact HR.out.later (below_drewN (b0 wr) _)
end
end Go.Proofs.YthodmdfbahkflaaGreatDoor.Tok
namespace Go.Proofs.YthodmdfbahkflaaGreatDoor.Tok
open Go Go.Proofs.YthodmdfbahkflaaGreatDoor Go.ChangeShapes Go.WideShapes Go.ChangeAt Go.RowKit Go.Deep

/-- Pieces of the same length, one behind the other. -/
theorem flat_get {α β : Type} (k : Nat) (f : α → List β) (hf : ∀ x, (f x).length = k) (l : List α) (i j : Nat) (hj : j < k) : (l.flatMap f)[i * k + j]? = (l[i]?).bind fun x => (f x)[j]? := by
  induction l generalizing i with
  | nil => simp
  | cons x l ih =>
    rw [List.flatMap_cons]
    cases i with
    | zero => rw [Nat.zero_mul, Nat.zero_add, List.getElem?_append_left (by rw [hf]; exact hj)]; rfl
    | succ i =>
      rw [List.getElem?_append_right (by rw [hf, Nat.succ_mul]; omega), hf, show (i + 1) * k + j - k = i * k + j from by rw [Nat.succ_mul]; omega, ih]
      rfl
theorem flat_len {α β : Type} (k : Nat) (f : α → List β) (hf : ∀ x, (f x).length = k) (l : List α) : (l.flatMap f).length = l.length * k := by
  induction l with
  | nil => simp
  | cons x l ih => rw [List.flatMap_cons, List.length_append, hf, ih, List.length_cons, Nat.succ_mul]; omega
/-- A row, piece by piece. -/
theorem Row.flat {α : Type} {k : Nat} (hk : 0 < k) {f : α → List Value} (hf : ∀ x, (f x).length = k) {w : World} {l : List α} {a : Addr} {c : Nat} (h1 : l.length ≤ c) (h2 : c ≤ maxLen) (h3 : l.length ≤ 281474976710656)
    (hc : ∀ (i j : Nat) x, l[i]? = some x → j < k → w.cell? (a.add (i * k + j)) = (f x)[j]?) : Row k w (.slice (some a) l.length c) l.length (l.flatMap f) := by
  refine ⟨⟨some a, c, rfl, h1, h2, h3, (fun e => by cases e), fun hx => ?_⟩, flat_len k f hf l⟩
  rw [flat_len k f hf] at hx
  obtain ⟨b, off, spot⟩ := a
  cases l with
  | nil => simp at hx
  | cons y l =>
    have h0 := hc 0 0 y rfl hk
    have hy : 0 < (f y).length := by rw [hf]; exact hk
    rw [List.getElem?_eq_getElem hy] at h0
    have hspot : spot = none := by simpa [Addr.add] using World.cell?_spot h0
    subst hspot
    refine ⟨b, off, rfl, fun n u hu => ?_⟩
    have hn : n = n / k * k + n % k := by rw [Nat.mul_comm]; exact (Nat.div_add_mod n k).symm
    have hr : n % k < k := Nat.mod_lt _ hk
    rw [hn, flat_get k f hf _ _ _ hr] at hu
    obtain ⟨x, hx1, hx2⟩ := Option.bind_eq_some_iff.1 hu
    have := hc _ _ x hx1 hr
    rw [Addr.add_lit, ← hn] at this
    rw [this]; exact hx2

def prCells (p : Pr) : List Value := [.int .i64 p.place, .string (text p.name), .string (text p.value)]
/-- A row of attributes. -/
def Prs (w : World) (v : Value) (l : List Pr) : Prop := Row 3 w v l.length (l.flatMap prCells)
def tokCells (x : Tok × Value) : List Value := [.int .i64 x.1.kind, .int .i64 x.1.place, .string (text x.1.s), x.2]
/-- A row of tokens. -/
def Toks (w : World) (v : Value) (l : List Tok) : Prop :=
  ∃ r : List (Tok × Value), r.map (·.1) = l ∧ Row 4 w v r.length (r.flatMap tokCells) ∧ ∀ x ∈ r, Prs w x.2 x.1.attrs
/-- How many letters and things there are. -/
def prMass (p : Pr) : Nat := 1 + p.name.length + p.value.length
def prsMass (l : List Pr) : Nat := (l.map prMass).sum
def tokMass (t : Tok) : Nat := 1 + t.s.length + prsMass t.attrs
def toksMass (l : List Tok) : Nat := (l.map tokMass).sum
def prFit (p : Pr) : Prop := (Lit.int .i64 p.place).wf = true
def tokFit (t : Tok) : Prop := (Lit.int .i64 t.kind).wf = true ∧ (Lit.int .i64 t.place).wf = true ∧ ∀ p ∈ t.attrs, prFit p

theorem sum_len {α : Type} (f : α → Nat) (h : ∀ x, 1 ≤ f x) (l : List α) : l.length ≤ (l.map f).sum := by
  induction l with
  | nil => simp
  | cons x l ih => simp only [List.map_cons, List.sum_cons, List.length_cons]; have := h x; omega
theorem prs_len (l : List Pr) : l.length ≤ prsMass l := sum_len _ (fun p => by unfold prMass; omega) l
theorem toks_len (l : List Tok) : l.length ≤ toksMass l := sum_len _ (fun p => by unfold tokMass; omega) l

theorem bulk_all {H α : Type} (f : α → DataW H) (g : α → Nat) (l : List α) (h : ∀ x ∈ l, g x ≤ Rows.uptoBulk (f x)) : (l.map g).sum ≤ Rows.uptoBulkAll (l.map f) := by
  induction l with
  | nil => simp
  | cons x l ih =>
    simp only [List.map_cons, List.sum_cons, Rows.uptoBulkAll]
    have := h x (by simp)
    have := ih (fun y hy => h y (by simp [hy]))
    omega
section
variable {w : World} {v : Value}
theorem Prs.below {l : List Pr} {w' : World} (h : Prs w v l) {B : Nat} (hb : Below B w w') (hB : w.heap.size ≤ B) : Prs w' v l := Row.below h hb hB
theorem Toks.below {l : List Tok} {w' : World} (h : Toks w v l) {B : Nat} (hb : Below B w w') (hB : w.heap.size ≤ B) : Toks w' v l := by
  obtain ⟨r, h1, h2, h3⟩ := h
  exact ⟨r, h1, Row.below h2 hb hB, fun x hx => (h3 x hx).below hb hB⟩
theorem Prs.nil (w : World) : Prs w (.slice none 0 0) [] := Row.nil 3 w
theorem Toks.nil (w : World) : Toks w (.slice none 0 0) [] := ⟨[], rfl, Row.nil 4 w, fun x hx => by cases hx⟩
end
section
variable {P : Program} {w : World} {v : Value}
theorem Prs.len {l : List Pr} (h : Prs w v l) (t ty e : TypeId) (ht : P.underlying t = some (.slice e)) (W : World) : (Builtin.len_ #[t] ty #[v]).run P W = .ok (.int .i64 l.length) W := Row.len h t ty e ht W
theorem Toks.len {l : List Tok} (h : Toks w v l) (t ty e : TypeId) (ht : P.underlying t = some (.slice e)) (W : World) : (Builtin.len_ #[t] ty #[v]).run P W = .ok (.int .i64 l.length) W := by
  obtain ⟨r, rfl, h2, _⟩ := h
  rw [List.length_map]
  exact Row.len h2 t ty e ht W
/-- One of them. -/
theorem Prs.at {l : List Pr} (h : Prs w v l) (i : Nat) (hi : i < l.length) (t e : TypeId) (ht : P.underlying t = some (.slice e)) (hs : ∀ W, (sizeOf e).run P W = .ok 3 W) :
    ∃ b o, (∀ k W, (Instr.indexAt t v (.int k i)).run P W = .ok (.pointer (some ⟨b, o, none⟩)) W) ∧
      w.cell? ⟨b, o, none⟩ = some (.int .i64 l[i].place) ∧ w.cell? ⟨b, o + 1, none⟩ = some (.string (text l[i].name)) ∧ w.cell? ⟨b, o + 2, none⟩ = some (.string (text l[i].value)) := by
  obtain ⟨b, o, a1, a2⟩ := Row.at h (by omega) i hi t e ht hs
  have g : ∀ j, j < 3 → (l.flatMap prCells)[i * 3 + j]? = (prCells l[i])[j]? := fun j hj => by
    rw [flat_get 3 prCells (fun _ => rfl) l i j hj, List.getElem?_eq_getElem hi]; rfl
  exact ⟨b, o, a1, by simpa using a2 0 _ (by omega) (by rw [g 0 (by omega)]; rfl), a2 1 _ (by omega) (by rw [g 1 (by omega)]; rfl), a2 2 _ (by omega) (by rw [g 2 (by omega)]; rfl)⟩
theorem Toks.at {l : List Tok} (h : Toks w v l) (i : Nat) (hi : i < l.length) (t e : TypeId) (ht : P.underlying t = some (.slice e)) (hs : ∀ W, (sizeOf e).run P W = .ok 4 W) :
    ∃ b o a, (∀ k W, (Instr.indexAt t v (.int k i)).run P W = .ok (.pointer (some ⟨b, o, none⟩)) W) ∧
      w.cell? ⟨b, o, none⟩ = some (.int .i64 l[i].kind) ∧ w.cell? ⟨b, o + 1, none⟩ = some (.int .i64 l[i].place) ∧ w.cell? ⟨b, o + 2, none⟩ = some (.string (text l[i].s)) ∧ w.cell? ⟨b, o + 3, none⟩ = some a ∧ Prs w a l[i].attrs := by
  obtain ⟨r, rfl, h2, h3⟩ := h
  have hi' : i < r.length := by simpa using hi
  obtain ⟨b, o, a1, a2⟩ := Row.at h2 (by omega) i hi' t e ht hs
  have g : ∀ j, j < 4 → (r.flatMap tokCells)[i * 4 + j]? = (tokCells r[i])[j]? := fun j hj => by
    rw [flat_get 4 tokCells (fun _ => rfl) r i j hj, List.getElem?_eq_getElem hi']; rfl
  have e : (r.map (·.1))[i] = r[i].1 := by simp
  rw [e]
  exact ⟨b, o, r[i].2, a1, by simpa using a2 0 _ (by omega) (by rw [g 0 (by omega)]; rfl), a2 1 _ (by omega) (by rw [g 1 (by omega)]; rfl), a2 2 _ (by omega) (by rw [g 2 (by omega)]; rfl), a2 3 _ (by omega) (by rw [g 3 (by omega)]; rfl),
    h3 _ (List.getElem_mem hi')⟩
end

section
variable {H : Type} {enc : TypeId × Value → H} {P : Program} {w : World} {base : Nat} {spare : Nat → Bool} {held : Bool}

theorem text_data (s : ByteArray) : text s.data.toList = s := by simp [text]

/-- One field's cells of a struct whose fields are a cell each. -/
theorem field_cell {fs : Array Field} (hone : oneCellFields P fs = true) {cs : List Value} {j : Nat} {f : Field} (hj : fs[j]? = some f) {n : Nat} {y : Option (DataW H × List MemPlace)} (hl : j < cs.length)
    (h : DataW.trod enc P w base spare held n f.type ((cs.drop f.offset).take (P.cellsOf f.type)) = y) : DataW.trod enc P w base spare held n f.type [cs[j]] = y := by
  obtain ⟨o, k⟩ := hone_of hone j f hj
  rw [o, k, take1_drop cs j undef hl] at h
  simpa [List.getD, List.getElem?_eq_getElem hl] using h

instance : Inhabited Pr := ⟨⟨0, [], []⟩⟩

/-- Attributes that are read. -/
theorem open_prs {t e : TypeId} {f0 f1 f2 : Field} (ht : P.underlying t = some (.slice e)) (he : P.underlying e = some (.struct #[f0, f1, f2])) (hone : oneCellFields P #[f0, f1, f2] = true) (hC : P.cellsOf e = 3)
    (t0 : P.underlying f0.type = some (.int .i64)) (t1 : P.underlying f1.type = some .string) (t2 : P.underlying f2.type = some .string) {fuel : Nat} {v : Value} {x : DataW H × List MemPlace}
    (h : DataW.trod enc P w base spare held fuel t [v] = some x) (hs : Rows.uptoBulk x.1 ≤ 281474976710656) : ∃ l : List Pr, Prs w v l ∧ prsMass l ≤ Rows.uptoBulk x.1 ∧ ∀ p ∈ l, prFit p := by
  rcases open_slice ht h with ⟨hv, _⟩ | ⟨a, len, cap, m, n, D, Pl, hv, hb, hl, hm, hmm, rfl, hx⟩
  · obtain rfl : v = .slice none 0 0 := by simpa using hv
    exact ⟨[], Prs.nil w, by simp [prsMass], by simp⟩
  obtain rfl : v = .slice (some a) len cap := by simpa using hv
  have hlm : len ≤ m := by rw [hmm]; split <;> omega
  have each : ∀ i, i < len → ∃ p : Pr, (∀ j, j < 3 → w.cell? (a.add (i * 3 + j)) = (prCells p)[j]?) ∧ D i = .agg [.lit (.int .i64 p.place), .lit (.string p.name), .lit (.string p.value)] ∧ prFit p := by
    intro i hi
    obtain ⟨cs', h1, h2⟩ := hx i (by omega)
    rw [hC] at h1
    obtain ⟨_, hlen, hcell⟩ := World.cells?_some h1
    obtain ⟨ys, k, _, hy, _, hyl, hf⟩ := DataW.trod_struct he h2
    match ys, hyl, cs', hlen with
    | [y0, y1, y2], _, [v0, v1, v2], _ =>
      obtain ⟨n0, e0, d0, w0⟩ := DataW.trod_int t0 (field_cell (cs := [v0, v1, v2]) hone (j := 0) rfl (by simp) (hf 0 f0 rfl))
      obtain ⟨s1, e1, d1, _⟩ := DataW.trod_string t1 (field_cell (cs := [v0, v1, v2]) hone (j := 1) rfl (by simp) (hf 1 f1 rfl))
      obtain ⟨s2, e2, d2, _⟩ := DataW.trod_string t2 (field_cell (cs := [v0, v1, v2]) hone (j := 2) rfl (by simp) (hf 2 f2 rfl))
      simp only [List.getElem_cons_zero, List.getElem_cons_succ, List.cons.injEq, and_true] at e0 e1 e2
      subst e0 e1 e2 d0 d1 d2
      refine ⟨⟨n0, s1.data.toList, s2.data.toList⟩, fun j hj => ?_, by simpa using congrArg Prod.fst hy, w0⟩
      have := hcell j hj
      rw [add_add] at this
      rw [this]
      simp [prCells, text_data]
  obtain ⟨p, hp⟩ := choose_lt each
  have hlen : ((List.range len).map p).length = len := by simp
  have hbulk : prsMass ((List.range len).map p) ≤ Rows.uptoBulkAll ((List.range len).map D) := by
    unfold prsMass
    rw [List.map_map]
    refine bulk_all D (prMass ∘ p) _ fun i hi => ?_
    rw [(hp i (List.mem_range.1 hi)).2.1]
    simp [Rows.uptoBulk, Rows.uptoBulkAll, prMass]
    omega
  have hle : Rows.uptoBulkAll ((List.range len).map D) ≤ Rows.uptoBulk (.slice ((List.range len).map D) ((List.range (m - len)).map fun j => D (len + j))) := by
    simp only [Rows.uptoBulk]; omega
  refine ⟨(List.range len).map p, ?_, Nat.le_trans hbulk hle, fun q hq => ?_⟩
  · unfold Prs
    have := Row.flat (k := 3) (by omega) (f := prCells) (fun _ => rfl) (w := w) (l := (List.range len).map p) (a := a) (c := cap) (by omega) hm
      (by have := prs_len ((List.range len).map p); simp only at hs; omega)
      (fun i j q hq hj => by
        have hi : i < len := by have := (List.getElem?_eq_some_iff.1 hq).1; rwa [hlen] at this
        have : q = p i := by simpa [hi] using hq.symm
        subst this
        exact (hp i hi).1 j hj)
    rw [hlen] at this
    rw [hlen]
    exact this
  · obtain ⟨i, hi, rfl⟩ := List.mem_map.1 hq
    exact (hp i (List.mem_range.1 hi)).2.2

instance : Inhabited Tok := ⟨⟨0, 0, [], []⟩⟩

/-- Tokens that are read. -/
theorem open_toks {t e ta ea : TypeId} {f0 f1 f2 f3 g0 g1 g2 : Field} (ht : P.underlying t = some (.slice e)) (he : P.underlying e = some (.struct #[f0, f1, f2, f3])) (hone : oneCellFields P #[f0, f1, f2, f3] = true) (hC : P.cellsOf e = 4)
    (t0 : P.underlying f0.type = some (.int .i64)) (t1 : P.underlying f1.type = some (.int .i64)) (t2 : P.underlying f2.type = some .string) (t3 : f3.type = ta)
    (hta : P.underlying ta = some (.slice ea)) (hea : P.underlying ea = some (.struct #[g0, g1, g2])) (honea : oneCellFields P #[g0, g1, g2] = true) (hCa : P.cellsOf ea = 3)
    (u0 : P.underlying g0.type = some (.int .i64)) (u1 : P.underlying g1.type = some .string) (u2 : P.underlying g2.type = some .string) {fuel : Nat} {v : Value} {x : DataW H × List MemPlace}
    (h : DataW.trod enc P w base spare held fuel t [v] = some x) (hs : Rows.uptoBulk x.1 ≤ 281474976710656) : ∃ l : List Tok, Toks w v l ∧ toksMass l ≤ Rows.uptoBulk x.1 ∧ ∀ p ∈ l, tokFit p := by
  rcases open_slice ht h with ⟨hv, _⟩ | ⟨a, len, cap, m, n, D, Pl, hv, hb, hl, hm, hmm, rfl, hx⟩
  · obtain rfl : v = .slice none 0 0 := by simpa using hv
    exact ⟨[], Toks.nil w, by simp [toksMass], by simp⟩
  obtain rfl : v = .slice (some a) len cap := by simpa using hv
  have hlm : len ≤ m := by rw [hmm]; split <;> omega
  have hle : Rows.uptoBulkAll ((List.range len).map D) ≤ Rows.uptoBulk (.slice ((List.range len).map D) ((List.range (m - len)).map fun j => D (len + j))) := by
    simp only [Rows.uptoBulk]; omega
  have hone' : ∀ i, i < len → Rows.uptoBulk (D i) ≤ Rows.uptoBulkAll ((List.range len).map D) := fun i hi => by
    have : ∀ l : List Nat, i ∈ l → Rows.uptoBulk (D i) ≤ Rows.uptoBulkAll (l.map D) := by
      intro l
      induction l with
      | nil => simp
      | cons y l ih =>
        intro hm
        simp only [List.map_cons, Rows.uptoBulkAll]
        rcases List.mem_cons.1 hm with rfl | hm
        · omega
        · have := ih hm; omega
    exact this _ (List.mem_range.2 hi)
  have each : ∀ i, i < len → ∃ p : Tok × Value, (∀ j, j < 4 → w.cell? (a.add (i * 4 + j)) = (tokCells p)[j]?) ∧ Prs w p.2 p.1.attrs ∧ tokMass p.1 ≤ Rows.uptoBulk (D i) ∧ tokFit p.1 := by
    intro i hi
    obtain ⟨cs', h1, h2⟩ := hx i (by omega)
    rw [hC] at h1
    obtain ⟨_, hlen, hcell⟩ := World.cells?_some h1
    obtain ⟨ys, k, _, hy, _, hyl, hf⟩ := DataW.trod_struct he h2
    match ys, hyl, cs', hlen with
    | [y0, y1, y2, y3], _, [v0, v1, v2, v3], _ =>
      obtain ⟨n0, e0, d0, w0⟩ := DataW.trod_int t0 (field_cell (cs := [v0, v1, v2, v3]) hone (j := 0) rfl (by simp) (hf 0 f0 rfl))
      obtain ⟨n1, e1, d1, w1⟩ := DataW.trod_int t1 (field_cell (cs := [v0, v1, v2, v3]) hone (j := 1) rfl (by simp) (hf 1 f1 rfl))
      obtain ⟨s2, e2, d2, _⟩ := DataW.trod_string t2 (field_cell (cs := [v0, v1, v2, v3]) hone (j := 2) rfl (by simp) (hf 2 f2 rfl))
      have h3 : DataW.trod enc P w base spare held k f3.type [v3] = some y3 := field_cell (cs := [v0, v1, v2, v3]) hone (j := 3) rfl (by simp) (hf 3 f3 rfl)
      simp only [List.getElem_cons_zero, List.getElem_cons_succ, List.cons.injEq, and_true] at e0 e1 e2
      subst e0 e1 e2 d0 d1 d2
      have hD : D i = .agg [.lit (.int .i64 n0), .lit (.int .i64 n1), .lit (.string s2.data.toList), y3.1] := by simpa using congrArg Prod.fst hy
      have hi1 := hone' i hi
      have hbD : Rows.uptoBulk (D i) = s2.data.toList.length + Rows.uptoBulk y3.1 + 4 := by
        rw [hD]; simp only [Rows.uptoBulk, Rows.uptoBulkAll]; omega
      rw [t3] at h3
      obtain ⟨l, hl1, hl2, hl3⟩ := open_prs hta hea honea hCa u0 u1 u2 h3 (by simp only at hs; omega)
      refine ⟨(⟨n0, n1, s2.data.toList, l⟩, v3), fun j hj => ?_, hl1, by rw [hbD]; unfold tokMass; simp only; omega, w0, w1, hl3⟩
      have := hcell j hj
      rw [add_add] at this
      rw [this]
      simp [tokCells, text_data]
  have inh : Inhabited (Tok × Value) := ⟨(default, undef)⟩
  obtain ⟨p, hp⟩ := choose_lt each
  have hlen : ((List.range len).map p).length = len := by simp
  have hbulk : toksMass (((List.range len).map p).map (·.1)) ≤ Rows.uptoBulkAll ((List.range len).map D) := by
    unfold toksMass
    rw [List.map_map, List.map_map]
    exact bulk_all D _ _ fun i hi => (hp i (List.mem_range.1 hi)).2.2.1
  refine ⟨((List.range len).map p).map (·.1), ⟨(List.range len).map p, rfl, ?_, fun x hx => ?_⟩, Nat.le_trans hbulk hle, fun q hq => ?_⟩
  · have := Row.flat (k := 4) (by omega) (f := tokCells) (fun _ => rfl) (w := w) (l := (List.range len).map p) (a := a) (c := cap) (by omega) hm
      (by have := toks_len (((List.range len).map p).map (·.1)); rw [List.length_map] at this; simp only at hs; omega)
      (fun i j q hq hj => by
        have hi : i < len := by have := (List.getElem?_eq_some_iff.1 hq).1; rwa [hlen] at this
        have : q = p i := by simpa [hi] using hq.symm
        subst this
        exact (hp i hi).1 j hj)
    rw [hlen] at this
    rw [hlen]
    exact this
  · obtain ⟨i, hi, rfl⟩ := List.mem_map.1 hx
    exact (hp i (List.mem_range.1 hi)).2.1
  · obtain ⟨y, hy, rfl⟩ := List.mem_map.1 hq
    obtain ⟨i, hi, rfl⟩ := List.mem_map.1 hy
    exact (hp i (List.mem_range.1 hi)).2.2.2
/-- Tokens that came in. -/
theorem arg_toks {t e ta ea : TypeId} {f0 f1 f2 f3 g0 g1 g2 : Field} {b0 : Nat} {v : Value} {d : DataW H} {ps : List MemPlace} (ht : P.underlying t = some (.slice e)) (he : P.underlying e = some (.struct #[f0, f1, f2, f3])) (hone : oneCellFields P #[f0, f1, f2, f3] = true) (hC : P.cellsOf e = 4)
    (t0 : P.underlying f0.type = some (.int .i64)) (t1 : P.underlying f1.type = some (.int .i64)) (t2 : P.underlying f2.type = some .string) (t3 : f3.type = ta)
    (hta : P.underlying ta = some (.slice ea)) (hea : P.underlying ea = some (.struct #[g0, g1, g2])) (honea : oneCellFields P #[g0, g1, g2] = true) (hCa : P.cellsOf ea = 3)
    (u0 : P.underlying g0.type = some (.int .i64)) (u1 : P.underlying g1.type = some .string) (u2 : P.underlying g2.type = some .string)
    (hval : Value.okWide P w .any b0 t v) (h : DataW.Trod enc P w 0 (fun _ => true) true t v d ps) (hs : Rows.uptoBulk d ≤ 281474976710656) : ∃ l : List Tok, Toks w v l ∧ toksMass l ≤ Rows.uptoBulk d ∧ ∀ p ∈ l, tokFit p := by
  obtain ⟨a, n, c, rfl⟩ := okWide_slice ht hval
  obtain ⟨fuel, hf⟩ := h
  exact open_toks ht he hone hC t0 t1 t2 t3 hta hea honea hCa u0 u1 u2 (x := (d, ps)) (by simpa [Value.cells] using hf) hs
end
end Go.Proofs.YthodmdfbahkflaaGreatDoor.Tok
namespace Go.Proofs.YthodmdfbahkflaaGreatDoor.Tok
open Go Go.Proofs.YthodmdfbahkflaaGreatDoor Go.RowKit

/-- Attributes that are owned. -/
def OwnP (B : Nat) (ep : TypeId) (w : World) (v : Value) (l : List Pr) : Prop := w.ownsRow B ep 3 v l.length (l.flatMap prCells)
/-- Tokens that are owned, and their attributes. -/
def OwnT (B : Nat) (et ep : TypeId) (w : World) (v : Value) (l : List Tok) : Prop :=
  ∃ r : List (Tok × Value), r.map (·.1) = l ∧ w.ownsRow B et 4 v r.length (r.flatMap tokCells) ∧ ∀ x ∈ r, OwnP B ep w x.2 x.1.attrs

section
variable {B : Nat} {et ep : TypeId} {w w' : World} {v v' a : Value}

theorem OwnP.one_cell {l : List Pr} (h : OwnP B ep w a l) : a.oneCell' = true := by
  rcases h.2 with ⟨rfl, _⟩ | ⟨g, cap, cur, rfl, _⟩ <;> rfl
theorem tokCells_one (t : Tok) (a : Value) (ha : a.oneCell' = true) : ∀ u ∈ tokCells (t, a), u.oneCell' = true := by
  intro u hu
  simp only [tokCells, List.mem_cons, List.mem_nil_iff, or_false] at hu
  rcases hu with rfl | rfl | rfl | rfl
  · rfl
  · rfl
  · rfl
  · exact ha

theorem OwnP.nil (B : Nat) (ep : TypeId) (w : World) : OwnP B ep w (.slice none 0 0) [] := ⟨by simp, .inl ⟨rfl, rfl⟩⟩
theorem OwnT.nil (B : Nat) (et ep : TypeId) (w : World) : OwnT B et ep w (.slice none 0 0) [] := ⟨[], rfl, ⟨by simp, .inl ⟨rfl, rfl⟩⟩, fun x hx => by cases hx⟩

theorem OwnP.prs {l : List Pr} (h : OwnP B ep w v l) (hn : l.length ≤ 281474976710656) : Prs w v l := Row.ofOwns h hn
theorem OwnT.toks {l : List Tok} (h : OwnT B et ep w v l) (hn : toksMass l ≤ 281474976710656) : Toks w v l := by
  obtain ⟨r, rfl, h2, h3⟩ := h
  have hl := toks_len (r.map (·.1))
  rw [List.length_map] at hl
  refine ⟨r, rfl, Row.ofOwns h2 (by omega), fun x hx => (h3 x hx).prs ?_⟩
  have h1 := prs_len x.1.attrs
  have h4 : tokMass x.1 ≤ toksMass (r.map (·.1)) := by
    unfold toksMass
    clear h2 h3 hn hl
    induction r with
    | nil => cases hx
    | cons y r ih =>
      simp only [List.map_cons, List.sum_cons]
      rcases List.mem_cons.1 hx with rfl | hx
      · omega
      · have := ih hx; omega
  unfold tokMass at h4
  omega

/-- The old blocks are as they were. -/
theorem OwnP.later {l : List Pr} (h : OwnP B ep w v l) (hb : Below w.heap.size w w') : OwnP B ep w' v l := owns_later h hb
theorem OwnT.later {l : List Tok} (h : OwnT B et ep w v l) (hb : Below w.heap.size w w') : OwnT B et ep w' v l := by
  obtain ⟨r, h1, h2, h3⟩ := h
  exact ⟨r, h1, owns_later h2 hb, fun x hx => (h3 x hx).later hb⟩
theorem OwnP.base {B' : Nat} {l : List Pr} (h : OwnP B ep w v l) (hB : B' ≤ B) : OwnP B' ep w v l := by
  obtain ⟨h1, h2⟩ := h
  refine ⟨h1, ?_⟩
  rcases h2 with h2 | ⟨g, cap, cur, hv, hg, r⟩
  · exact .inl h2
  · exact .inr ⟨g, cap, cur, hv, Nat.le_trans hB hg, r⟩
theorem OwnT.base {B' : Nat} {l : List Tok} (h : OwnT B et ep w v l) (hB : B' ≤ B) : OwnT B' et ep w v l := by
  obtain ⟨r, h1, ⟨h2, h4⟩, h3⟩ := h
  refine ⟨r, h1, ⟨h2, ?_⟩, fun x hx => (h3 x hx).base hB⟩
  rcases h4 with h4 | ⟨g, cap, cur, hv, hg, r⟩
  · exact .inl h4
  · exact .inr ⟨g, cap, cur, hv, Nat.le_trans hB hg, r⟩
/-- A row of other things has grown. -/
theorem OwnP.kept {l : List Pr} (h : OwnP B ep w a l) {B' : Nat} {e : TypeId} (hne : ep ≠ e) {sz n : Nat} {xs : List Value} (h' : w.ownsRow B' e sz v n xs) (hg : w.grownBy w' v.ownBlock) : OwnP B ep w' a l :=
  World.ownsRow.kept h hg (owns_apart hne h h')
theorem OwnT.kept {l : List Tok} (h : OwnT B et ep w v l) {B' : Nat} {e : TypeId} (h1 : et ≠ e) (h2 : ep ≠ e) {sz n : Nat} {xs : List Value} {u : Value} (h' : w.ownsRow B' e sz u n xs) (hg : w.grownBy w' u.ownBlock) : OwnT B et ep w' v l := by
  obtain ⟨r, k1, k2, k3⟩ := h
  exact ⟨r, k1, World.ownsRow.kept k2 hg (owns_apart h1 k2 h'), fun x hx => (k3 x hx).kept h2 h' hg⟩
/-- One attribute more. -/
theorem OwnP.snoc {l : List Pr} {p : Pr} (h : w'.ownsRow B ep 3 v' (l.length + 1) (l.flatMap prCells ++ prCells p)) : OwnP B ep w' v' (l ++ [p]) := by
  unfold OwnP
  rw [List.length_append, List.flatMap_append, List.flatMap_singleton]
  exact h
/-- One token more: what an append of it is given, and what it leaves. -/
theorem OwnT.snoc {l : List Tok} {t : Tok} (hne : ep ≠ et) (h : OwnT B et ep w v l) (ha : OwnP B ep w a t.attrs) :
    ∃ xs, w.ownsRow B et 4 v l.length xs ∧ ∀ v' w', w'.ownsRow B et 4 v' (l.length + 1) (xs ++ tokCells (t, a)) → w.grownBy w' v.ownBlock → OwnT B et ep w' v' (l ++ [t]) := by
  obtain ⟨r, rfl, h2, h3⟩ := h
  refine ⟨r.flatMap tokCells, by rw [List.length_map]; exact h2, fun v' w' k1 hg => ⟨r ++ [(t, a)], by simp, ?_, fun x hx => ?_⟩⟩
  · rw [List.length_append, List.flatMap_append, List.flatMap_singleton]
    rw [List.length_map] at k1
    exact k1
  · rcases List.mem_append.1 hx with hx | hx
    · exact (h3 x hx).kept hne h2 hg
    · obtain rfl : x = (t, a) := by simpa using hx
      exact ha.kept hne h2 hg
theorem OwnT.lt {l : List Tok} (h : OwnT B et ep w v l) : ∀ k, v.ownBlock = some k → B ≤ k ∧ k < w.heap.size := by
  obtain ⟨r, rfl, h2, h3⟩ := h
  exact fun k hk => h2.lt k hk
end
end Go.Proofs.YthodmdfbahkflaaGreatDoor.Tok
