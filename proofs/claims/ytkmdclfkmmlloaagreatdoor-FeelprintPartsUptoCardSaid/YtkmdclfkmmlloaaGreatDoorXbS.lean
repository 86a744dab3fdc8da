/- Layer 9, mathematics that hangs on no program: names in the order of their bytes, each once; the longest that words begin with. | Layer 9: sort.Search against whatever closure that reads; slices.BinarySearch at texts; a scope in memory; contract of Has. | Layer 9: rows of texts that the call owns: slices.Clone, Sort, Compact; in order, each once. | Layer 9: slices.IndexFunc, ContainsFunc and DeleteFunc at the functions that the code hands them. | Layer 9, mathematics that hangs on no program: names that begin with a text, in their order; the longest among names of two rows. | Layer 9: contracts of goingOn and Longest. | Layer 9: contract of Longest. | Layer 9: a scope by what it tells; contracts of Len, of within at no scope, and of With against within. | Layer 9: rows of texts as arguments. | Layer 9: what the statements share: great, alive; contracts of the document's own Has and Longest. -/
import Derived.Test.YtkmdclfkmmlloaaGreatDoorXbM
import Derived.Deep.LoopGhost
import Derived.Deep.QuietTactic
import Derived.BigQuiet
import Derived.Sort.Walk0
import Derived.Test.YtkmdclfkmmlloaaGreatDoorApp
import Derived.Test.YtkmdclfkmmlloaaGreatDoorShelf
import Derived.Lib.SlicesCompact
import Derived.Lib.SlKept
import Derived.Lib.SliceRun
import Derived.Sort.WalkB12
import Derived.Shelf.GgClosure.Gives
import Derived.Shelf.SlicesE.DeleteFunc
import Derived.Test.YtkmdclfkmmlloaaGreatDoorRange
import Derived.Test.YtkmdclfkmmlloaaGreatDoorOpen
import Derived.Test.YtkmdclfkmmlloaaGreatDoorRows
import Derived.SliceStrings
set_option linter.unusedVariables false
set_option linter.unusedSimpArgs false
namespace Go.Proofs.YtkmdclfkmmlloaaGreatDoor.Sc
open Go Go.Op

theorem less_irrefl : ∀ a : List UInt8, bytesLess a a = false
  | [] => rfl
  | a :: x => by
    have h := less_irrefl x
    unfold bytesLess
    rw [h]
    simp
theorem less_cons {a b : UInt8} {x y : List UInt8} : bytesLess (a :: x) (b :: y) = true ↔ a < b ∨ (a = b ∧ bytesLess x y = true) := by
  show (decide (a < b) || (a == b && bytesLess x y)) = true ↔ _
  rw [Bool.or_eq_true, Bool.and_eq_true, decide_eq_true_iff, beq_iff_eq]
theorem less_nil (a : List UInt8) : bytesLess a [] = false := by cases a <;> rfl
theorem less_trans : ∀ {a b c : List UInt8}, bytesLess a b = true → bytesLess b c = true → bytesLess a c = true
  | a, [], c, h1, _ => by rw [less_nil] at h1; cases h1
  | a, b :: y, [], _, h2 => by rw [less_nil] at h2; cases h2
  | [], b :: y, c :: z, _, _ => rfl
  | a :: x, b :: y, c :: z, h1, h2 => by
    rw [less_cons] at h1 h2 ⊢
    rcases h1 with h1 | ⟨rfl, h1⟩ <;> rcases h2 with h2 | ⟨rfl, h2⟩
    · exact .inl (UInt8.lt_trans h1 h2)
    · exact .inl h1
    · exact .inl h2
    · exact .inr ⟨rfl, less_trans h1 h2⟩
theorem less_total : ∀ {a b : List UInt8}, a ≠ b → bytesLess a b = true ∨ bytesLess b a = true
  | [], [], h => absurd rfl h
  | [], b :: y, _ => .inl rfl
  | a :: x, [], _ => .inr rfl
  | a :: x, b :: y, h => by
    rw [less_cons, less_cons]
    by_cases e : a = b
    · subst e
      have hx : x ≠ y := fun e => h (by rw [e])
      rcases less_total hx with h | h
      · exact .inl (.inr ⟨rfl, h⟩)
      · exact .inr (.inr ⟨rfl, h⟩)
    · have hn : a.toNat ≠ b.toNat := fun x => e (UInt8.toNat_inj.1 x)
      rcases Nat.lt_or_gt_of_ne hn with h | h
      · exact .inl (.inl (UInt8.lt_iff_toNat_lt.2 h))
      · exact .inr (.inl (UInt8.lt_iff_toNat_lt.2 h))
theorem less_ne {a b : List UInt8} (h : bytesLess a b = true) : a ≠ b := fun e => by rw [e, less_irrefl] at h; cases h
theorem less_asymm {a b : List UInt8} (h : bytesLess a b = true) : bytesLess b a = false := by
  cases h2 : bytesLess b a
  · rfl
  · have := less_trans h h2; rw [less_irrefl] at this; cases this

/-- In their order, each once. -/
def Rise (l : List (List UInt8)) : Prop := l.Pairwise (fun a b => bytesLess a b = true)
theorem Rise.unique : ∀ {a b : List (List UInt8)}, Rise a → Rise b → (∀ x, x ∈ a ↔ x ∈ b) → a = b
  | [], [], _, _, _ => rfl
  | [], y :: b, _, _, h => by have := (h y).2 (by simp); cases this
  | x :: a, [], _, _, h => by have := (h x).1 (by simp); cases this
  | x :: a, y :: b, ha, hb, h => by
    have ha' := List.pairwise_cons.1 ha
    have hb' := List.pairwise_cons.1 hb
    have e : x = y := by
      rcases List.mem_cons.1 ((h x).1 (by simp)) with e | hx
      · exact e
      rcases List.mem_cons.1 ((h y).2 (by simp)) with e | hy
      · exact e.symm
      have h1 := hb'.1 x hx
      have h2 := ha'.1 y hy
      rw [less_asymm h1] at h2; cases h2
    subst e
    congr 1
    refine Rise.unique ha'.2 hb'.2 fun z => ?_
    constructor
    · intro hz
      rcases List.mem_cons.1 ((h z).1 (List.mem_cons_of_mem _ hz)) with e | h3
      · exact absurd e.symm (less_ne (ha'.1 z hz))
      · exact h3
    · intro hz
      rcases List.mem_cons.1 ((h z).2 (List.mem_cons_of_mem _ hz)) with e | h3
      · exact absurd e.symm (less_ne (hb'.1 z hz))
      · exact h3

/-- One more name. -/
def ins (x : List UInt8) : List (List UInt8) → List (List UInt8)
  | [] => [x]
  | y :: l => if x = y then y :: l else if bytesLess x y = true then x :: y :: l else y :: ins x l
theorem ins_mem (x : List UInt8) : ∀ (l : List (List UInt8)) (z : List UInt8), z ∈ ins x l ↔ z = x ∨ z ∈ l
  | [], z => by simp [ins]
  | y :: l, z => by
    unfold ins
    split
    · rename_i h; subst h; simp
    · split
      · simp
      · rw [List.mem_cons, ins_mem x l z, List.mem_cons]
        constructor
        · rintro (h | h | h)
          · exact .inr (.inl h)
          · exact .inl h
          · exact .inr (.inr h)
        · rintro (h | h | h)
          · exact .inr (.inl h)
          · exact .inl h
          · exact .inr (.inr h)
theorem ins_rise (x : List UInt8) : ∀ {l : List (List UInt8)}, Rise l → Rise (ins x l)
  | [], _ => by unfold ins Rise; simp
  | y :: l, h => by
    have h' := List.pairwise_cons.1 h
    unfold ins
    split
    · exact h
    · rename_i hxy
      split
      · rename_i hl
        refine List.pairwise_cons.2 ⟨fun z hz => ?_, h⟩
        rcases List.mem_cons.1 hz with e | hz
        · rw [e]; exact hl
        · exact less_trans hl (h'.1 z hz)
      · rename_i hl
        refine List.pairwise_cons.2 ⟨fun z hz => ?_, ins_rise x h'.2⟩
        rcases (ins_mem x l z).1 hz with e | hz
        · rw [e]; exact (less_total hxy).resolve_left hl
        · exact h'.1 z hz
/-- More names. -/
def put (l more : List (List UInt8)) : List (List UInt8) := more.foldl (fun l x => ins x l) l
theorem put_mem (more : List (List UInt8)) : ∀ (l : List (List UInt8)) (z : List UInt8), z ∈ put l more ↔ z ∈ l ∨ z ∈ more := by
  induction more with
  | nil => intro l z; simp [put]
  | cons x more ih =>
    intro l z
    show z ∈ put (ins x l) more ↔ _
    rw [ih, ins_mem, List.mem_cons]
    constructor
    · rintro ((h | h) | h)
      · exact .inr (.inl h)
      · exact .inl h
      · exact .inr (.inr h)
    · rintro (h | h | h)
      · exact .inl (.inr h)
      · exact .inl (.inl h)
      · exact .inr h
theorem put_rise (more : List (List UInt8)) : ∀ {l : List (List UInt8)}, Rise l → Rise (put l more) := by
  induction more with
  | nil => intro l h; exact h
  | cons x more ih => intro l h; exact ih (ins_rise x h)
/-- Words, with a blank between two. -/
def said : List (List UInt8) → List UInt8
  | [] => []
  | [w] => w
  | w :: x :: r => w ++ 32 :: said (x :: r)
end Go.Proofs.YtkmdclfkmmlloaaGreatDoor.Sc
namespace Go.Proofs.YtkmdclfkmmlloaaGreatDoor.Sc
open Go Go.Proofs.YtkmdclfkmmlloaaGreatDoor Go.Proofs.YtkmdclfkmmlloaaGreatDoor.Utf Go.Proofs.YtkmdclfkmmlloaaGreatDoor.Names Go.RowKit
set_option maxRecDepth 100000

theorem below_drewN (w : World) {W : World} {B : Nat} (h : Below B w W) (q : Nat) : Below B w (W.drewN q) := ⟨h.os, h.tape, h.output, h.size, h.block⟩

theorem tlist (l : List UInt8) : (text l).toList = l := Names.text_list l
theorem teq (a b : List UInt8) : ((text a).toList == (text b).toList) = decide (a = b) := by
  rw [tlist, tlist]
  by_cases h : a = b
  · subst h; simp
  · rw [decide_eq_false h, beq_eq_false_iff_ne]; exact h
/-- Of texts in their order: the first place from which on they aren't less. -/
def cutAt (l : List (List UInt8)) (x : List UInt8) (k : Nat) : Prop := k ≤ l.length ∧ (∀ t y, l[t]? = some y → t < k → Op.bytesLess y x = true) ∧ (∀ t y, l[t]? = some y → k ≤ t → Op.bytesLess y x = false)
/-- What lies in the blocks D lies there still. -/
def Same (D : Nat → Prop) (w W : World) : Prop := ∀ b, D b → W.heap[b]? = w.heap[b]?
theorem Same.cell {D : Nat → Prop} {w W : World} (h : Same D w W) {b o : Nat} (hb : D b) : W.cell? ⟨b, o, none⟩ = w.cell? ⟨b, o, none⟩ := by simp only [World.cell?, h b hb]
theorem Same.trans {D : Nat → Prop} {a b c : World} (h : Same D a b) (k : Same D b c) : Same D a c := fun x hx => (k x hx).trans (h x hx)
theorem Same.mono {D E : Nat → Prop} {w W : World} (h : Same D w W) (he : ∀ b, E b → D b) : Same E w W := fun b hb => h b (he b hb)
theorem Same.refl (D : Nat → Prop) (w : World) : Same D w w := fun _ _ => rfl
theorem same_below {B : Nat} {w W : World} (h : Below B w W) : Same (· < B) w W := fun b hb => h.block b hb

/-- A row of texts that lies in the blocks D. -/
def StrsD (D : Nat → Prop) (w : World) (v : Value) (l : List (List UInt8)) : Prop := Strs w v l ∧ ∀ b o n c, v = .slice (some ⟨b, o, none⟩) n c → 0 < n → D b
theorem StrsD.same {D : Nat → Prop} {w W : World} {v : Value} {l : List (List UInt8)} (h : StrsD D w v l) (hs : Same D w W) : StrsD D W v l := by
  refine ⟨?_, h.2⟩
  obtain ⟨⟨⟨a, c, rfl, h1, h2, h3, h4, h5⟩, h6⟩, h7⟩ := h
  refine ⟨⟨a, c, rfl, h1, h2, h3, h4, fun hx => ?_⟩, h6⟩
  obtain ⟨b, off, rfl, h8⟩ := h5 hx
  refine ⟨b, off, rfl, fun j u hj => ?_⟩
  rw [hs.cell (h7 b off _ _ rfl (by rw [strsOf_length] at hx; exact hx))]
  exact h8 j u hj
theorem StrsD.mono {D E : Nat → Prop} {w : World} {v : Value} {l : List (List UInt8)} (h : StrsD D w v l) (he : ∀ b, D b → E b) : StrsD E w v l := ⟨h.1, fun b o n c e hn => he b (h.2 b o n c e hn)⟩
theorem StrsD.lt {D : Nat → Prop} {w : World} {v : Value} {l : List (List UInt8)} (h : Strs w v l) : StrsD (· < w.heap.size) w v l := by
  refine ⟨h, fun b o n c e hn => ?_⟩
  obtain ⟨⟨a, c', e2, h1, h2, h3, h4, h5⟩, h6⟩ := h
  rw [e2] at e
  obtain ⟨rfl, rfl, rfl⟩ : a = some ⟨b, o, none⟩ ∧ l.length = n ∧ c' = c := by injection e with e1 e2 e3; exact ⟨e1, e2, e3⟩
  obtain ⟨b', off, e1, h8⟩ := h5 (by rw [strsOf_length]; exact hn)
  obtain ⟨rfl, rfl⟩ : b = b' ∧ o = off := by injection e1 with e1; injection e1 with e1 e2; exact ⟨e1, e2⟩
  have := h8 0 (.string (text l[0])) (by simp [strsOf, hn])
  exact World.block_lt_of_cell? _ _ this

/-- A scope in memory, in the blocks D: the names of its own first, then those of the one that it goes on with. -/
def IsSc (D : Nat → Prop) (w : World) : Option Addr → List (List (List UInt8)) → Prop
  | p, [] => p = none
  | p, l :: ls => ∃ b po v, p = some ⟨b, 0, none⟩ ∧ D b ∧ w.cell? ⟨b, 0, none⟩ = some (.pointer po) ∧ w.cell? ⟨b, 1, none⟩ = some v ∧ w.cell? ⟨b, 2, none⟩ = some (.int .i64 ((l :: ls).flatten.length : Nat)) ∧ StrsD D w v l ∧ IsSc D w po ls
theorem IsSc.same {D : Nat → Prop} {w W : World} (hs : Same D w W) : ∀ {ls : List (List (List UInt8))} {p : Option Addr}, IsSc D w p ls → IsSc D W p ls
  | [], p, h => h
  | l :: ls, p, h => by
    obtain ⟨b, po, v, e, hb, c0, c1, c2, hv, hn⟩ := h
    exact ⟨b, po, v, e, hb, (hs.cell hb).trans c0, (hs.cell hb).trans c1, (hs.cell hb).trans c2, hv.same hs, IsSc.same hs hn⟩
theorem IsSc.mono {D E : Nat → Prop} {w : World} (he : ∀ b, D b → E b) : ∀ {ls : List (List (List UInt8))} {p : Option Addr}, IsSc D w p ls → IsSc E w p ls
  | [], p, h => h
  | l :: ls, p, h => by
    obtain ⟨b, po, v, e, hb, c0, c1, c2, hv, hn⟩ := h
    exact ⟨b, po, v, e, he b hb, c0, c1, c2, hv.mono he, IsSc.mono he hn⟩
theorem IsSc.none {D : Nat → Prop} {w : World} {ls : List (List (List UInt8))} (h : IsSc D w none ls) : ls = [] := by
  cases ls with
  | nil => rfl
  | cons l ls => obtain ⟨b, po, v, e, _⟩ := h; cases e
theorem IsSc.later {w W : World} {p : Option Addr} {ls : List (List (List UInt8))} (h : IsSc (· < w.heap.size) w p ls) (hb : Below w.heap.size w W) : IsSc (· < W.heap.size) W p ls :=
  (h.same (same_below hb)).mono fun b hb' => Nat.lt_of_lt_of_le hb' hb.size

theorem IsSc.drew {D : Nat → Prop} {w : World} {p : Option Addr} {ls : List (List (List UInt8))} (h : IsSc D w p ls) (q : Nat) : IsSc D (w.drewN q) p ls := IsSc.same (w := w) (W := w.drewN q) (fun _ _ => rfl) h

end Go.Proofs.YtkmdclfkmmlloaaGreatDoor.Sc
namespace Go.Proofs.YtkmdclfkmmlloaaGreatDoor.Sc
open Go Go.Proofs.YtkmdclfkmmlloaaGreatDoor Go.Proofs.YtkmdclfkmmlloaaGreatDoor.Utf Go.Proofs.YtkmdclfkmmlloaaGreatDoor.Names Go.RowKit Go.Sort Go.Lib
set_option maxRecDepth 100000

/-- A row of texts that the call owns. -/
def OwnS (B : Nat) (w : World) (v : Value) (l : List (List UInt8)) : Prop := w.ownsRow B 9 1 v l.length (strsOf l)
theorem OwnS.nil (B : Nat) (w : World) : OwnS B w (.slice none 0 0) [] := ⟨by simp [strsOf], .inl ⟨rfl, rfl⟩⟩
theorem OwnS.strs {B : Nat} {w : World} {v : Value} {l : List (List UInt8)} (h : OwnS B w v l) (hn : l.length ≤ 281474976710656) : Strs w v l := Row.ofOwns h hn
theorem OwnS.base {B C : Nat} {w : World} {v : Value} {l : List (List UInt8)} (h : OwnS B w v l) (hc : C ≤ B) : OwnS C w v l := by
  obtain ⟨h1, h2⟩ := h
  refine ⟨h1, ?_⟩
  rcases h2 with h2 | ⟨g, cap, cur, e, hB, r⟩
  · exact .inl h2
  · exact .inr ⟨g, cap, cur, e, Nat.le_trans hc hB, r⟩
theorem OwnS.form {B : Nat} {w : World} {v : Value} {l : List (List UInt8)} (h : OwnS B w v l) : (v = .slice none 0 0 ∧ l = []) ∨ ∃ g cap, v = .slice (some ⟨g, 0, none⟩) l.length cap ∧ B ≤ g ∧ g < w.heap.size ∧ l.length ≤ cap ∧ cap ≤ maxLen ∧ Holds encStr w g 0 l.toArray := by
  obtain ⟨h1, h2⟩ := h
  rcases h2 with ⟨rfl, h0⟩ | ⟨g, cap, cur, rfl, hB, hg, hn, hc, hs, ht⟩
  · exact .inl ⟨rfl, List.eq_nil_of_length_eq_zero h0⟩
  · refine .inr ⟨g, cap, rfl, hB, (Array.getElem?_eq_some_iff.1 hg).1, hn, hc, fun j hj => ?_⟩
    have hj' : j < l.length := by simpa using hj
    constructor
    · have e1 : cur[j]? = some (encStr l.toArray[j]!) := by
        have e0 : (cur.toList.take (l.length * 1))[j]? = (strsOf l)[j]? := by rw [ht]
        rw [List.getElem?_take, if_pos (by omega)] at e0
        rw [← Array.getElem?_toList, e0]
        simp [strsOf, hj', text]
      simp only [World.cell?, hg]
      simpa using e1
    · simp [World.frozen?, hg]
theorem OwnS.put {B : Nat} {w : World} {g cap : Nat} {l : List (List UInt8)} (h : OwnS B w (.slice (some ⟨g, 0, none⟩) l.length cap) l) (r z : List (List UInt8)) (hd : r.length + z.length = l.length) (q : Nat) (os : Array Obj) :
    OwnS B (grow (putRow encStr (Sort.ahead w q) g 0 (r ++ z).toArray) os) (.slice (some ⟨g, 0, none⟩) r.length cap) r ∧ Below B w (grow (putRow encStr (Sort.ahead w q) g 0 (r ++ z).toArray) os) := by
  obtain ⟨h1, h2⟩ := h
  rcases h2 with ⟨h2, h0⟩ | ⟨g', cap', cur, e, hB, hg, hn, hc, hs, ht⟩
  · cases h2
  obtain ⟨rfl, rfl⟩ : g' = g ∧ cap' = cap := by injection e with e1 e2 e3; injection e1 with e1; injection e1 with e1; exact ⟨e1.symm, e3.symm⟩
  have hlt : g' < w.heap.size := (Array.getElem?_eq_some_iff.1 hg).1
  have hh : (grow (putRow encStr (Sort.ahead w q) g' 0 (r ++ z).toArray) os).heap[g']? = some (.cells (putCells encStr 0 (r ++ z).toArray cur) 9 (0, 0)) := by
    rw [heap_grow_old _ _ (by simpa using hlt)]
    show (w.heap.modify g' (onCells (putCells encStr 0 (r ++ z).toArray)))[g']? = _
    rw [Array.getElem?_modify, if_pos rfl, hg]
    rfl
  refine ⟨⟨by simp [strsOf], .inr ⟨g', cap', _, rfl, hB, hh, by omega, hc, by simpa [putCells] using hs, ?_⟩⟩, ⟨rfl, rfl, rfl, by simp, fun k hk => ?_⟩⟩
  · apply List.ext_getElem?
    intro j
    rw [List.getElem?_take]
    by_cases hj : j < r.length
    · rw [if_pos (by omega), Array.getElem?_toList]
      have hjc : j < cur.size := by omega
      simp only [putCells, Array.getElem?_mapIdx]
      rw [Array.getElem?_eq_getElem hjc]
      simp only [Option.map_some, Nat.zero_le, Nat.zero_add, true_and, List.size_toArray, List.length_append, Nat.sub_zero]
      rw [if_pos (by omega)]
      have hjr : j < (r ++ z).length := by simp; omega
      simp [strsOf, hj, text, getElem!_pos, hjr, List.getElem?_append_left]
    · rw [if_neg (by omega), eq_comm]
      simp [strsOf]; omega
  · rw [heap_grow_old _ _ (by simp; omega)]
    show (w.heap.modify g' _)[k]? = _
    rw [Array.getElem?_modify, if_neg (by omega)]
theorem OwnS.later {B : Nat} {w W : World} {v : Value} {l : List (List UInt8)} (h : OwnS B w v l) (hb : Below w.heap.size w W) : OwnS B W v l := owns_later h hb

/-- In their order. -/
def srt (l : List (List UInt8)) : List (List UInt8) := l.mergeSort fun x y => decide (x ≤ y)
theorem le_less (x y : List UInt8) : decide (x ≤ y) = !Op.bytesLess y x := by
  rw [bytesLess_eq]
  by_cases h : y < x
  · rw [decide_eq_true h, decide_eq_false (fun h2 => h2 h)]; rfl
  · rw [decide_eq_false h, decide_eq_true (show x ≤ y from h)]; rfl
theorem srt_perm (l : List (List UInt8)) : (srt l).Perm l := List.mergeSort_perm _ _
theorem srt_length (l : List (List UInt8)) : (srt l).length = l.length := (srt_perm l).length_eq
theorem srt_rise (l : List (List UInt8)) : (srt l).Pairwise fun a b => Op.bytesLess b a = false := by
  have := List.pairwise_mergeSort (le := fun x y : List UInt8 => decide (x ≤ y)) (fun a b c h1 h2 => by
    rw [le_less] at *
    simp only [Bool.not_eq_true'] at *
    cases h : Op.bytesLess c a
    · rfl
    · by_cases e : b = c
      · subst e; rw [h] at h1; cases h1
      · rcases less_total e with h3 | h3
        · have := less_trans h3 h; rw [h1] at this; cases this
        · rw [h2] at h3; cases h3) (fun a b => by
    rw [le_less, le_less]
    cases h : Op.bytesLess b a
    · rfl
    · rw [less_asymm h]; rfl) l
  refine this.imp fun {a b} h => ?_
  rw [le_less] at h
  simpa using h
/-- In their order, each once. -/
def norm (l : List (List UInt8)) : List (List UInt8) := compactUpTo (srt l).toArray (srt l).length
theorem norm_facts (l : List (List UInt8)) : Rise (norm l) ∧ (∀ z, z ∈ norm l ↔ z ∈ l) ∧ (norm l).length ≤ l.length := by
  have hs := srt_rise l
  have hp := srt_perm l
  have hlen := srt_length l
  generalize hd : srt l = d at *
  have hat : ∀ j, j < d.length → d.toArray[j]! = d[j]! := fun j hj => by simp
  have key : ∀ m, m ≤ d.length → Rise (compactUpTo d.toArray m) ∧ (∀ z, z ∈ compactUpTo d.toArray m ↔ ∃ j, j < m ∧ d[j]? = some z) ∧ (compactUpTo d.toArray m).length ≤ m := by
    intro m
    induction m with
    | zero => intro _; exact ⟨by simp [compactUpTo, Rise], fun z => by simp [compactUpTo], by simp [compactUpTo]⟩
    | succ m ih =>
      intro hm
      obtain ⟨i1, i2, i3⟩ := ih (by omega)
      have hml : m < d.length := by omega
      have e1 : d.toArray[m]! = d[m] := by simp [hml]
      rw [compactUpTo_succ]
      by_cases hk : keeps d.toArray m = true
      · rw [if_pos hk, e1]
        have hk' : m = 0 ∨ d.toArray[m]! ≠ d.toArray[m - 1]! := by simpa [keeps] using hk
        refine ⟨?_, fun z => ?_, by simp; omega⟩
        · refine List.pairwise_append.2 ⟨i1, by simp, fun a ha b hb => ?_⟩
          rw [List.mem_singleton] at hb
          subst hb
          obtain ⟨j, hj, ej⟩ := (i2 a).1 ha
          obtain ⟨hjl, rfl⟩ := List.getElem?_eq_some_iff.1 ej
          have hne : d[m] ≠ d[m - 1]'(by omega) := by
            rcases hk' with h | h
            · omega
            · rw [e1] at h
              have e2 : d.toArray[m - 1]! = d[m - 1]'(by omega) := by simp [show m - 1 < d.length from by omega]
              rw [e2] at h; exact h
          have h1 := List.pairwise_iff_getElem.1 hs (m - 1) m (by omega) hml (by omega)
          have h2 : Op.bytesLess (d[m - 1]'(by omega)) d[m] = true := (less_total hne).resolve_left (by rw [h1]; simp)
          rcases Nat.lt_or_ge j (m - 1) with c | c
          · have h3 := List.pairwise_iff_getElem.1 hs j (m - 1) hjl (by omega) c
            by_cases e : d[j] = d[m - 1]'(by omega)
            · rw [e]; exact h2
            · exact less_trans ((less_total e).resolve_right (by rw [h3]; simp)) h2
          · have e : j = m - 1 := by omega
            subst e; exact h2
        · rw [List.mem_append, i2, List.mem_singleton]
          constructor
          · rintro (⟨j, hj, e⟩ | rfl)
            · exact ⟨j, by omega, e⟩
            · exact ⟨m, by omega, List.getElem?_eq_getElem hml⟩
          · rintro ⟨j, hj, e⟩
            rcases Nat.lt_or_ge j m with c | c
            · exact .inl ⟨j, c, e⟩
            · have : j = m := by omega
              subst this
              rw [List.getElem?_eq_getElem hml] at e
              exact .inr (Option.some.inj e).symm
      · rw [if_neg hk, List.append_nil]
        have hk' : ¬ (m = 0 ∨ d.toArray[m]! ≠ d.toArray[m - 1]!) := by simpa [keeps] using hk
        have hm0 : m ≠ 0 := fun h => hk' (.inl h)
        have hee : d.toArray[m]! = d.toArray[m - 1]! := Classical.byContradiction fun h => hk' (.inr h)
        have e2 : d.toArray[m - 1]! = d[m - 1]'(by omega) := by simp [show m - 1 < d.length from by omega]
        rw [e1, e2] at hee
        refine ⟨i1, fun z => ?_, by omega⟩
        rw [i2]
        constructor
        · rintro ⟨j, hj, e⟩; exact ⟨j, by omega, e⟩
        · rintro ⟨j, hj, e⟩
          rcases Nat.lt_or_ge j m with c | c
          · exact ⟨j, c, e⟩
          · have : j = m := by omega
            subst this
            rw [List.getElem?_eq_getElem hml, hee] at e
            exact ⟨j - 1, by omega, by rw [List.getElem?_eq_getElem (by omega)]; exact e⟩
  obtain ⟨k1, k2, k3⟩ := key d.length (Nat.le_refl _)
  have hn : norm l = compactUpTo d.toArray d.length := by unfold norm; rw [hd]
  rw [hn]
  refine ⟨k1, fun z => ?_, by omega⟩
  rw [k2, ← hp.mem_iff]
  constructor
  · rintro ⟨j, _, e⟩; exact List.mem_of_getElem? e
  · intro h
    obtain ⟨j, hj, e⟩ := List.mem_iff_getElem.1 h
    exact ⟨j, hj, by rw [List.getElem?_eq_getElem hj, e]⟩

end Go.Proofs.YtkmdclfkmmlloaaGreatDoor.Sc
namespace Go.Proofs.YtkmdclfkmmlloaaGreatDoor.Sc
open Go Go.Proofs.YtkmdclfkmmlloaaGreatDoor Go.Proofs.YtkmdclfkmmlloaaGreatDoor.Utf Go.Proofs.YtkmdclfkmmlloaaGreatDoor.Names Go.RowKit Go.Sort Go.Lib
set_option maxRecDepth 100000

end Go.Proofs.YtkmdclfkmmlloaaGreatDoor.Sc
namespace Go.Proofs.YtkmdclfkmmlloaaGreatDoor.Sc
open Go Go.Op Go.Proofs.YtkmdclfkmmlloaaGreatDoor Go.Proofs.YtkmdclfkmmlloaaGreatDoor.Names

end Go.Proofs.YtkmdclfkmmlloaaGreatDoor.Sc
namespace Go.Proofs.YtkmdclfkmmlloaaGreatDoor.Sc
open Go Go.Proofs.YtkmdclfkmmlloaaGreatDoor Go.Proofs.YtkmdclfkmmlloaaGreatDoor.Utf Go.Proofs.YtkmdclfkmmlloaaGreatDoor.Names Go.RowKit
set_option maxRecDepth 100000

/-- The three variables that both closures read. -/
structure Vars (b1 b2 b3 : Nat) (v : Value) (front : Nat) (x : List UInt8) (W : World) : Prop where
  c1 : W.cell? ⟨b1, 0, none⟩ = some v
  c2 : W.cell? ⟨b2, 0, none⟩ = some (.int .i64 front)
  c3 : W.cell? ⟨b3, 0, none⟩ = some (.string (text x))

end Go.Proofs.YtkmdclfkmmlloaaGreatDoor.Sc
namespace Go.Proofs.YtkmdclfkmmlloaaGreatDoor.Sc
open Go Go.Proofs.YtkmdclfkmmlloaaGreatDoor Go.Proofs.YtkmdclfkmmlloaaGreatDoor.Utf Go.Proofs.YtkmdclfkmmlloaaGreatDoor.Names Go.RowKit
set_option maxRecDepth 100000

end Go.Proofs.YtkmdclfkmmlloaaGreatDoor.Sc
namespace Go.Proofs.YtkmdclfkmmlloaaGreatDoor.Sc
open Go Go.Proofs.YtkmdclfkmmlloaaGreatDoor Go.Proofs.YtkmdclfkmmlloaaGreatDoor.Utf Go.Proofs.YtkmdclfkmmlloaaGreatDoor.Names Go.RowKit
set_option maxRecDepth 100000

theorem Rise.nodup {l : List (List UInt8)} (h : Rise l) : l.Nodup := List.Pairwise.imp (fun h => less_ne h) h

/-- A scope of the names N. -/
structure ScAt (w : World) (p : Option Addr) (N : List (List UInt8)) : Prop where
  is : ∃ ls, IsSc (· < w.heap.size) w p ls ∧ (∀ l ∈ ls, Rise l) ∧ ls.flatten.Perm N
  rise : Rise N
  right : ∀ z ∈ N, rightB z = true
  short : ∀ z ∈ N, z.length ≤ 2000000
  few : N.length ≤ 4096
theorem ScAt.none (w : World) : ScAt w none [] := ⟨⟨[], rfl, by simp, by simp⟩, by simp [Rise], by simp, by simp, by simp⟩
theorem ScAt.later {w W : World} {p : Option Addr} {N : List (List UInt8)} (h : ScAt w p N) (hb : Below w.heap.size w W) : ScAt W p N := by
  obtain ⟨⟨ls, h1, h2, h3⟩, r⟩ := h
  exact ⟨⟨ls, h1.later hb, h2, h3⟩, r, by assumption, by assumption, by assumption⟩
end Go.Proofs.YtkmdclfkmmlloaaGreatDoor.Sc
namespace Go.Proofs.YtkmdclfkmmlloaaGreatDoor.Sc
open Go Go.Proofs.YtkmdclfkmmlloaaGreatDoor Go.ChangeShapes Go.WideShapes Go.ChangeAt Go.RowKit

/-- Letters, and texts. -/
def strMass (l : List (List UInt8)) : Nat := (l.map fun s => 1 + s.length).sum
theorem strMass_cons (x : List UInt8) (l : List (List UInt8)) : strMass (x :: l) = 1 + x.length + strMass l := by simp [strMass]
theorem strMass_len : ∀ l : List (List UInt8), l.length ≤ strMass l
  | [] => by simp
  | x :: l => by have := strMass_len l; rw [strMass_cons, List.length_cons]; omega
section
variable {H : Type} {enc : TypeId × Value → H} {P : Program} {w : World} {base : Nat} {spare : Nat → Bool} {held : Bool}
theorem text_back (s : ByteArray) : text s.data.toList = s := by simp [text]
theorem bulk_strs {H : Type} : ∀ ss : List ByteArray, strMass (ss.map fun s => s.data.toList) ≤ Rows.uptoBulkAll (strs ss : List (DataW H))
  | [] => by simp [strMass]
  | s :: ss => by
    have := bulk_strs (H := H) ss
    rw [List.map_cons, strMass_cons]
    simp only [strs, List.map_cons, Rows.uptoBulkAll, Rows.uptoBulk] at this ⊢
    omega
theorem open_strs_row {t e : TypeId} (ht : P.underlying t = some (.slice e)) (he : P.underlying e = some .string) (hc : P.cellsOf e = 1) {fuel : Nat} {v : Value} {x : DataW H × List MemPlace}
    (h : DataW.trod enc P w base spare held fuel t [v] = some x) (hb : ∀ a n c, v = .slice (some a) n c → n ≤ 281474976710656) : ∃ l : List (List UInt8), Strs w v l ∧ strMass l ≤ Rows.uptoBulk x.1 := by
  rcases open_strings ht he hc h with ⟨hv, hx⟩ | ⟨a, len, cap, ss, hv, hbs, hl, hm, hlen, hx, hcell, hmax⟩
  · obtain rfl : v = .slice none 0 0 := by simpa using hv
    exact ⟨[], Row.nil 1 w, by simp [strMass]⟩
  obtain rfl : v = .slice (some a) len cap := by simpa using hv
  have hsl : len ≤ ss.length := by rw [hlen]; split <;> omega
  have hll : ((ss.take len).map fun s => s.data.toList).length = len := by simp; omega
  refine ⟨(ss.take len).map fun s => s.data.toList, ?_, ?_⟩
  · unfold Strs
    rw [hll]
    refine ⟨⟨some a, cap, rfl, hl, hm, hb a len cap rfl, (fun e => by cases e), fun h0 => ?_⟩, by rw [strsOf_length, hll]; omega⟩
    rw [strsOf_length, hll] at h0
    obtain ⟨b, off, spot⟩ := a
    have h1 := hcell 0 (by omega)
    have hspot : spot = none := by simpa [Addr.add] using World.cell?_spot h1
    subst hspot
    refine ⟨b, off, rfl, fun j u hj => ?_⟩
    have hjl : j < len := by
      have := (List.getElem?_eq_some_iff.1 hj).1
      rw [strsOf_length, hll] at this; exact this
    have h2 := hcell j (by omega)
    rw [Addr.add_lit] at h2
    rw [h2]
    have hjs : j < ss.length := by omega
    have : (strsOf ((ss.take len).map fun s => s.data.toList))[j]? = some (.string ss[j]) := by
      simp [strsOf, hjl, hjs, List.getElem_take, text_back]
    rw [this] at hj
    rw [← hj]
    simp [hjs]
  · rw [hx]
    have := bulk_strs (H := H) (ss.take len)
    simp only [Rows.uptoBulk]
    omega
end
end Go.Proofs.YtkmdclfkmmlloaaGreatDoor.Sc
namespace Go.Proofs.YtkmdclfkmmlloaaGreatDoor.Sc
open Go Go.Proofs.YtkmdclfkmmlloaaGreatDoor Go.Proofs.YtkmdclfkmmlloaaGreatDoor.Utf Go.Proofs.YtkmdclfkmmlloaaGreatDoor.Names Go.RowKit
set_option maxRecDepth 100000

def sNet : List UInt8 := [110, 101, 116]
def sBoth : List UInt8 := [110, 101, 116, 32, 112, 114, 105, 99, 101]
def three : List (List UInt8) := [sNet, sBoth, [97]]

end Go.Proofs.YtkmdclfkmmlloaaGreatDoor.Sc
