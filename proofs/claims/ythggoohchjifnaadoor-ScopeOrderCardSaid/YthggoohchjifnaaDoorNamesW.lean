/- Layer 2: the iterator of SplitSeq: it tells the pieces between blanks. -/
import Derived.Test.YthggoohchjifnaaDoorNamesS
import Derived.Test.YthggoohchjifnaaDoorNamesMath2
import Derived.Test.YthggoohchjifnaaDoorRange
import Derived.RangeFuncBox
import Derived.RangeFuncWrites
import Derived.Shelf.Abstract
import Derived.Shelf.AbstractIn
import Derived.Shelf.RegionOpen
import Derived.OwnWalkIn
import Derived.TacticsInMore
import Derived.LoopNIn
import Derived.LoopIn
set_option linter.unusedVariables false
set_option linter.unusedSimpArgs false
namespace Go.Proofs.YthggoohchjifnaaDoor.Names
open Go Go.Proofs.YthggoohchjifnaaDoor Go.Proofs.YthggoohchjifnaaDoor.Utf Go.RowKit Go.Shelf
set_option maxRecDepth 100000
attribute [local go_sem] Oper.semAt_some

/-- The steps that the iterator takes between two rounds: it writes its own variable. -/
def Turns (b : Nat) (A B : World) : Prop := A.grownBy B (some b) ∧ ∃ v, Boxed A b 9 v
theorem Turns.others {b : Nat} {A B : World} (h : Turns b A B) : KeepsOthers A B := by
  obtain ⟨hg, v, hv⟩ := h
  refine KeepsOthers.of_grownBy hg fun j o e ho => ?_
  cases e
  rw [show A.heap[b]? = _ from hv] at ho
  cases ho
  rfl

/-- What the iterator has captured: its text, the blank, and 0. -/
structure Holds (W : World) (b : Nat) (r : List UInt8) : Prop where
  txt : Boxed W b 9 (.string (text r))
  sep : Boxed W (b + 1) 9 (.string ⟨#[32]⟩)
  sav : Boxed W (b + 2) 3 (.int .i64 0)
theorem Holds.below {W W' : World} {b B : Nat} {r : List UInt8} (h : Holds W b r) (hb : Below B W W') (hB : b + 3 ≤ B) : Holds W' b r :=
  ⟨(hb.block b (by omega)).trans h.txt, (hb.block (b + 1) (by omega)).trans h.sep, (hb.block (b + 2) (by omega)).trans h.sav⟩
theorem Holds.set {W : World} {b : Nat} {r : List UInt8} (h : Holds W b r) (r' : List UInt8) : Holds (W.setCell ⟨b, 0, none⟩ (.string (text r'))) b r' :=
  ⟨h.txt.set _, h.sep.other (by omega) _, h.sav.other (by omega) _⟩

/-- What the iterator has captured stays. -/
def Three (b : Nat) (A B : World) : Prop := ∀ j, b ≤ j → j < b + 3 → B.heap[j]? = A.heap[j]?
theorem Three.trans {b : Nat} {A B C : World} (h : Three b A B) (k : Three b B C) : Three b A C := fun j h1 h2 => (k j h1 h2).trans (h j h1 h2)
theorem Three.put {b : Nat} (W : World) (l : Nat) (o : Obj) (hl : b + 3 ≤ l) : Three b W (W.putObj l o) := fun j h1 h2 => World.putObj_heap_other (by omega)
theorem Three.below {b B : Nat} {W W' : World} (h : Below B W W') (hB : b + 3 ≤ B) : Three b W W' := fun j h1 h2 => h.block j (by omega)
theorem Holds.three {W W' : World} {b : Nat} {r : List UInt8} (h : Holds W b r) (hb : Three b W W') : Holds W' b r :=
  ⟨(hb b (by omega) (by omega)).trans h.txt, (hb (b + 1) (by omega) (by omega)).trans h.sep, (hb (b + 2) (by omega) (by omega)).trans h.sav⟩

/-- How much of the text is left. -/
def leftOf (b : Nat) (W : World) : Nat := match W.cell? ⟨b, 0, none⟩ with | some (.string s) => s.size | _ => 0
theorem Holds.left {W : World} {b : Nat} {r : List UInt8} (h : Holds W b r) : leftOf b W = r.length := by
  unfold leftOf; rw [h.txt.cell]; exact text_size r
theorem drop_head {α : Type} {xs ys : List α} {k : Nat} {x : α} (h : xs.drop k = x :: ys) : xs[k]? = some x ∧ xs.drop (k + 1) = ys := by
  constructor
  · have := congrArg (fun z => z[0]?) h
    simpa using this
  · rw [← List.drop_drop, h]; rfl

set_option maxHeartbeats 4000000 in
theorem seq_tells (n : Nat) (hn : 1 ≤ n) (b : Nat) (l : List UInt8) (hl : l.length ≤ 281474976710656) (w : World) (hw : Holds w b l) (hbs : b + 3 ≤ w.heap.size) :
    Tells Fence.wide n Tryd.prog 87 #[.pointer (some ⟨b + 1, 0, none⟩), .pointer (some ⟨b, 0, none⟩), .pointer (some ⟨b + 2, 0, none⟩)] (fun p => .string (text p)) (Turns b) (Three b) (pieces l) w := by
  intro lp J Jx W hW hJ hJx hY h0
  have hw0 : Holds W b l := hw.below hW (by omega)
  refine callsIn_of_wp Tryd.func87 rfl trivial ?_ rfl
  simp only [Tryd.ntmps87, List.size_toArray, List.length_cons, List.length_nil, Nat.reduceAdd, Nat.reduceSub, Array.replicate_succ, Array.replicate_zero, List.push_toArray, List.append_toArray, List.nil_append, List.cons_append]
  have c0 := hw0.txt.cell
  have c1 := hw0.sep.cell
  have c2 := hw0.sav.cell
  gi_wp2
  clear c0 c1 c2
  have hfn : Fence.wide.fn 89 := trivial
  gi_loopw [7] (fun _ wr => ∃ (k : Nat) (r : List UInt8), Holds wr b r ∧ J k wr ∧ r.length ≤ l.length ∧ (pieces l).drop k = pieces r) (fun _ wr => leftOf b wr)
  case atStart => exact ⟨0, l, hw0, h0, Nat.le_refl _, rfl⟩
  case round =>
    obtain ⟨k, r, hh, hj, hrl, hd⟩ := hrel
    have c0 := hh.txt.cell
    have c1 := hh.sep.cell
    have c2 := hh.sav.cell
    have cf := hh.txt.frozen
    have hi := Tryd.strings_Index_one (text r) 32 wr
    rw [text_data, indexByte_first] at hi
    have HH := hid hh
    cases hf : firstAt 32 r with
    | none =>
      rw [hf] at hi
      have hp : pieces r = [r] := cutAt_none hf
      rw [hp] at hd
      obtain ⟨hx, hnx⟩ := drop_head hd
      have hlen : (pieces l).length = k + 1 := by
        have h1 := (List.getElem?_eq_some_iff.1 hx).1
        have h2 := congrArg List.length hnx
        simp at h2; omega
      obtain ⟨fn, tmps, assign, body, hy, hR⟩ := hY k r wr hx hj
      have HI := hid hi
      have HR := hid hR
      have HL := hid hlen
      clear hi hR hlen hd hx hnx hj hf hp hh
      gi_wp2_with (gi_at_call 89; refine (callsIn_wide.2 HI.out).mono ?_; rintro e w' ⟨rfl, rfl⟩)
      refine HR.out.mono ?_
      rintro e W3 (⟨rfl, hJ3, hk3⟩ | ⟨rfl, hJx3⟩)
      · gi_wp2
        go_end0
        exact ⟨⟨_, rfl⟩, .inl (by rw [HL.out]; exact hJ3)⟩
      · gi_wp2
        go_end0
        exact ⟨⟨_, rfl⟩, .inr ⟨k + 1, by rw [HL.out]; exact Nat.le_refl _, hJx3⟩⟩
    | some i =>
      rw [hf] at hi
      have hlt := firstAt_lt hf
      have hp : pieces r = r.take i :: pieces (r.drop (i + 1)) := cutAt_some hf
      rw [hp] at hd
      obtain ⟨hx, hnx⟩ := drop_head hd
      have hlen : k + 1 ≤ (pieces l).length := (List.getElem?_eq_some_iff.1 hx).1
      obtain ⟨fn, tmps, assign, body, hy, hR⟩ := hY k (r.take i) wr hx hj
      have ex0 := text_zero r i
      have hi0 : (0 : Int) ≤ (i : Int) := by omega
      have hi1 : (i : Int) ≤ ((text r).size : Int) := by rw [text_size]; omega
      have hi2 : (i : Int) + 1 ≤ ((text r).size : Int) := by rw [text_size]; omega
      have ex1 := text_extract r (i + 1)
      have HI := hid hi
      have HR := hid hR
      have HL := hid hlen
      have HN := hid hnx
      clear hi hR hlen hd hx hnx hj hf hp hh
      gi_wp2_with (gi_at_call 89; refine (callsIn_wide.2 HI.out).mono ?_; rintro e w' ⟨rfl, rfl⟩)
      refine HR.out.mono ?_
      rintro e W3 (⟨rfl, hJ3, hk3⟩ | ⟨rfl, hJx3⟩)
      · have h3 := HH.out.three hk3
        have d0 := h3.txt.cell
        have d1 := h3.sep.cell
        have df := h3.txt.frozen
        have H3 := hid h3
        clear h3 c0 c1 c2 cf
        gi_wp2
        go_roundw
        case rel => exact ⟨k + 1, r.drop (i + 1), H3.out.set _, hJ _ _ _ hJ3 ⟨grownBy_setCell' _ _ _, _, H3.out.txt⟩, by simp; omega, HN.out⟩
        case measure => rw [HH.out.left, (H3.out.set (r.drop (i + 1))).left]; simp; omega
      · gi_wp2
        refine bodyPost_ret (results_none rfl _ _ _) rfl ?_
        exact ⟨⟨_, rfl⟩, .inr ⟨k + 1, HL.out, hJx3⟩⟩
end Go.Proofs.YthggoohchjifnaaDoor.Names
