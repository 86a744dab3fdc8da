/- Layer 7: texts as lists of bytes; the library's contracts in these words; what the layer asks. -/
import Derived.Test.YtjmfcgbelikcdaaDoorNumMath
import Derived.Test.YtjmfcgbelikcdaaDoorNumAs
import Derived.Test.YtjmfcgbelikcdaaDoorShelf
import Derived.Laws.ResultCell
import Derived.Laws.Rows
import Derived.IntWalk
import Derived.WalkSmall
import Derived.BigQuiet
import Derived.Deep.QuietTactic
import Derived.Deep.RegionWith
import Derived.Deep.LoopGhost
import Derived.LoopIn
import Derived.Lib.OthersKept
set_option linter.unusedVariables false
set_option linter.unusedSimpArgs false
namespace Go.Proofs.YtjmfcgbelikcdaaDoor.Num
open Go Go.Proofs.YtjmfcgbelikcdaaDoor Go.RowKit

theorem text_append (a b : List UInt8) : text a ++ text b = text (a ++ b) := by
  have h : (text a ++ text b).data.toList = (text (a ++ b)).data.toList := by
    rw [text_data, ByteArray.data_append]
    simp [text]
  generalize text a ++ text b = x at *
  cases x with
  | mk d => simp [text] at h ⊢; rw [← h]
theorem text_zero (l : List UInt8) (i : Nat) : (text l).extract 0 i = text (l.take i) := by rw [text_cut]; rfl
theorem text_of (s : ByteArray) : ∃ l : List UInt8, s = text l ∧ l.length = s.size := ⟨s.data.toList, by cases s; rfl, (Lib.size_eq s).symm⟩
theorem text_list (l : List UInt8) : (text l).toList = l := by rw [Lib.toList_data, text_data]
theorem list_no {x y : List UInt8} (h : ¬ x = y) : ((text x).toList == y) = false := by rw [text_list, beq_eq_false_iff_ne]; exact h
theorem list_yes {x y : List UInt8} (h : x = y) : ((text x).toList == y) = true := by rw [text_list, beq_iff_eq]; exact h
theorem lit_add (p l : List UInt8) (a : Array UInt8) (ha : a.toList = p) : (⟨a⟩ : ByteArray) ++ text l = text (p ++ l) := by
  have e1 : (⟨a⟩ : ByteArray) = text p := by rw [← ha]; simp [text]
  rw [e1, text_append]
theorem add_lit (p l : List UInt8) (a : Array UInt8) (ha : a.toList = p) : text l ++ (⟨a⟩ : ByteArray) = text (l ++ p) := by
  have e1 : (⟨a⟩ : ByteArray) = text p := by rw [← ha]; simp [text]
  rw [e1, text_append]
theorem ret_bool {a b : Bool} (h : a = b) : Ending.returned (.bool a) = .returned (.bool b) := by rw [h]

/-- A number as a value. -/
def numZ (d : List UInt8) (s : Int) : Value := .agg #[.string (text d), .int .i64 s]
def numV (p : List UInt8 × Nat) : Value := numZ p.1 p.2

theorem sizeNum : (Tryd.prog.info? 24).map (·.size) = some 2 := by kernel_rfl
theorem results_one {fn : Func} {p : Tmp} {ty : TypeId} (h : fn.results = #[.cell p ty]) {P : Program} (tmps : Array Value) (w : World) (g : Nat) (cs : Array Value)
    (hp : tmps.getD p undef = .pointer (some ⟨g, 0, none⟩)) (hrun : (loadVar ty ⟨g, 0, none⟩).run P w = .ok (.agg cs) w) :
    (results fn tmps).run P w = .ok (.agg cs) w := by
  have hp' : tmps[p]?.getD undef = .pointer (some ⟨g, 0, none⟩) := by
    rw [← hp]; simp [Array.getD_eq_getD_getElem?]
  unfold results
  rw [h]
  simp [hp', asAddr, hrun, Result.andThen]
theorem results_pair {fn : Func} {p u : Tmp} {ty : TypeId} (h : fn.results = #[.cell p ty, .tmp u]) {P : Program} (tmps : Array Value) (w : World) (g : Nat) (cs : Array Value)
    (hp : tmps.getD p undef = .pointer (some ⟨g, 0, none⟩)) (hrun : (loadVar ty ⟨g, 0, none⟩).run P w = .ok (.agg cs) w) :
    (results fn tmps).run P w = .ok (.tuple #[.agg cs, tmps.getD u undef]) w := by
  rw [results_cell_tmp h, hp]
  simp [asAddr, hrun, Result.andThen]
theorem load_num {w : World} {b : Nat} {x y : Value} (h : w.heap[b]? = some (.cells #[x, y] 24 (0, 0))) : (loadVar 24 ⟨b, 0, none⟩).run Tryd.prog w = .ok (.agg #[x, y]) w :=
  run_loadVar_row _ _ _ _ _ _ _ h Tryd.underlying24 rfl sizeNum
/-- Two stores into one block. -/
theorem put2 {w : World} {b : Nat} {a1 a2 : Value} {ty : TypeId} (h : w.heap[b]? = some (.cells #[a1, a2] ty (0, 0))) (x y : Value) :
    ((w.setCell ⟨b, 0, none⟩ x).setCell ⟨b, 1, none⟩ y).heap[b]? = some (.cells #[x, y] ty (0, 0)) := by simp [World.setCell, Array.getElem?_modify, h]
theorem put2_below {w X : World} {b : Nat} (h : Below w.heap.size w X) (hb : w.heap.size ≤ b) (x y : Value) : Below w.heap.size w ((X.setCell ⟨b, 0, none⟩ x).setCell ⟨b, 1, none⟩ y) :=
  (h.setCell (p := ⟨b, 0, none⟩) hb x).setCell (p := ⟨b, 1, none⟩) hb y
/-- A block that was laid stays, as long as what was there stays. -/
theorem laid_later {w X : World} {o : Obj} (h : Below (w.alloc o).heap.size (w.alloc o) X) : X.heap[w.heap.size]? = some o := by
  rw [h.block w.heap.size (by simp)]
  exact heap_alloc_new w o
theorem block_later {X Y : World} {b : Nat} {o : Obj} (h : X.heap[b]? = some o) (hb : Below X.heap.size X Y) : Y.heap[b]? = some o := by
  have hlt : b < X.heap.size := by
    rcases Nat.lt_or_ge b X.heap.size with h' | h'
    · exact h'
    · simp [Array.getElem?_eq_none h'] at h
  rw [hb.block b hlt]; exact h
theorem heap_alloc_old {w : World} {o o' : Obj} {b : Nat} (h : w.heap[b]? = some o) : (w.alloc o').heap[b]? = some o := block_later h (ba (b0 w) o')
theorem below_of_alloc {w X : World} {o : Obj} (h : Below (w.alloc o).heap.size (w.alloc o) X) : Below w.heap.size w X := (ba (b0 w) o).trans (h.mono (by simp))

theorem trimL (l : List UInt8) : Lib.trimLeftB l 48 = lead l := rfl
theorem trimR (l : List UInt8) : Lib.trimRightB l 48 = trim l := rfl
theorem repeat0 : ∀ c, Lib.repeatL [48] c = List.replicate c 48
  | 0 => rfl
  | c + 1 => by unfold Lib.repeatL; rw [repeat0 c, List.replicate_succ]; rfl
theorem comp_lib : ∀ a b, Lib.compareBytes a b = comp a b
  | [], [] => rfl
  | [], _ :: _ => rfl
  | _ :: _, [] => rfl
  | a :: x, b :: y => by unfold Lib.compareBytes comp; rw [comp_lib x y]

theorem TrimLeft_any (l : List UInt8) (w : World) :
    Calls Tryd.prog 36 #[.string (text l), .string ⟨#[48]⟩] w fun e w' => e = .returned (.string (text (lead l))) ∧ w' = w := by
  have h := Tryd.strings_TrimLeft_one (text l) 48 (by decide) w
  rw [text_data, trimL] at h
  exact h
theorem TrimRight_any (l : List UInt8) (hl : l.length ≤ 1000000000) (w : World) :
    Calls Tryd.prog 37 #[.string (text l), .string ⟨#[48]⟩] w fun e w' => e = .returned (.string (text (trim l))) ∧ w' = w := by
  have h := Tryd.strings_TrimRight_one (text l) 48 (by decide) w (by rw [text_size]; omega)
  rw [text_data, trimR] at h
  exact h
theorem Repeat_any (c : Nat) (hc : c ≤ 1000000000) (w : World) :
    Calls Tryd.prog 27 #[.string ⟨#[48]⟩, .int .i64 c] w fun e w' => e = .returned (.string (text (List.replicate c 48))) ∧ Below w.heap.size w w' := by
  have h := Tryd.strings_Repeat (text [48]) c w (by omega) (by rw [text_size]; simp; omega)
  rw [text_data, repeat0] at h
  exact h
theorem Compare_any (a b : List UInt8) (w : World) :
    Calls Tryd.prog 30 #[.string (text a), .string (text b)] w fun e w' => e = .returned (.int .i64 (comp a b)) ∧ w' = w := by
  have h := Tryd.strings_Compare (text a) (text b) w
  rw [text_data, text_data, comp_lib] at h
  exact h

/-- The first point's place; the end, if there is none. -/
def point : List UInt8 → Nat
  | [] => 0
  | b :: r => if b = 46 then 0 else point r + 1
theorem point_yes {b : UInt8} (r : List UInt8) (c : b = 46) : point (b :: r) = 0 := by rw [point, if_pos c]
theorem point_no {b : UInt8} (r : List UInt8) (c : ¬ b = 46) : point (b :: r) = point r + 1 := by rw [point, if_neg c]
theorem point_le : ∀ l, point l ≤ l.length
  | [] => Nat.le_refl _
  | b :: r => by unfold point; split <;> simp; exact point_le r
theorem point_at : ∀ l (h : point l < l.length), l[point l] = 46
  | [], h => absurd h (Nat.not_lt_zero _)
  | b :: r, h => by
    by_cases c : b = 46
    · have e := point_yes r c
      simp only [e]; exact c
    · have e := point_no r c
      simp only [e]
      exact point_at r (by rw [e] at h; simpa using h)
theorem point_before : ∀ l k (h : k < l.length), k < point l → l[k] ≠ 46
  | [], k, h, _ => absurd h (Nat.not_lt_zero _)
  | b :: r, k, h, hk => by
    by_cases c : b = 46
    · have e := point_yes r c
      omega
    · have e := point_no r c
      cases k with
      | zero => exact c
      | succ k => exact point_before r k (by simpa using h) (by omega)
theorem index_point : ∀ l, Lib.index l [46] = if point l < l.length then (point l : Int) else -1
  | [] => rfl
  | b :: r => by
    unfold Lib.index
    rw [index_point r]
    by_cases c : b = 46
    · have e := point_yes r c
      rw [e, if_pos (by rw [c]; rfl), if_pos (by simp)]; rfl
    · have e := point_no r c
      rw [e, if_neg (by simp [List.isPrefixOf]; exact fun x => c x.symm)]
      have el : (b :: r).length = r.length + 1 := rfl
      rw [el]
      by_cases d : point r < r.length
      · rw [if_pos d, if_pos (show point r + 1 < r.length + 1 by omega), if_neg (by rw [beq_iff_eq]; omega)]; omega
      · rw [if_neg d, if_neg (show ¬ point r + 1 < r.length + 1 by omega), if_pos (by decide)]
/-- What stands ahead of the point, and behind it. -/
def whole (l : List UInt8) : List UInt8 := l.take (point l)
def part (l : List UInt8) : List UInt8 := l.drop (point l + 1)
def pointed (l : List UInt8) : Bool := decide (point l < l.length)
theorem cut_point (l : List UInt8) : Lib.cut l [46] = (whole l, part l, pointed l) := by
  unfold Lib.cut whole part pointed
  rw [index_point]
  by_cases d : point l < l.length
  · rw [if_pos d, if_pos (by omega)]; simp [d]
  · have := point_le l
    rw [if_neg d, if_neg (by omega)]
    simp [d]
    rw [List.take_of_length_le (by omega)]
    exact ⟨rfl, by omega⟩
theorem whole_len (l : List UInt8) : (whole l).length = point l := by unfold whole; rw [List.length_take]; have := point_le l; omega
theorem part_len (l : List UInt8) : (part l).length = l.length - (point l + 1) := by unfold part; simp

/-- The variable of the library's searches holds some number. -/
def MaxL (w : World) : Prop := ∃ m : Int, w.cell? ⟨1, 0, none⟩ = some (.int .i64 m)
/-- What the layer asks of a world. -/
structure Fit (w : World) : Prop where
  err : ErrT w
  most : MaxL w
theorem MaxL.lt {w : World} (h : MaxL w) : 1 < w.heap.size := by
  obtain ⟨m, h⟩ := h
  refine Nat.lt_of_not_le fun h' => ?_
  unfold World.cell? at h
  simp [Array.getElem?_eq_none h'] at h
theorem Fit.later {w w' : World} (h : Fit w) (hb : Below w.heap.size w w') : Fit w' :=
  ⟨h.err.later hb, by obtain ⟨m, hm⟩ := h.most; exact ⟨m, (hb.cell (p := ⟨1, 0, none⟩) h.most.lt).trans hm⟩⟩
theorem Cut_any (l : List UInt8) (hl : l.length ≤ 1000000000) (w : World) (h : MaxL w) :
    Calls Tryd.prog 33 #[.string (text l), .string ⟨#[46]⟩] w fun e w' => e = .returned (.tuple #[.string (text (whole l)), .string (text (part l)), .bool (pointed l)]) ∧ Below w.heap.size w w' := by
  obtain ⟨m, hm⟩ := h
  refine (Tryd.strings_Cut (text l) (text [46]) m w (by rw [text_size]; omega) hm).mono ?_
  rintro e w' ⟨rfl, n, rfl⟩
  rw [text_data, text_data, cut_point]
  exact ⟨rfl, below_drewN (b0 w) n⟩

/-- What is wrong with a number. -/
def checkE (d : List UInt8) (s : Int) : Nat := if digs d = true then (if 1000 < d.length then 19 else if s < 0 ∨ 1000 < s then 3 else 0) else 17
theorem checkE_ok {d : List UInt8} {s : Int} (h : checkE d s = 0) : AllD d ∧ d ≠ [] ∧ d.length ≤ 1000 ∧ 0 ≤ s ∧ s ≤ 1000 := by
  unfold checkE at h
  split at h
  · rename_i c
    obtain ⟨c1, c2⟩ := (digs_iff d).1 c
    split at h
    · cases h
    · split at h
      · cases h
      · exact ⟨c1, c2, by omega, by omega, by omega⟩
  · cases h
theorem checkE_of {d : List UInt8} {s : Int} (h1 : AllD d) (h2 : d ≠ []) (h3 : d.length ≤ 1000) (h4 : 0 ≤ s) (h5 : s ≤ 1000) : checkE d s = 0 := by
  unfold checkE
  rw [if_pos ((digs_iff d).2 ⟨h1, h2⟩), if_neg (by omega), if_neg (by omega)]
theorem checkE_canon {l : List UInt8} {k : Nat} (h : AllD l) (h0 : l ≠ []) (hl : (canon l k).1.length ≤ 1000) (hk : k ≤ 1000) : checkE (canon l k).1 (canon l k).2 = 0 := by
  have := canon_len l k h0
  exact checkE_of (canon_is h k).1 (canon_is h k).2.1 hl (by omega) (by omega)
/-- What is wrong with a text that is read. -/
def readE (l : List UInt8) : Nat :=
  if (pointed l = true ∧ ((whole l ≠ [] ∧ digs (whole l) = false) ∨ digs (part l) = false)) ∨ (pointed l = false ∧ digs (whole l) = false) then 17
  else if 1000 < (whole l).length + (part l).length then 19 else 0
def readV (l : List UInt8) : List UInt8 × Nat := if readE l = 0 then canon (whole l ++ part l) (part l).length else ([], 0)
end Go.Proofs.YtjmfcgbelikcdaaDoor.Num
