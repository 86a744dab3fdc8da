/- Layer 7: texts as lists of bytes; the library's contracts in these words; what the layer asks. | Layer 7: contracts of the tests whether a text is digits: the code's and the document's. | Layer 7: contracts of check, and of the document's Check. | Layer 7: contract of the document's one form. | Layer 7: contract of the code's one form. | Layer 7: contract of Read: the text's parts. | Layer 7: contract of the document's Read. | Layer 7: contract of Read. | Layer 7: contracts of Canon, Right. | Layer 7: contracts of Text, and of the document's Text. | Layer 7: contracts of checkBoth, aligned. | Layer 7: contract of sum: digit by digit from behind. | Layer 7: contracts of Compare, add, Add. | Layer 7: contracts of the document's at, Compare, Add. | Layer 7: contracts of Add, and of the document's Add. | Layer 7: the document's examples, and the walk of NumberReads. -/
import Derived.Test.YtkmdclfkmmlloaaGreatDoorNumMath
import Derived.Test.YtkmdclfkmmlloaaGreatDoorNumAs
import Derived.Test.YtkmdclfkmmlloaaGreatDoorShelf
import Derived.Laws.ResultCell
import Derived.Laws.Rows
import Derived.IntWalk
import Derived.WalkSmall
import Derived.BigQuiet
import Derived.Deep.QuietTactic
import Derived.Deep.RegionWith
import Derived.Deep.LoopGhost
import Derived.LoopIn
import Derived.Lib.OthersKept
import Derived.Deep.DeepCutAuto
import Derived.Test.YtkmdclfkmmlloaaGreatDoorApp
import Derived.Laws.OwnMore
set_option linter.unusedVariables false
set_option linter.unusedSimpArgs false
namespace Go.Proofs.YtkmdclfkmmlloaaGreatDoor.Num
open Go Go.Proofs.YtkmdclfkmmlloaaGreatDoor Go.RowKit

theorem text_append (a b : List UInt8) : text a ++ text b = text (a ++ b) := by
  have h : (text a ++ text b).data.toList = (text (a ++ b)).data.toList := by
    rw [text_data, ByteArray.data_append]
    simp [text]
  generalize text a ++ text b = x at *
  cases x with
  | mk d => simp [text] at h ⊢; rw [← h]
theorem text_zero (l : List UInt8) (i : Nat) : (text l).extract 0 i = text (l.take i) := by rw [text_cut]; rfl
theorem text_list (l : List UInt8) : (text l).toList = l := by rw [Lib.toList_data, text_data]
theorem list_no {x y : List UInt8} (h : ¬ x = y) : ((text x).toList == y) = false := by rw [text_list, beq_eq_false_iff_ne]; exact h
theorem list_yes {x y : List UInt8} (h : x = y) : ((text x).toList == y) = true := by rw [text_list, beq_iff_eq]; exact h
theorem lit_add (p l : List UInt8) (a : Array UInt8) (ha : a.toList = p) : (⟨a⟩ : ByteArray) ++ text l = text (p ++ l) := by
  have e1 : (⟨a⟩ : ByteArray) = text p := by rw [← ha]; simp [text]
  rw [e1, text_append]
theorem add_lit (p l : List UInt8) (a : Array UInt8) (ha : a.toList = p) : text l ++ (⟨a⟩ : ByteArray) = text (l ++ p) := by
  have e1 : (⟨a⟩ : ByteArray) = text p := by rw [← ha]; simp [text]
  rw [e1, text_append]
theorem ret_bool {a b : Bool} (h : a = b) : Ending.returned (.bool a) = .returned (.bool b) := by rw [h]

/-- A number as a value. -/
def numZ (d : List UInt8) (s : Int) : Value := .agg #[.string (text d), .int .i64 s]
def numV (p : List UInt8 × Nat) : Value := numZ p.1 p.2

theorem sizeNum : (Tryz.prog.info? 129).map (·.size) = some 2 := by kernel_rfl
theorem results_one {fn : Func} {p : Tmp} {ty : TypeId} (h : fn.results = #[.cell p ty]) {P : Program} (tmps : Array Value) (w : World) (g : Nat) (cs : Array Value)
    (hp : tmps.getD p undef = .pointer (some ⟨g, 0, none⟩)) (hrun : (loadVar ty ⟨g, 0, none⟩).run P w = .ok (.agg cs) w) :
    (results fn tmps).run P w = .ok (.agg cs) w := by
  have hp' : tmps[p]?.getD undef = .pointer (some ⟨g, 0, none⟩) := by
    rw [← hp]; simp [Array.getD_eq_getD_getElem?]
  unfold results
  rw [h]
  simp [hp', asAddr, hrun, Result.andThen]
theorem results_pair {fn : Func} {p u : Tmp} {ty : TypeId} (h : fn.results = #[.cell p ty, .tmp u]) {P : Program} (tmps : Array Value) (w : World) (g : Nat) (cs : Array Value)
    (hp : tmps.getD p undef = .pointer (some ⟨g, 0, none⟩)) (hrun : (loadVar ty ⟨g, 0, none⟩).run P w = .ok (.agg cs) w) :
    (results fn tmps).run P w = .ok (.tuple #[.agg cs, tmps.getD u undef]) w := by
  rw [results_cell_tmp h, hp]
  simp [asAddr, hrun, Result.andThen]
theorem load_num {w : World} {b : Nat} {x y : Value} (h : w.heap[b]? = some (.cells #[x, y] 129 (0, 0))) : (loadVar 129 ⟨b, 0, none⟩).run Tryz.prog w = .ok (.agg #[x, y]) w :=
  run_loadVar_row _ _ _ _ _ _ _ h Tryz.underlying129 rfl sizeNum
/-- Two stores into one block. -/
theorem put2 {w : World} {b : Nat} {a1 a2 : Value} {ty : TypeId} (h : w.heap[b]? = some (.cells #[a1, a2] ty (0, 0))) (x y : Value) :
    ((w.setCell ⟨b, 0, none⟩ x).setCell ⟨b, 1, none⟩ y).heap[b]? = some (.cells #[x, y] ty (0, 0)) := by simp [World.setCell, Array.getElem?_modify, h]
theorem put2_below {w X : World} {b : Nat} (h : Below w.heap.size w X) (hb : w.heap.size ≤ b) (x y : Value) : Below w.heap.size w ((X.setCell ⟨b, 0, none⟩ x).setCell ⟨b, 1, none⟩ y) :=
  (h.setCell (p := ⟨b, 0, none⟩) hb x).setCell (p := ⟨b, 1, none⟩) hb y
/-- A block that was laid stays, as long as what was there stays. -/
theorem laid_later {w X : World} {o : Obj} (h : Below (w.alloc o).heap.size (w.alloc o) X) : X.heap[w.heap.size]? = some o := by
  rw [h.block w.heap.size (by simp)]
  exact heap_alloc_new w o
theorem block_later {X Y : World} {b : Nat} {o : Obj} (h : X.heap[b]? = some o) (hb : Below X.heap.size X Y) : Y.heap[b]? = some o := by
  have hlt : b < X.heap.size := by
    rcases Nat.lt_or_ge b X.heap.size with h' | h'
    · exact h'
    · simp [Array.getElem?_eq_none h'] at h
  rw [hb.block b hlt]; exact h
theorem heap_alloc_old {w : World} {o o' : Obj} {b : Nat} (h : w.heap[b]? = some o) : (w.alloc o').heap[b]? = some o := block_later h (ba (b0 w) o')
theorem below_of_alloc {w X : World} {o : Obj} (h : Below (w.alloc o).heap.size (w.alloc o) X) : Below w.heap.size w X := (ba (b0 w) o).trans (h.mono (by simp))

theorem trimL (l : List UInt8) : Lib.trimLeftB l 48 = lead l := rfl
theorem trimR (l : List UInt8) : Lib.trimRightB l 48 = trim l := rfl
theorem repeat0 : ∀ c, Lib.repeatL [48] c = List.replicate c 48
  | 0 => rfl
  | c + 1 => by unfold Lib.repeatL; rw [repeat0 c, List.replicate_succ]; rfl
theorem TrimLeft_any (l : List UInt8) (w : World) :
    Calls Tryz.prog 201 #[.string (text l), .string ⟨#[48]⟩] w fun e w' => e = .returned (.string (text (lead l))) ∧ w' = w := by
  have h := Tryz.strings_TrimLeft_one (text l) 48 (by decide) w
  rw [text_data, trimL] at h
  exact h
theorem TrimRight_any (l : List UInt8) (hl : l.length ≤ 1000000000) (w : World) :
    Calls Tryz.prog 202 #[.string (text l), .string ⟨#[48]⟩] w fun e w' => e = .returned (.string (text (trim l))) ∧ w' = w := by
  have h := Tryz.strings_TrimRight_one (text l) 48 (by decide) w (by rw [text_size]; omega)
  rw [text_data, trimR] at h
  exact h
theorem Repeat_any (c : Nat) (hc : c ≤ 1000000000) (w : World) :
    Calls Tryz.prog 156 #[.string ⟨#[48]⟩, .int .i64 c] w fun e w' => e = .returned (.string (text (List.replicate c 48))) ∧ Below w.heap.size w w' := by
  have h := Tryz.strings_Repeat (text [48]) c w (by omega) (by rw [text_size]; simp; omega)
  rw [text_data, repeat0] at h
  exact h
/-- The first point's place; the end, if there is none. -/
def point : List UInt8 → Nat
  | [] => 0
  | b :: r => if b = 46 then 0 else point r + 1
theorem point_yes {b : UInt8} (r : List UInt8) (c : b = 46) : point (b :: r) = 0 := by rw [point, if_pos c]
theorem point_no {b : UInt8} (r : List UInt8) (c : ¬ b = 46) : point (b :: r) = point r + 1 := by rw [point, if_neg c]
theorem point_le : ∀ l, point l ≤ l.length
  | [] => Nat.le_refl _
  | b :: r => by unfold point; split <;> simp; exact point_le r
theorem point_at : ∀ l (h : point l < l.length), l[point l] = 46
  | [], h => absurd h (Nat.not_lt_zero _)
  | b :: r, h => by
    by_cases c : b = 46
    · have e := point_yes r c
      simp only [e]; exact c
    · have e := point_no r c
      simp only [e]
      exact point_at r (by rw [e] at h; simpa using h)
theorem point_before : ∀ l k (h : k < l.length), k < point l → l[k] ≠ 46
  | [], k, h, _ => absurd h (Nat.not_lt_zero _)
  | b :: r, k, h, hk => by
    by_cases c : b = 46
    · have e := point_yes r c
      omega
    · have e := point_no r c
      cases k with
      | zero => exact c
      | succ k => exact point_before r k (by simpa using h) (by omega)
theorem index_point : ∀ l, Lib.index l [46] = if point l < l.length then (point l : Int) else -1
  | [] => rfl
  | b :: r => by
    unfold Lib.index
    rw [index_point r]
    by_cases c : b = 46
    · have e := point_yes r c
      rw [e, if_pos (by rw [c]; rfl), if_pos (by simp)]; rfl
    · have e := point_no r c
      rw [e, if_neg (by simp [List.isPrefixOf]; exact fun x => c x.symm)]
      have el : (b :: r).length = r.length + 1 := rfl
      rw [el]
      by_cases d : point r < r.length
      · rw [if_pos d, if_pos (show point r + 1 < r.length + 1 by omega), if_neg (by rw [beq_iff_eq]; omega)]; omega
      · rw [if_neg d, if_neg (show ¬ point r + 1 < r.length + 1 by omega), if_pos (by decide)]
/-- What stands ahead of the point, and behind it. -/
def whole (l : List UInt8) : List UInt8 := l.take (point l)
def part (l : List UInt8) : List UInt8 := l.drop (point l + 1)
def pointed (l : List UInt8) : Bool := decide (point l < l.length)
theorem cut_point (l : List UInt8) : Lib.cut l [46] = (whole l, part l, pointed l) := by
  unfold Lib.cut whole part pointed
  rw [index_point]
  by_cases d : point l < l.length
  · rw [if_pos d, if_pos (by omega)]; simp [d]
  · have := point_le l
    rw [if_neg d, if_neg (by omega)]
    simp [d]
    rw [List.take_of_length_le (by omega)]
    exact ⟨rfl, by omega⟩
theorem whole_len (l : List UInt8) : (whole l).length = point l := by unfold whole; rw [List.length_take]; have := point_le l; omega
theorem part_len (l : List UInt8) : (part l).length = l.length - (point l + 1) := by unfold part; simp

/-- The variable of the library's searches holds some number. -/
def MaxL (w : World) : Prop := ∃ m : Int, w.cell? ⟨1, 0, none⟩ = some (.int .i64 m)
/-- What the layer asks of a world. -/
structure Fit (w : World) : Prop where
  err : ErrT w
  most : MaxL w
theorem MaxL.lt {w : World} (h : MaxL w) : 1 < w.heap.size := by
  obtain ⟨m, h⟩ := h
  refine Nat.lt_of_not_le fun h' => ?_
  unfold World.cell? at h
  simp [Array.getElem?_eq_none h'] at h
theorem Fit.later {w w' : World} (h : Fit w) (hb : Below w.heap.size w w') : Fit w' :=
  ⟨h.err.later hb, by obtain ⟨m, hm⟩ := h.most; exact ⟨m, (hb.cell (p := ⟨1, 0, none⟩) h.most.lt).trans hm⟩⟩
theorem Cut_any (l : List UInt8) (hl : l.length ≤ 1000000000) (w : World) (h : MaxL w) :
    Calls Tryz.prog 178 #[.string (text l), .string ⟨#[46]⟩] w fun e w' => e = .returned (.tuple #[.string (text (whole l)), .string (text (part l)), .bool (pointed l)]) ∧ Below w.heap.size w w' := by
  obtain ⟨m, hm⟩ := h
  refine (Tryz.strings_Cut (text l) (text [46]) m w (by rw [text_size]; omega) hm).mono ?_
  rintro e w' ⟨rfl, n, rfl⟩
  rw [text_data, text_data, cut_point]
  exact ⟨rfl, below_drewN (b0 w) n⟩

/-- What is wrong with a number. -/
def checkE (d : List UInt8) (s : Int) : Nat := if digs d = true then (if 1000 < d.length then 19 else if s < 0 ∨ 1000 < s then 3 else 0) else 17
theorem checkE_ok {d : List UInt8} {s : Int} (h : checkE d s = 0) : AllD d ∧ d ≠ [] ∧ d.length ≤ 1000 ∧ 0 ≤ s ∧ s ≤ 1000 := by
  unfold checkE at h
  split at h
  · rename_i c
    obtain ⟨c1, c2⟩ := (digs_iff d).1 c
    split at h
    · cases h
    · split at h
      · cases h
      · exact ⟨c1, c2, by omega, by omega, by omega⟩
  · cases h
theorem checkE_of {d : List UInt8} {s : Int} (h1 : AllD d) (h2 : d ≠ []) (h3 : d.length ≤ 1000) (h4 : 0 ≤ s) (h5 : s ≤ 1000) : checkE d s = 0 := by
  unfold checkE
  rw [if_pos ((digs_iff d).2 ⟨h1, h2⟩), if_neg (by omega), if_neg (by omega)]
theorem checkE_canon {l : List UInt8} {k : Nat} (h : AllD l) (h0 : l ≠ []) (hl : (canon l k).1.length ≤ 1000) (hk : k ≤ 1000) : checkE (canon l k).1 (canon l k).2 = 0 := by
  have := canon_len l k h0
  exact checkE_of (canon_is h k).1 (canon_is h k).2.1 hl (by omega) (by omega)
/-- What is wrong with a text that is read. -/
def readE (l : List UInt8) : Nat :=
  if (pointed l = true ∧ ((whole l ≠ [] ∧ digs (whole l) = false) ∨ digs (part l) = false)) ∨ (pointed l = false ∧ digs (whole l) = false) then 17
  else if 1000 < (whole l).length + (part l).length then 19 else 0
def readV (l : List UInt8) : List UInt8 × Nat := if readE l = 0 then canon (whole l ++ part l) (part l).length else ([], 0)
end Go.Proofs.YtkmdclfkmmlloaaGreatDoor.Num
namespace Go.Proofs.YtkmdclfkmmlloaaGreatDoor.Num
open Go Go.Proofs.YtkmdclfkmmlloaaGreatDoor Go.RowKit
set_option maxRecDepth 100000

theorem all_step {l : List UInt8} {k : Nat} (hk : k < l.length) (h : (l.take k).all isd = true) (hd : isd l[k] = true) : (l.take (k + 1)).all isd = true := by
  rw [List.take_succ_eq_append_getElem hk, List.all_append, h]; simp [hd]
theorem digs_stop {l : List UInt8} {k : Nat} (hk : k < l.length) (hd : isd l[k] = false) : digs l = false := by
  unfold digs
  rw [Bool.and_eq_false_iff]
  refine .inl ?_
  rw [List.all_eq_false]
  exact ⟨l[k], List.getElem_mem hk, by rw [hd]; simp⟩
theorem digs_end {l : List UInt8} {k : Nat} (hk : ¬ k < l.length) (h : (l.take k).all isd = true) : digs l = (l != []) := by
  rw [List.take_of_length_le (by omega)] at h
  unfold digs; rw [h]; simp

set_option maxHeartbeats 1000000 in
theorem areDigits_any (l : List UInt8) (hl : l.length ≤ 1000000000) (w : World) :
    Calls Tryz.prog 179 #[.string (text l)] w fun e w' => e = .returned (.bool (digs l)) ∧ w = w' := by
  have HSZ := hid (text_size l)
  go_enter Tryz.func179, Tryz.ntmps179
  go_wp2_with fail
  go_loop [6] (fun i => ∃ k : Nat, i = .int .i64 k ∧ k ≤ l.length ∧ (l.take k).all isd = true) (fun i => l.length - (intOf i).toNat)
  case atStart => exact ⟨0, rfl, by omega, rfl⟩
  case round =>
    obtain ⟨k, rfl, hk, hall⟩ := hrel
    have HALL := hid hall
    clear hall
    by_cases hlt : k < l.length
    · have hps : k < (text l).size := by rw [HSZ.out]; exact hlt
      obtain ⟨x, hx⟩ : ∃ x : Nat, ((text l)[k]'hps).toNat = x := ⟨_, rfl⟩
      have hx2 : (l[k]'hlt).toNat = x := hx
      by_cases hd : isd (l[k]'hlt) = true
      · have hr := (isd_iff _).1 hd
        rw [hx2] at hr
        have HST := hid (all_step hlt HALL.out hd)
        clear hd hx2
        go_wp2
        go_round
        case rel => exact ⟨k + 1, by go_num, by omega, HST.out⟩
        case measure => simp [intOf]; omega
      · have hr : ¬ (48 ≤ x ∧ x ≤ 57) := by rw [← hx2]; exact fun h => hd ((isd_iff _).2 h)
        have HST := hid (digs_stop hlt (by simpa using hd))
        clear hd hx2
        by_cases c : x < 48
        · clear hr
          go_wp2
          go_ret
          exact ⟨by rw [HST.out]; rfl, rfl⟩
        · have c2 : 57 < x := by omega
          clear hr
          go_wp2
          go_ret
          exact ⟨by rw [HST.out]; rfl, rfl⟩
    · have HE := hid (digs_end hlt HALL.out)
      have hps : ¬ (k : Int) < ((text l).size : Int) := by rw [HSZ.out]; omega
      by_cases h0 : l = []
      · have HF := hid (list_yes h0)
        have HX := hid h0
        clear h0
        go_wp2
        go_ret
        exact ⟨ret_bool (by rw [HE.out, text_list]; simp [HX.out]), rfl⟩
      · have q0 := list_no h0
        have HX := hid h0
        clear h0
        go_wp2
        go_ret
        exact ⟨ret_bool (by rw [HE.out]; simp [HX.out]), rfl⟩

set_option maxHeartbeats 1000000 in
theorem rdigits_any (l : List UInt8) (hl : l.length ≤ 1000000000) (w : World) :
    Calls Tryz.prog 147 #[.string (text l)] w fun e w' => e = .returned (.bool (digs l)) ∧ w = w' := by
  have HSZ := hid (text_size l)
  go_enter Tryz.func147, Tryz.ntmps147
  go_wp2_with fail
  go_loop [3] (fun i => ∃ k : Nat, i = .int .i64 k ∧ k ≤ l.length ∧ (l.take k).all isd = true) (fun i => l.length - (intOf i).toNat)
  case atStart => exact ⟨0, rfl, by omega, rfl⟩
  case round =>
    obtain ⟨k, rfl, hk, hall⟩ := hrel
    have HALL := hid hall
    clear hall
    by_cases hlt : k < l.length
    · have hps : k < (text l).size := by rw [HSZ.out]; exact hlt
      obtain ⟨x, hx⟩ : ∃ x : Nat, ((text l)[k]'hps).toNat = x := ⟨_, rfl⟩
      have hx2 : (l[k]'hlt).toNat = x := hx
      by_cases hd : isd (l[k]'hlt) = true
      · have hr := (isd_iff _).1 hd
        rw [hx2] at hr
        have HST := hid (all_step hlt HALL.out hd)
        clear hd hx2
        go_wp2
        go_round
        case rel => exact ⟨k + 1, by go_num, by omega, HST.out⟩
        case measure => simp [intOf]; omega
      · have hr : ¬ (48 ≤ x ∧ x ≤ 57) := by rw [← hx2]; exact fun h => hd ((isd_iff _).2 h)
        have HST := hid (digs_stop hlt (by simpa using hd))
        clear hd hx2
        by_cases c : x < 48
        · clear hr
          go_wp2
          go_ret
          exact ⟨by rw [HST.out]; rfl, rfl⟩
        · have c2 : 57 < x := by omega
          clear hr
          go_wp2
          go_ret
          exact ⟨by rw [HST.out]; rfl, rfl⟩
    · have HE := hid (digs_end hlt HALL.out)
      have hps : ¬ (k : Int) < ((text l).size : Int) := by rw [HSZ.out]; omega
      by_cases h0 : l = []
      · have hz : (text l).size = 0 := by rw [HSZ.out, h0]; rfl
        have HX := hid h0
        clear h0
        go_wp2
        go_ret
        exact ⟨by rw [HE.out, HX.out]; rfl, rfl⟩
      · have hz : 0 < (text l).size := by rw [HSZ.out]; exact List.length_pos_iff.2 h0
        have HX := hid h0
        clear h0
        go_wp2
        go_ret
        exact ⟨ret_bool (by rw [HE.out]; simp [HX.out]), rfl⟩
end Go.Proofs.YtkmdclfkmmlloaaGreatDoor.Num
namespace Go.Proofs.YtkmdclfkmmlloaaGreatDoor.Num
open Go Go.Proofs.YtkmdclfkmmlloaaGreatDoor Go.RowKit
set_option maxRecDepth 100000

theorem checkE_form {d : List UInt8} {s : Int} (h : digs d = false) : checkE d s = 17 := by unfold checkE; rw [if_neg (by rw [h]; simp)]
theorem checkE_long {d : List UInt8} {s : Int} (h : digs d = true) (h1 : 1000 < d.length) : checkE d s = 19 := by unfold checkE; rw [if_pos h, if_pos h1]
theorem checkE_range {d : List UInt8} {s : Int} (h : digs d = true) (h1 : ¬ 1000 < d.length) (h2 : s < 0 ∨ 1000 < s) : checkE d s = 3 := by unfold checkE; rw [if_pos h, if_neg h1, if_pos h2]
theorem checkE_right {d : List UInt8} {s : Int} (h : digs d = true) (h1 : ¬ 1000 < d.length) (h2 : ¬ (s < 0 ∨ 1000 < s)) : checkE d s = 0 := by unfold checkE; rw [if_pos h, if_neg h1, if_neg h2]

set_option maxHeartbeats 1000000 in
theorem check_any (d : List UInt8) (s : Int) (hl : d.length ≤ 1000000000) (w : World) :
    Calls Tryz.prog 182 #[numZ d s] w fun e w' => e = .returned (errV (checkE d s)) ∧ Below w.heap.size w w' := by
  have s1 := text_size d
  have HD := hid (fun w => areDigits_any d hl w)
  cases hg : digs d
  · have HE := hid (checkE_form (s := s) hg)
    rw [hg] at HD
    clear hg
    unfold numZ
    go_enter Tryz.func182, Tryz.ntmps182
    go_wp2_with fail
    refine (HD.out _).mono ?_
    rintro e w1 ⟨rfl, rfl⟩
    go_wp2
    go_ret
    exact ⟨by rw [HE.out]; rfl, ba (b0 _) _⟩
  · rw [hg] at HD
    by_cases h1 : 1000 < d.length
    · have HE := hid (checkE_long (s := s) hg h1)
      clear hg
      unfold numZ
      go_enter Tryz.func182, Tryz.ntmps182
      go_wp2_with fail
      refine (HD.out _).mono ?_
      rintro e w1 ⟨rfl, rfl⟩
      go_wp2
      go_ret
      exact ⟨by rw [HE.out]; rfl, ba (b0 _) _⟩
    · by_cases h2 : s < 0 ∨ 1000 < s
      · have HE := hid (checkE_range hg h1 h2)
        clear hg
        by_cases h3 : s < 0
        · clear h2
          unfold numZ
          go_enter Tryz.func182, Tryz.ntmps182
          go_wp2_with fail
          refine (HD.out _).mono ?_
          rintro e w1 ⟨rfl, rfl⟩
          go_wp2
          go_ret
          exact ⟨by rw [HE.out]; rfl, ba (b0 _) _⟩
        · have h4 : 1000 < s := by omega
          clear h2
          unfold numZ
          go_enter Tryz.func182, Tryz.ntmps182
          go_wp2_with fail
          refine (HD.out _).mono ?_
          rintro e w1 ⟨rfl, rfl⟩
          go_wp2
          go_ret
          exact ⟨by rw [HE.out]; rfl, ba (b0 _) _⟩
      · have HE := hid (checkE_right hg h1 h2)
        have h3 : ¬ s < 0 := by omega
        have h4 : ¬ 1000 < s := by omega
        clear hg h2
        unfold numZ
        go_enter Tryz.func182, Tryz.ntmps182
        go_wp2_with fail
        refine (HD.out _).mono ?_
        rintro e w1 ⟨rfl, rfl⟩
        go_wp2
        go_ret
        exact ⟨by rw [HE.out]; rfl, ba (b0 _) _⟩

end Go.Proofs.YtkmdclfkmmlloaaGreatDoor.Num
namespace Go.Proofs.YtkmdclfkmmlloaaGreatDoor.Num
open Go Go.Proofs.YtkmdclfkmmlloaaGreatDoor Go.RowKit
set_option maxRecDepth 100000

/-- The document's one form on its way: what stands in the box is the same number. -/
def Way (l : List UInt8) (k : Nat) (m : List UInt8) (j : Nat) : Prop := AllD m ∧ m ≠ [] ∧ canon m j = canon l k
theorem Way.drop {l m : List UInt8} {k : Nat} (h : Way l k m k) (h1 : 1 < m.length) (h2 : m[0] = 48) : Way l k (m.drop 1) k := by
  obtain ⟨a, b, c⟩ := h
  rcases m with _ | ⟨x, r⟩
  · exact absurd rfl b
  · have hx : x = 48 := h2
    subst hx
    refine ⟨a.right (l := [48]), ?_, by rw [← c, canon_cons]; rfl⟩
    intro e
    have : r = [] := e
    subst this
    simp at h1
theorem Way.cut {l m : List UInt8} {k j : Nat} (h : Way l k m (j + 1)) (h1 : m.length ≤ 1 ∨ m.head? ≠ some 48) (h2 : m.getLast? = some 48) (h3 : m ≠ [48]) :
    Way l k (m.take (m.length - 1)) j ∧ ((m.take (m.length - 1)).length ≤ 1 ∨ (m.take (m.length - 1)).head? ≠ some 48) := by
  obtain ⟨a, b, c⟩ := h
  obtain ⟨r, x, rfl⟩ : ∃ r x, m = r ++ [x] := ⟨m.dropLast, m.getLast b, (List.dropLast_concat_getLast b).symm⟩
  have hx : x = 48 := by simpa using h2
  subst hx
  have e : (r ++ [(48 : UInt8)]).take ((r ++ [(48 : UInt8)]).length - 1) = r := by simp
  rw [e]
  have hr : r ≠ [] := by rintro rfl; exact h3 rfl
  refine ⟨⟨a.left, hr, by rw [← c, canon_snoc a.left]⟩, ?_⟩
  rcases h1 with h1 | h1
  · left; simp at h1; exact absurd h1 hr
  · right
    rcases r with _ | ⟨y, r⟩
    · exact absurd rfl hr
    · simpa using h1
theorem Way.zero {l : List UInt8} {k j : Nat} (h : Way l k [48] j) : canon l k = ([48], 0) := by rw [← h.2.2]; rfl
theorem Way.done {l m : List UInt8} {k j : Nat} (h : Way l k m j) (h1 : m.length ≤ 1 ∨ m.head? ≠ some 48) (h2 : j = 0 ∨ m.getLast? ≠ some 48) (h3 : m ≠ [48]) : canon l k = (m, j) := by
  obtain ⟨a, b, c⟩ := h
  rw [← c]
  refine canon_fix ⟨a, b, .inr ⟨?_, h2⟩⟩
  rcases h1 with h1 | h1
  · rcases m with _ | ⟨y, r⟩
    · exact absurd rfl b
    · have hr : r = [] := List.eq_nil_of_length_eq_zero (by simpa using h1)
      subst hr
      intro e
      exact h3 (by simpa using e)
  · exact h1
theorem last_at {m : List UInt8} (h : m ≠ []) (h' : m.length - 1 < m.length) : m.getLast? = some (m[m.length - 1]'h') := by
  rw [List.getLast?_eq_getElem?]; exact List.getElem?_eq_getElem h'
theorem head_at {m : List UInt8} (h : 0 < m.length) : m.head? = some m[0] := by rw [List.head?_eq_getElem?]; exact List.getElem?_eq_getElem h

theorem put1a {w : World} {b : Nat} {x y : Value} {ty : TypeId} (h : w.heap[b]? = some (.cells #[x, y] ty (0, 0))) (u : Value) :
    (w.setCell ⟨b, 0, none⟩ u).heap[b]? = some (.cells #[u, y] ty (0, 0)) := by simp [World.setCell, Array.getElem?_modify, h]
theorem put1b {w : World} {b : Nat} {x y : Value} {ty : TypeId} (h : w.heap[b]? = some (.cells #[x, y] ty (0, 0))) (u : Value) :
    (w.setCell ⟨b, 1, none⟩ u).heap[b]? = some (.cells #[x, u] ty (0, 0)) := by simp [World.setCell, Array.getElem?_modify, h]
theorem put_else {w : World} {b c j : Nat} {o : Obj} (h : w.heap[c]? = some o) (hc : c ≠ b) (u : Value) : (w.setCell ⟨b, j, none⟩ u).heap[c]? = some o :=
  (Below.heap_setCell w ⟨b, j, none⟩ u c hc).trans h
theorem put_below {w X : World} {b j : Nat} (h : Below w.heap.size w X) (hb : w.heap.size ≤ b) (u : Value) : Below w.heap.size w (X.setCell ⟨b, j, none⟩ u) := h.setCell (p := ⟨b, j, none⟩) hb u

set_option maxHeartbeats 2000000 in
theorem RCanon_any (l : List UInt8) (k : Nat) (hl : l.length ≤ 1000000000) (hk : k ≤ 1000000000) (hd : AllD l) (hn : l ≠ []) (w : World) :
    Calls Tryz.prog 148 #[numV (l, k)] w fun e w' => e = .returned (numV (canon l k)) ∧ Below w.heap.size w w' := by
  have HW := hid (show Way l k l k from ⟨hd, hn, rfl⟩)
  have s1 := text_size l
  clear hd hn
  unfold numV numZ
  go_enter Tryz.func148, Tryz.ntmps148
  go_wp2_with fail
  go_loopg [6] l.length (fun gk _ wr => ∃ m : List UInt8, gk = m.length ∧ m.length ≤ l.length ∧ Hid (Way l k m k) ∧ Hid (wr.heap[w.heap.size]? = some (.cells #[.string (text m), .int .i64 k] 129 (0, 0))) ∧ Hid (wr.heap[w.heap.size + 1]? = some (.cells #[.string ⟨#[]⟩, .int .i64 0] 129 (0, 0))) ∧ Hid (Below w.heap.size w wr))
  case atStart => exact ⟨l, rfl, Nat.le_refl _, HW, hid (heap_alloc_old (heap_alloc_new _ _)), hid (by have := heap_alloc_new (w.alloc (.cells #[.string (text l), .int .i64 k] 129)) (.cells #[.string ⟨#[]⟩, .int .i64 0] 129); simpa using this), hid (ba (ba (b0 _) _) _)⟩
  case round =>
    rename World => X
    obtain ⟨m, hgk, hml, HM, HB, HC, HX⟩ := hrel
    have c0 : X.cell? ⟨w.heap.size, 0, none⟩ = some (.string (text m)) := by rw [Lib.cell_of_heap HB.out]; rfl
    have c1 : X.cell? ⟨w.heap.size, 1, none⟩ = some (.int .i64 k) := by rw [Lib.cell_of_heap HB.out]; rfl
    have f0 := Lib.frozen_of_heap HB.out 0
    have s2 := text_size m
    by_cases hgo : 1 < m.length ∧ m.head? = some 48
    · obtain ⟨h1, h2⟩ := hgo
      have hps : 0 < (text m).size := by omega
      have hx2 : m[0]'(by omega) = 48 := by rw [head_at (by omega)] at h2; exact Option.some.inj h2
      have HD := hid (HM.out.drop h1 hx2)
      have hx' : (((text m)[0]'hps).toNat : Int) = 48 := by
        have : ((text m)[0]'hps) = m[0]'(by omega) := rfl
        rw [this, hx2]; rfl
      have ex : (text m).extract 1 m.length = text (m.drop 1) := by rw [← s2]; exact text_extract m 1
      clear hx2 h2
      go_wp2
      go_roundg (gk - 1)
      case rel =>
        exact ⟨m.drop 1, by simp; omega, by simp; omega, HD, hid (by rw [List.drop_one]; exact put1a HB.out _), hid (put_else HC.out (by omega) _), hid (put_below HX.out (Nat.le_refl _) _)⟩
      case measure => omega
    · have HE := hid (show m.length ≤ 1 ∨ m.head? ≠ some 48 from by
        by_cases h1 : m.length ≤ 1
        · exact .inl h1
        · exact .inr fun e => hgo ⟨by omega, e⟩)
      have hm0 : 0 < m.length := List.length_pos_iff.2 HM.out.2.1
      have hps : 0 < (text m).size := by omega
      have hx : ¬ 1 < m.length ∨ (1 < m.length ∧ ¬ (((text m)[0]'hps).toNat : Int) = 48) := by
        by_cases h1 : 1 < m.length
        · refine .inr ⟨h1, fun e => hgo ⟨h1, ?_⟩⟩
          rw [head_at hm0]
          have : ((text m)[0]'hps) = m[0]'hm0 := rfl
          rw [this] at e
          rw [show m[0]'hm0 = 48 from UInt8.toNat_inj.1 (by have : (48 : UInt8).toNat = 48 := rfl; omega)]
        · exact .inl h1
      clear hgo
      rcases hx with h1 | ⟨h1, h2⟩
      all_goals
        go_wp2_with fail
        go_loopg [19] k (fun gk _ wr => ∃ (m : List UInt8), m.length ≤ l.length ∧ gk ≤ k ∧ Hid (Way l k m gk) ∧ Hid (m.length ≤ 1 ∨ m.head? ≠ some 48) ∧ Hid (wr.heap[w.heap.size]? = some (.cells #[.string (text m), .int .i64 gk] 129 (0, 0))) ∧ Hid (wr.heap[w.heap.size + 1]? = some (.cells #[.string ⟨#[]⟩, .int .i64 0] 129 (0, 0))) ∧ Hid (Below w.heap.size w wr))
        case atStart => exact ⟨m, hml, Nat.le_refl _, HM, HE, HB, HC, HX⟩
        case round =>
          rename World => Y
          obtain ⟨q, hql, hjk, HM2, HE2, HB2, HC2, HY⟩ := hrel
          have d0 : Y.cell? ⟨w.heap.size, 0, none⟩ = some (.string (text q)) := by rw [Lib.cell_of_heap HB2.out]; rfl
          have d1 : Y.cell? ⟨w.heap.size, 1, none⟩ = some (.int .i64 gk) := by rw [Lib.cell_of_heap HB2.out]; rfl
          have g0 := Lib.frozen_of_heap HB2.out 0
          have g1 := Lib.frozen_of_heap HB2.out 1
          have e0 : Y.cell? ⟨w.heap.size + 1, 0, none⟩ = some (.string ⟨#[]⟩) := by rw [Lib.cell_of_heap HC2.out]; rfl
          have e1 : Y.cell? ⟨w.heap.size + 1, 1, none⟩ = some (.int .i64 0) := by rw [Lib.cell_of_heap HC2.out]; rfl
          have k0 := Lib.frozen_of_heap HC2.out 0
          have k1 := Lib.frozen_of_heap HC2.out 1
          have t2 := text_size q
          have hq0 : 0 < q.length := List.length_pos_iff.2 HM2.out.2.1
          have hps2 : q.length - 1 < (text q).size := by omega
          by_cases hgo2 : 0 < gk ∧ q.getLast? = some 48 ∧ q ≠ [48]
          · obtain ⟨a1, a2, a3⟩ := hgo2
            have q0 := list_no a3
            have HA3 := hid a3
            have HA2 := hid a2
            obtain ⟨j, rfl⟩ : ∃ j, gk = j + 1 := ⟨gk - 1, by omega⟩
            have HD := hid (HM2.out.cut HE2.out a2 a3)
            have hx' : (((text q)[q.length - 1]'hps2).toNat : Int) = 48 := by
              have : ((text q)[q.length - 1]'hps2) = q[q.length - 1]'(by omega) := rfl
              rw [last_at HM2.out.2.1 (by omega)] at a2
              rw [this, Option.some.inj a2]; rfl
            clear a2 a3
            go_wp2
            have ex2 : (text q).extract 0 (q.length - 1) = text (q.take (q.length - 1)) := text_zero q _
            rw [ex2]
            go_roundg j
            case rel => exact ⟨q.take (q.length - 1), by simp; omega, by omega, hid HD.out.1, hid HD.out.2, hid (put1b (put1a HB2.out _) _), hid (put_else (put_else HC2.out (by omega) _) (by omega) _), hid (put_below (put_below HY.out (Nat.le_refl _) _) (Nat.le_refl _) _)⟩
            case measure => omega
          · by_cases h48 : q = [48]
            · have HZ := hid (show canon l k = ([48], 0) by have := HM2.out; rw [h48] at this; exact this.zero)
              have q0 := list_yes h48
              have HQ := hid h48
              have hx' : (((text q)[q.length - 1]'hps2).toNat : Int) = 48 := by
                have : ((text q)[q.length - 1]'hps2) = q[q.length - 1]'(by omega) := rfl
                rw [this]
                subst h48; rfl
              clear h48 hgo2
              rcases Nat.eq_zero_or_pos gk with hz | hz
              · subst hz
                go_wp2
                refine bodyPost_ret (results_one rfl _ _ _ _ rfl (load_num (put2 (put_else HC2.out (by omega) _) _ _))) rfl ?_
                exact ⟨by rw [HZ.out, HQ.out]; rfl, put2_below (put_below HY.out (Nat.le_refl _) _) (by omega) _ _⟩
              · have hz' : (0 : Int) < (gk : Int) := by omega
                go_wp2
                refine bodyPost_ret (results_one rfl _ _ _ _ rfl (load_num (put2 (put_else HC2.out (by omega) _) _ _))) rfl ?_
                exact ⟨by rw [HZ.out, HQ.out]; rfl, put2_below (put_below HY.out (Nat.le_refl _) _) (by omega) _ _⟩
            · have hl : gk = 0 ∨ q.getLast? ≠ some 48 := by
                rcases Nat.eq_zero_or_pos gk with hz | hz
                · exact .inl hz
                · exact .inr fun e => hgo2 ⟨hz, e, h48⟩
              have HZ := hid (HM2.out.done HE2.out hl h48)
              have q0 := list_no h48
              clear h48 hgo2
              rcases Nat.eq_zero_or_pos gk with hz | hz
              · subst hz
                clear hl
                go_wp2
                refine bodyPost_ret (results_one rfl _ _ _ _ rfl (load_num (put2 HC2.out _ _))) rfl ?_
                exact ⟨by rw [HZ.out] <;> rfl, put2_below HY.out (by omega) _ _⟩
              · have hz' : (0 : Int) < (gk : Int) := by omega
                have hx' : ¬ (((text q)[q.length - 1]'hps2).toNat : Int) = 48 := by
                  have hne := hl.resolve_left (by omega)
                  have : ((text q)[q.length - 1]'hps2) = q[q.length - 1]'(by omega) := rfl
                  rw [last_at HM2.out.2.1 (by omega)] at hne
                  rw [this]
                  intro e
                  exact hne (congrArg some (UInt8.toNat_inj.1 (by have : (48 : UInt8).toNat = 48 := rfl; omega)))
                clear hl
                go_wp2
                refine bodyPost_ret (results_one rfl _ _ _ _ rfl (load_num (put2 HC2.out _ _))) rfl ?_
                exact ⟨by rw [HZ.out] <;> rfl, put2_below HY.out (by omega) _ _⟩
end Go.Proofs.YtkmdclfkmmlloaaGreatDoor.Num
namespace Go.Proofs.YtkmdclfkmmlloaaGreatDoor.Num
open Go Go.Proofs.YtkmdclfkmmlloaaGreatDoor Go.RowKit
set_option maxRecDepth 100000

set_option maxHeartbeats 1000000 in
theorem oneForm_any (l : List UInt8) (k : Nat) (hl : l.length ≤ 1000000000) (hk : k ≤ 1000000000) (w : World) :
    Calls Tryz.prog 180 #[.string (text l), .int .i64 k] w fun e w' => e = .returned (numV (canon l k)) ∧ Below w.heap.size w w' := by
  have HL := hid (fun w => TrimLeft_any l w)
  by_cases h0 : lead l = []
  · have HC := hid (canon_zero (k := k) h0)
    have q0 := list_yes h0
    clear h0
    go_enter Tryz.func180, Tryz.ntmps180
    go_wp2_with fail
    refine (HL.out _).mono ?_
    rintro e w1 ⟨rfl, rfl⟩
    go_wp2
    refine bodyPost_ret (results_one rfl _ _ _ _ rfl (load_num (heap_alloc_new _ _))) rfl ?_
    exact ⟨by rw [HC.out]; rfl, ba (b0 _) _⟩
  · have HC := hid (show canon l k = ((lead l).take ((lead l).length - min ((lead l).length - (trim (lead l)).length) k), k - min ((lead l).length - (trim (lead l)).length) k) by unfold canon; rw [if_neg h0])
    have q0 := list_no h0
    have hd := lead_len l
    have HR := hid (fun w => TrimRight_any (lead l) (by omega) w)
    have ht : (trim (lead l)).length ≤ (lead l).length := by
      obtain ⟨j, hj⟩ := trim_split (lead l)
      have := congrArg List.length hj
      simp at this; omega
    clear h0
    generalize lead l = d at *
    have s1 := text_size d
    have s2 := text_size (trim d)
    generalize trim d = t at *
    go_enter Tryz.func180, Tryz.ntmps180
    go_wp2_with fail
    refine (HL.out _).mono ?_
    rintro e w1 ⟨rfl, rfl⟩
    have u1 : IntKind.i64.wrap ((d.length : Int) - (t.length : Int)) = ((d.length - t.length : Nat) : Int) := by rw [IntWalk.i64_in _ (by omega)]; omega
    go_wp2_with fail
    refine (HR.out _).mono ?_
    rintro e w1 ⟨rfl, rfl⟩
    go_wp2
    refine bodyPost_ret (results_one rfl _ _ _ _ rfl (load_num (heap_alloc_new _ _))) rfl ?_
    refine ⟨?_, ba (b0 _) _⟩
    rw [HC.out]
    have e1 : ((d.length : Int) - min ((d.length - t.length : Nat) : Int) (k : Int)).toNat = d.length - min (d.length - t.length) k := by omega
    have e2 : ((k : Int) - min ((d.length - t.length : Nat) : Int) (k : Int)) = ((k - min (d.length - t.length) k : Nat) : Int) := by omega
    rw [e1, e2, text_zero]
    rfl
end Go.Proofs.YtkmdclfkmmlloaaGreatDoor.Num
namespace Go.Proofs.YtkmdclfkmmlloaaGreatDoor.Num
open Go Go.Proofs.YtkmdclfkmmlloaaGreatDoor Go.RowKit
set_option maxRecDepth 100000

theorem readE_form1 {l : List UInt8} (h : pointed l = false) (h1 : digs (whole l) = false) : readE l = 17 := by unfold readE; rw [if_pos (.inr ⟨h, h1⟩)]
theorem readE_form2 {l : List UInt8} (h : pointed l = true) (h1 : whole l ≠ []) (h2 : digs (whole l) = false) : readE l = 17 := by unfold readE; rw [if_pos (.inl ⟨h, .inl ⟨h1, h2⟩⟩)]
theorem readE_form3 {l : List UInt8} (h : pointed l = true) (h2 : digs (part l) = false) : readE l = 17 := by unfold readE; rw [if_pos (.inl ⟨h, .inr h2⟩)]
theorem readE_fine {l : List UInt8} (h : (pointed l = false ∧ digs (whole l) = true) ∨ (pointed l = true ∧ (whole l = [] ∨ digs (whole l) = true) ∧ digs (part l) = true)) :
    readE l = if 1000 < (whole l).length + (part l).length then 19 else 0 := by
  unfold readE
  rw [if_neg]
  rintro (⟨a, ⟨b, c⟩ | b⟩ | ⟨a, b⟩)
  · rcases h with ⟨x, y⟩ | ⟨x, y | y, z⟩
    · rw [x] at a; cases a
    · exact b y
    · rw [y] at c; cases c
  · rcases h with ⟨x, y⟩ | ⟨x, y, z⟩
    · rw [x] at a; cases a
    · rw [z] at b; cases b
  · rcases h with ⟨x, y⟩ | ⟨x, y, z⟩
    · rw [y] at b; cases b
    · rw [x] at a; cases a
theorem readV_no {l : List UInt8} (h : readE l ≠ 0) : readV l = ([], 0) := by unfold readV; rw [if_neg h]
theorem readV_yes {l : List UInt8} (h : readE l = 0) : readV l = canon (whole l ++ part l) (part l).length := by unfold readV; rw [if_pos h]
/-- What read answers. -/
def readA (l : List UInt8) : Value := .tuple #[numV (readV l), errV (readE l)]
theorem readA_no {l : List UInt8} {e : Nat} (h : readE l = e) (h0 : e ≠ 0) : readA l = .tuple #[.agg #[.string ⟨#[]⟩, .int .i64 0], .iface 183 (.agg #[.int .i64 e])] := by
  unfold readA errV
  rw [readV_no (by omega), h, if_neg h0]; rfl
theorem readA_yes {l : List UInt8} (h : readE l = 0) : readA l = .tuple #[numV (canon (whole l ++ part l) (part l).length), .nilIface] := by
  unfold readA errV
  rw [readV_yes h, h]; rfl

set_option maxHeartbeats 2000000 in
theorem read_any (l : List UInt8) (hl : l.length ≤ 500000000) (w : World) (hw : MaxL w) :
    Calls Tryz.prog 153 #[.string (text l)] w fun e w' => e = .returned (readA l) ∧ Below w.heap.size w w' := by
  have HC := hid (Cut_any l (by omega) _ (show MaxL (w.alloc (.cells #[.string ⟨#[]⟩, .int .i64 0] 129)) from by
    obtain ⟨m, hm⟩ := hw; exact ⟨m, ((ba (b0 w) _).cell (p := ⟨1, 0, none⟩) (MaxL.lt ⟨m, hm⟩)).trans hm⟩))
  have l1 := whole_len l
  have l2 := part_len l
  have l3 := point_le l
  have hsum : (whole l).length + (part l).length ≤ 1000000000 := by omega
  have W1 := hid (fun w => areDigits_any (whole l) (by omega) w)
  have W2 := hid (fun w => areDigits_any (part l) (by omega) w)
  have W3 := hid (fun w => oneForm_any (whole l ++ part l) (part l).length (by simp; omega) (by omega) w)
  have E1 := hid (@readE_form1 l)
  have E2 := hid (@readE_form2 l)
  have E3 := hid (@readE_form3 l)
  have E4 := hid (@readE_fine l)
  have AN := hid (show ∀ e : Nat, readE l = e → e ≠ 0 → _ from fun e h h0 => @readA_no l e h h0)
  have AY := hid (@readA_yes l)
  clear l1 l2 l3 hw
  generalize whole l = a at *
  generalize part l = b at *
  generalize readA l = A at *
  have z1 := text_size a
  have z2 := text_size b
  go_enter Tryz.func153, Tryz.ntmps153
  go_wp2_with fail
  refine HC.out.mono ?_
  rintro e w1 ⟨rfl, hb1⟩
  have P1 := hid (laid_later hb1)
  have B1 := hid (below_of_alloc hb1)
  have c0 : w1.cell? ⟨w.heap.size, 0, none⟩ = some (.string ⟨#[]⟩) := by rw [Lib.cell_of_heap P1.out]; rfl
  have c1 : w1.cell? ⟨w.heap.size, 1, none⟩ = some (.int .i64 0) := by rw [Lib.cell_of_heap P1.out]; rfl
  have f0 := Lib.frozen_of_heap P1.out 0
  have f1 := Lib.frozen_of_heap P1.out 1
  clear hb1
  obtain ⟨c, hc⟩ : ∃ c, canon (a ++ b) b.length = c := ⟨_, rfl⟩
  rw [hc] at W3 AY
  clear hc
  cases hp : pointed l
  · have EE := hid hp
    clear hp
    cases hg : digs a
    · rw [hg] at W1
      have HA := hid (AN.out 17 (E1.out EE.out hg) (by omega))
      clear hg
      go_wp2_with fail
      refine (W1.out _).mono ?_
      rintro e w2 ⟨rfl, rfl⟩
      go_wp2
      refine bodyPost_ret (results_pair rfl _ _ _ _ rfl (load_num (put2 P1.out _ _))) rfl ?_
      exact ⟨by rw [HA.out]; rfl, put2_below B1.out (Nat.le_refl _) _ _⟩
    · have HG := hid hg
      rw [hg] at W1
      clear hg
      have EF := E4.out (.inl ⟨EE.out, HG.out⟩)
      by_cases hlong : 1000 < a.length + b.length
      · rw [if_pos hlong] at EF
        have HA := hid (AN.out 19 EF (by omega))
        clear EF
        go_wp2_with fail
        refine (W1.out _).mono ?_
        rintro e w2 ⟨rfl, rfl⟩
        go_wp2
        refine bodyPost_ret (results_pair rfl _ _ _ _ rfl (load_num (put2 P1.out _ _))) rfl ?_
        exact ⟨by rw [HA.out]; rfl, put2_below B1.out (Nat.le_refl _) _ _⟩
      · rw [if_neg hlong] at EF
        have HA := hid (AY.out EF)
        clear EF
        have hadd : text a ++ text b = text (a ++ b) := text_append a b
        have hadz : (text a).size + (text b).size ≤ 9223372036854775807 := by omega
        go_wp2_with fail
        refine (W1.out _).mono ?_
        rintro e w2 ⟨rfl, rfl⟩
        go_wp2_with fail
        refine (W3.out _).mono ?_
        rintro e w3 ⟨rfl, hb3⟩
        have P3 := block_later P1.out hb3
        have B3 := hid (bt B1.out hb3)
        have c0' : w3.cell? ⟨w.heap.size, 0, none⟩ = some (.string ⟨#[]⟩) := by rw [Lib.cell_of_heap P3]; rfl
        have c1' : w3.cell? ⟨w.heap.size, 1, none⟩ = some (.int .i64 0) := by rw [Lib.cell_of_heap P3]; rfl
        have f0' := Lib.frozen_of_heap P3 0
        have f1' := Lib.frozen_of_heap P3 1
        have HP3 := hid P3
        clear hb3 P3
        unfold numV numZ
        unfold numV numZ at HA
        go_wp2
        refine bodyPost_ret (results_pair rfl _ _ _ _ rfl (load_num (put2 HP3.out _ _))) rfl ?_
        exact ⟨by rw [HA.out]; rfl, put2_below B3.out (Nat.le_refl _) _ _⟩
  · have EE := hid hp
    clear hp
    by_cases h0 : a = []
    · have q0 := list_yes h0
      have H0 := hid h0
      clear h0
      cases hg : digs b
      · rw [hg] at W2
        have HA := hid (AN.out 17 (E3.out EE.out hg) (by omega))
        clear hg
        go_wp2_with fail
        refine (W2.out _).mono ?_
        rintro e w2 ⟨rfl, rfl⟩
        go_wp2
        refine bodyPost_ret (results_pair rfl _ _ _ _ rfl (load_num (put2 P1.out _ _))) rfl ?_
        exact ⟨by rw [HA.out]; rfl, put2_below B1.out (Nat.le_refl _) _ _⟩
      · have HG := hid hg
        rw [hg] at W2
        clear hg
        have EF := E4.out (.inr ⟨EE.out, .inl H0.out, HG.out⟩)
        by_cases hlong : 1000 < a.length + b.length
        · rw [if_pos hlong] at EF
          have HA := hid (AN.out 19 EF (by omega))
          clear EF
          go_wp2_with fail
          refine (W2.out _).mono ?_
          rintro e w2 ⟨rfl, rfl⟩
          go_wp2
          refine bodyPost_ret (results_pair rfl _ _ _ _ rfl (load_num (put2 P1.out _ _))) rfl ?_
          exact ⟨by rw [HA.out]; rfl, put2_below B1.out (Nat.le_refl _) _ _⟩
        · rw [if_neg hlong] at EF
          have HA := hid (AY.out EF)
          clear EF
          have hadd : text a ++ text b = text (a ++ b) := text_append a b
          have hadz : (text a).size + (text b).size ≤ 9223372036854775807 := by omega
          go_wp2_with fail
          refine (W2.out _).mono ?_
          rintro e w2 ⟨rfl, rfl⟩
          go_wp2_with fail
          refine (W3.out _).mono ?_
          rintro e w3 ⟨rfl, hb3⟩
          have P3 := block_later P1.out hb3
          have B3 := hid (bt B1.out hb3)
          have c0' : w3.cell? ⟨w.heap.size, 0, none⟩ = some (.string ⟨#[]⟩) := by rw [Lib.cell_of_heap P3]; rfl
          have c1' : w3.cell? ⟨w.heap.size, 1, none⟩ = some (.int .i64 0) := by rw [Lib.cell_of_heap P3]; rfl
          have f0' := Lib.frozen_of_heap P3 0
          have f1' := Lib.frozen_of_heap P3 1
          have HP3 := hid P3
          clear hb3 P3
          unfold numV numZ
          unfold numV numZ at HA
          go_wp2
          refine bodyPost_ret (results_pair rfl _ _ _ _ rfl (load_num (put2 HP3.out _ _))) rfl ?_
          exact ⟨by rw [HA.out]; rfl, put2_below B3.out (Nat.le_refl _) _ _⟩
    · have q0 := list_no h0
      have H0 := hid h0
      clear h0
      cases hg : digs a
      · rw [hg] at W1
        have HA := hid (AN.out 17 (E2.out EE.out H0.out hg) (by omega))
        clear hg
        go_wp2_with fail
        refine (W1.out _).mono ?_
        rintro e w2 ⟨rfl, rfl⟩
        go_wp2
        refine bodyPost_ret (results_pair rfl _ _ _ _ rfl (load_num (put2 P1.out _ _))) rfl ?_
        exact ⟨by rw [HA.out]; rfl, put2_below B1.out (Nat.le_refl _) _ _⟩
      · have HG := hid hg
        rw [hg] at W1
        clear hg
        cases hg : digs b
        · rw [hg] at W2
          have HA := hid (AN.out 17 (E3.out EE.out hg) (by omega))
          clear hg
          go_wp2_with fail
          refine (W1.out _).mono ?_
          rintro e w2 ⟨rfl, rfl⟩
          go_wp2_with fail
          refine (W2.out _).mono ?_
          rintro e w2 ⟨rfl, rfl⟩
          go_wp2
          refine bodyPost_ret (results_pair rfl _ _ _ _ rfl (load_num (put2 P1.out _ _))) rfl ?_
          exact ⟨by rw [HA.out]; rfl, put2_below B1.out (Nat.le_refl _) _ _⟩
        · have HG2 := hid hg
          rw [hg] at W2
          clear hg
          have EF := E4.out (.inr ⟨EE.out, .inr HG.out, HG2.out⟩)
          by_cases hlong : 1000 < a.length + b.length
          · rw [if_pos hlong] at EF
            have HA := hid (AN.out 19 EF (by omega))
            clear EF
            go_wp2_with fail
            refine (W1.out _).mono ?_
            rintro e w2 ⟨rfl, rfl⟩
            go_wp2_with fail
            refine (W2.out _).mono ?_
            rintro e w2 ⟨rfl, rfl⟩
            go_wp2
            refine bodyPost_ret (results_pair rfl _ _ _ _ rfl (load_num (put2 P1.out _ _))) rfl ?_
            exact ⟨by rw [HA.out]; rfl, put2_below B1.out (Nat.le_refl _) _ _⟩
          · rw [if_neg hlong] at EF
            have HA := hid (AY.out EF)
            clear EF
            have hadd : text a ++ text b = text (a ++ b) := text_append a b
            have hadz : (text a).size + (text b).size ≤ 9223372036854775807 := by omega
            go_wp2_with fail
            refine (W1.out _).mono ?_
            rintro e w2 ⟨rfl, rfl⟩
            go_wp2_with fail
            refine (W2.out _).mono ?_
            rintro e w2 ⟨rfl, rfl⟩
            go_wp2_with fail
            refine (W3.out _).mono ?_
            rintro e w3 ⟨rfl, hb3⟩
            have P3 := block_later P1.out hb3
            have B3 := hid (bt B1.out hb3)
            have c0' : w3.cell? ⟨w.heap.size, 0, none⟩ = some (.string ⟨#[]⟩) := by rw [Lib.cell_of_heap P3]; rfl
            have c1' : w3.cell? ⟨w.heap.size, 1, none⟩ = some (.int .i64 0) := by rw [Lib.cell_of_heap P3]; rfl
            have f0' := Lib.frozen_of_heap P3 0
            have f1' := Lib.frozen_of_heap P3 1
            have HP3 := hid P3
            clear hb3 P3
            unfold numV numZ
            unfold numV numZ at HA
            go_wp2
            refine bodyPost_ret (results_pair rfl _ _ _ _ rfl (load_num (put2 HP3.out _ _))) rfl ?_
            exact ⟨by rw [HA.out]; rfl, put2_below B3.out (Nat.le_refl _) _ _⟩
end Go.Proofs.YtkmdclfkmmlloaaGreatDoor.Num
namespace Go.Proofs.YtkmdclfkmmlloaaGreatDoor.Num
open Go Go.Proofs.YtkmdclfkmmlloaaGreatDoor Go.RowKit
set_option maxRecDepth 100000

/-- What the document's Read answers. -/
def RReadA (l : List UInt8) : Value := .tuple #[numV (readV l), .int .i64 (readE l)]
theorem RReadA_no {l : List UInt8} {e : Nat} (h : readE l = e) (h0 : e ≠ 0) : RReadA l = .tuple #[.agg #[.string ⟨#[]⟩, .int .i64 0], .int .i64 e] := by
  unfold RReadA
  rw [readV_no (by omega), h]; rfl
theorem RReadA_yes {l : List UInt8} (h : readE l = 0) : RReadA l = .tuple #[numV (canon (whole l ++ part l) (part l).length), .int .i64 0] := by
  unfold RReadA
  rw [readV_yes h, h]; rfl
set_option maxHeartbeats 2000000 in
theorem RRead_any (l : List UInt8) (hl : l.length ≤ 500000000) (w : World) :
    Calls Tryz.prog 121 #[.string (text l)] w fun e w' => e = .returned (RReadA l) ∧ Below w.heap.size w w' := by
  have s1 := text_size l
  go_enter Tryz.func121, Tryz.ntmps121
  go_wp2_with fail
  obtain ⟨W1, hW1⟩ : ∃ W1, w.alloc (.cells #[.string ⟨#[]⟩, .int .i64 0] 129) = W1 := ⟨_, rfl⟩
  have B1 := hid (show Below w.heap.size w W1 from hW1 ▸ ba (b0 w) _)
  have P1 := hid (show W1.heap[w.heap.size]? = some (.cells #[.string ⟨#[]⟩, .int .i64 0] 129 (0, 0)) from hW1 ▸ heap_alloc_new w _)
  rw [hW1]
  clear hW1
  have c0 : W1.cell? ⟨w.heap.size, 0, none⟩ = some (.string ⟨#[]⟩) := by rw [Lib.cell_of_heap P1.out]; rfl
  have c1 : W1.cell? ⟨w.heap.size, 1, none⟩ = some (.int .i64 0) := by rw [Lib.cell_of_heap P1.out]; rfl
  have f0 := Lib.frozen_of_heap P1.out 0
  have f1 := Lib.frozen_of_heap P1.out 1
  go_loopg [5, 4] l.length (fun gk iv pv X => ∃ k : Nat, iv = .int .i64 k ∧ pv = .int .i64 l.length ∧ k + gk = l.length ∧ Hid (k ≤ point l) ∧ X = W1)
  case atStart => exact ⟨0, rfl, rfl, by omega, hid (by omega), rfl⟩
  case round =>
    obtain ⟨k, rfl, rfl, hkg, HK, rfl⟩ := hrel
    rename World => X
    have l1 := whole_len l
    have l2 := part_len l
    have l3 := point_le l
    have HW := hid (show whole l = l.take (point l) from rfl)
    have HPT := hid (show part l = l.drop (point l + 1) from rfl)
    have hsum : (whole l).length + (part l).length ≤ 1000000000 := by omega
    have W1' := hid (fun w => rdigits_any (whole l) (by omega) w)
    have W2' := hid (fun w => rdigits_any (part l) (by omega) w)
    have W3' := hid (fun (h1 : AllD (whole l ++ part l)) (h2 : whole l ++ part l ≠ []) w => RCanon_any (whole l ++ part l) (part l).length (by simp; omega) (by omega) h1 h2 w)
    by_cases hlt : k < l.length
    · have hps : k < (text l).size := by omega
      by_cases hx : l[k] = 46
      · have hx' : (((text l)[k]'hps).toNat : Int) = 46 := by
          have : ((text l)[k]'hps) = l[k] := rfl
          rw [this, hx]; rfl
        have hpk : point l = k := by
          have h1 := HK.out
          refine Nat.le_antisymm (Nat.le_of_not_lt fun c => ?_) h1
          exact point_before l k hlt c hx
        have HEE := hid (show pointed l = true by unfold pointed; rw [decide_eq_true_iff]; omega)
        rw [hpk] at HW HPT
        have ex1 : (text l).extract 0 k = text (whole l) := by rw [HW.out]; exact text_zero l k
        have ex2 : (text l).extract (k + 1) l.length = text (part l) := by rw [HPT.out, ← s1]; exact text_extract l (k + 1)
        clear hx hpk
        have E2 := hid (@readE_form2 l)
        have E3 := hid (@readE_form3 l)
        have E4 := hid (@readE_fine l)
        have AN := hid (show ∀ e : Nat, readE l = e → e ≠ 0 → _ from fun e h h0 => @RReadA_no l e h h0)
        have AY := hid (@RReadA_yes l)
        clear l1 l2 HW HPT
        generalize whole l = a at *
        generalize part l = b at *
        have z1 := text_size a
        have z2 := text_size b
        have hadd : text a ++ text b = text (a ++ b) := text_append a b
        have hadz : (text a).size + (text b).size ≤ 9223372036854775807 := by omega
        obtain ⟨c, hc⟩ : ∃ c, canon (a ++ b) b.length = c := ⟨_, rfl⟩
        rw [hc] at W3' AY
        clear hc
        unfold numV numZ at W3'
        cases hg : digs b
        · rw [hg] at W2'
          have HA := hid (AN.out 17 (E3.out HEE.out hg) (by omega))
          clear hg
          go_wp2_with fail
          refine (W2'.out _).mono ?_
          rintro e w2 ⟨rfl, rfl⟩
          go_wp2
          refine bodyPost_ret (results_pair rfl _ _ _ _ rfl (load_num (put2 P1.out _ _))) rfl ?_
          exact ⟨by rw [HA.out]; rfl, put2_below B1.out (Nat.le_refl _) _ _⟩
        · have HG := hid hg
          have HB := hid ((digs_iff b).1 hg)
          rw [hg] at W2'
          clear hg
          cases hg : digs a
          · rw [hg] at W1'
            by_cases h0 : a = []
            · have q0 := list_yes h0
              have H0 := hid h0
              clear h0 hg
              have EF := E4.out (.inr ⟨HEE.out, .inl H0.out, HG.out⟩)
              by_cases hlong : 1000 < a.length + b.length
              · rw [if_pos hlong] at EF
                have HA := hid (AN.out 19 EF (by omega))
                clear EF
                go_wp2_with fail
                refine (W2'.out _).mono ?_
                rintro e w2 ⟨rfl, rfl⟩
                go_wp2_with fail
                refine (W1'.out _).mono ?_
                rintro e w2 ⟨rfl, rfl⟩
                go_wp2
                refine bodyPost_ret (results_pair rfl _ _ _ _ rfl (load_num (put2 P1.out _ _))) rfl ?_
                exact ⟨by rw [HA.out]; rfl, put2_below B1.out (Nat.le_refl _) _ _⟩
              · rw [if_neg hlong] at EF
                have HA := hid (AY.out EF)
                clear EF
                have W4 := hid (W3'.out (by rw [H0.out]; exact HB.out.1) (by rw [H0.out]; exact HB.out.2))
                go_wp2_with fail
                refine (W2'.out _).mono ?_
                rintro e w2 ⟨rfl, rfl⟩
                go_wp2_with fail
                refine (W1'.out _).mono ?_
                rintro e w2 ⟨rfl, rfl⟩
                go_wp2_with fail
                refine (W4.out _).mono ?_
                rintro e w3 ⟨rfl, hb3⟩
                have P3 := block_later P1.out hb3
                have B3 := hid (B1.out.trans (hb3.mono B1.out.size))
                have c0' : w3.cell? ⟨w.heap.size, 0, none⟩ = some (.string ⟨#[]⟩) := by rw [Lib.cell_of_heap P3]; rfl
                have c1' : w3.cell? ⟨w.heap.size, 1, none⟩ = some (.int .i64 0) := by rw [Lib.cell_of_heap P3]; rfl
                have f0' := Lib.frozen_of_heap P3 0
                have f1' := Lib.frozen_of_heap P3 1
                have HP3 := hid P3
                clear hb3 P3
                unfold numV numZ at HA
                go_wp2
                refine bodyPost_ret (results_pair rfl _ _ _ _ rfl (load_num (put2 HP3.out _ _))) rfl ?_
                exact ⟨by rw [HA.out]; rfl, put2_below B3.out (Nat.le_refl _) _ _⟩
            · have q0 := list_no h0
              have HA := hid (AN.out 17 (E2.out HEE.out h0 hg) (by omega))
              clear h0 hg
              go_wp2_with fail
              refine (W2'.out _).mono ?_
              rintro e w2 ⟨rfl, rfl⟩
              go_wp2_with fail
              refine (W1'.out _).mono ?_
              rintro e w2 ⟨rfl, rfl⟩
              go_wp2
              refine bodyPost_ret (results_pair rfl _ _ _ _ rfl (load_num (put2 P1.out _ _))) rfl ?_
              exact ⟨by rw [HA.out]; rfl, put2_below B1.out (Nat.le_refl _) _ _⟩
          · have HG2 := hid hg
            have HB2 := hid ((digs_iff a).1 hg)
            rw [hg] at W1'
            clear hg
            have EF := E4.out (.inr ⟨HEE.out, .inr HG2.out, HG.out⟩)
            by_cases hlong : 1000 < a.length + b.length
            · rw [if_pos hlong] at EF
              have HA := hid (AN.out 19 EF (by omega))
              clear EF
              go_wp2_with fail
              refine (W2'.out _).mono ?_
              rintro e w2 ⟨rfl, rfl⟩
              go_wp2_with fail
              refine (W1'.out _).mono ?_
              rintro e w2 ⟨rfl, rfl⟩
              go_wp2
              refine bodyPost_ret (results_pair rfl _ _ _ _ rfl (load_num (put2 P1.out _ _))) rfl ?_
              exact ⟨by rw [HA.out]; rfl, put2_below B1.out (Nat.le_refl _) _ _⟩
            · rw [if_neg hlong] at EF
              have HA := hid (AY.out EF)
              clear EF
              have W4 := hid (W3'.out (AllD.app HB2.out.1 HB.out.1) (by simp [HB2.out.2]))
              go_wp2_with fail
              refine (W2'.out _).mono ?_
              rintro e w2 ⟨rfl, rfl⟩
              go_wp2_with fail
              refine (W1'.out _).mono ?_
              rintro e w2 ⟨rfl, rfl⟩
              go_wp2_with fail
              refine (W4.out _).mono ?_
              rintro e w3 ⟨rfl, hb3⟩
              have P3 := block_later P1.out hb3
              have B3 := hid (B1.out.trans (hb3.mono B1.out.size))
              have c0' : w3.cell? ⟨w.heap.size, 0, none⟩ = some (.string ⟨#[]⟩) := by rw [Lib.cell_of_heap P3]; rfl
              have c1' : w3.cell? ⟨w.heap.size, 1, none⟩ = some (.int .i64 0) := by rw [Lib.cell_of_heap P3]; rfl
              have f0' := Lib.frozen_of_heap P3 0
              have f1' := Lib.frozen_of_heap P3 1
              have HP3 := hid P3
              clear hb3 P3
              unfold numV numZ at HA
              go_wp2
              refine bodyPost_ret (results_pair rfl _ _ _ _ rfl (load_num (put2 HP3.out _ _))) rfl ?_
              exact ⟨by rw [HA.out]; rfl, put2_below B3.out (Nat.le_refl _) _ _⟩
      · have hx' : ¬ (((text l)[k]'hps).toNat : Int) = 46 := by
          have : ((text l)[k]'hps) = l[k] := rfl
          rw [this]
          intro e
          exact hx (UInt8.toNat_inj.1 (by have : (46 : UInt8).toNat = 46 := rfl; omega))
        have HN := hid (show k + 1 ≤ point l from by
          have h1 := HK.out
          refine Nat.lt_of_le_of_ne h1 fun e => hx ?_
          subst e
          exact point_at l hlt)
        clear hx
        go_wp2
        go_roundg (gk - 1)
        case rel => exact ⟨k + 1, by go_num, rfl, by omega, HN, rfl⟩
        case measure => omega
    · have hpk : point l = l.length := by have := HK.out; omega
      have HEE := hid (show pointed l = false by unfold pointed; rw [decide_eq_false_iff_not]; omega)
      have hb : part l = [] := by rw [HPT.out, hpk]; exact List.drop_eq_nil_of_le (by omega)
      have ha : whole l = l := by rw [HW.out, hpk]; exact List.take_of_length_le (Nat.le_refl _)
      have ex1 : (text l).extract 0 l.length = text (whole l) := by rw [ha]; have := text_zero l l.length; rw [List.take_of_length_le (Nat.le_refl _)] at this; exact this
      have E2 := hid (@readE_form1 l)
      have E4 := hid (@readE_fine l)
      have AN := hid (show ∀ e : Nat, readE l = e → e ≠ 0 → _ from fun e h h0 => @RReadA_no l e h h0)
      have AY := hid (@RReadA_yes l)
      rw [hb] at W3' AY E4
      have hal : (whole l).length = l.length := by rw [ha]
      clear l1 l2 HW HPT hb ha W2' hsum
      generalize whole l = a at *
      have z1 := text_size a
      simp only [List.append_nil, List.length_nil, Nat.add_zero] at W3' AY E4
      have hadd : text a ++ (⟨#[]⟩ : ByteArray) = text a := by rw [add_lit [] a #[] rfl, List.append_nil]
      obtain ⟨c, hc⟩ : ∃ c, canon a 0 = c := ⟨_, rfl⟩
      rw [hc] at W3' AY
      clear hc hpk
      unfold numV numZ at W3'
      cases hg : digs a
      · rw [hg] at W1'
        have HA := hid (AN.out 17 (E2.out HEE.out hg) (by omega))
        clear hg
        by_cases h0 : a = []
        · have q0 := list_yes h0
          have H0 := hid h0
          clear h0
          go_wp2_with fail
          refine (W1'.out _).mono ?_
          rintro e w2 ⟨rfl, rfl⟩
          go_wp2
          refine bodyPost_ret (results_pair rfl _ _ _ _ rfl (load_num (put2 P1.out _ _))) rfl ?_
          exact ⟨by rw [HA.out]; rfl, put2_below B1.out (Nat.le_refl _) _ _⟩
        · have q0 := list_no h0
          have H0 := hid h0
          clear h0
          go_wp2_with fail
          refine (W1'.out _).mono ?_
          rintro e w2 ⟨rfl, rfl⟩
          go_wp2
          refine bodyPost_ret (results_pair rfl _ _ _ _ rfl (load_num (put2 P1.out _ _))) rfl ?_
          exact ⟨by rw [HA.out]; rfl, put2_below B1.out (Nat.le_refl _) _ _⟩
      · have HG2 := hid hg
        have HB2 := hid ((digs_iff a).1 hg)
        rw [hg] at W1'
        clear hg
        have EF := E4.out (.inl ⟨HEE.out, HG2.out⟩)
        by_cases hlong : 1000 < a.length
        · rw [if_pos hlong] at EF
          have HA := hid (AN.out 19 EF (by omega))
          clear EF
          go_wp2_with fail
          refine (W1'.out _).mono ?_
          rintro e w2 ⟨rfl, rfl⟩
          go_wp2
          refine bodyPost_ret (results_pair rfl _ _ _ _ rfl (load_num (put2 P1.out _ _))) rfl ?_
          exact ⟨by rw [HA.out]; rfl, put2_below B1.out (Nat.le_refl _) _ _⟩
        · rw [if_neg hlong] at EF
          have HA := hid (AY.out EF)
          clear EF
          have W4 := hid (W3'.out HB2.out.1 HB2.out.2)
          go_wp2_with fail
          refine (W1'.out _).mono ?_
          rintro e w2 ⟨rfl, rfl⟩
          go_wp2_with fail
          refine (W4.out _).mono ?_
          rintro e w3 ⟨rfl, hb3⟩
          have P3 := block_later P1.out hb3
          have B3 := hid (B1.out.trans (hb3.mono B1.out.size))
          have c0' : w3.cell? ⟨w.heap.size, 0, none⟩ = some (.string ⟨#[]⟩) := by rw [Lib.cell_of_heap P3]; rfl
          have c1' : w3.cell? ⟨w.heap.size, 1, none⟩ = some (.int .i64 0) := by rw [Lib.cell_of_heap P3]; rfl
          have f0' := Lib.frozen_of_heap P3 0
          have f1' := Lib.frozen_of_heap P3 1
          have HP3 := hid P3
          clear hb3 P3
          unfold numV numZ at HA
          go_wp2
          refine bodyPost_ret (results_pair rfl _ _ _ _ rfl (load_num (put2 HP3.out _ _))) rfl ?_
          exact ⟨by rw [HA.out]; rfl, put2_below B3.out (Nat.le_refl _) _ _⟩
end Go.Proofs.YtkmdclfkmmlloaaGreatDoor.Num
namespace Go.Proofs.YtkmdclfkmmlloaaGreatDoor.Num
open Go Go.Proofs.YtkmdclfkmmlloaaGreatDoor Go.RowKit
set_option maxRecDepth 100000

theorem Fit.at {w X : World} (h : Fit w) (hb : Below w.heap.size w X) : Fit X := h.later hb
/-- What Read answers. -/
def ReadA (l : List UInt8) : Value := .tuple #[numV (readV l), .int .i64 (readE l)]

set_option maxHeartbeats 2000000 in
theorem Read_any (l : List UInt8) (hl : l.length ≤ 500000000) (w : World) (hw : Fit w) :
    Calls Tryz.prog 127 #[.string (text l)] w fun e w' => e = .returned (ReadA l) ∧ Below w.heap.size w w' := by
  have HR := hid (read_any l hl _ (hw.at (ba (b0 w) (.cells #[.string ⟨#[]⟩, .int .i64 0] 129))).most)
  have HE := hid (fun X (hb : Below w.heap.size w X) => errnoOf_any (readE l) X (hw.at hb).err)
  have HA := hid (show ReadA l = .tuple #[numV (readV l), .int .i64 (readE l)] from rfl)
  unfold readA at HR
  generalize readV l = v at *
  generalize readE l = n at *
  obtain ⟨d, s⟩ := v
  clear hw
  go_enter Tryz.func127, Tryz.ntmps127
  go_wp2_with fail
  refine HR.out.mono ?_
  rintro e w1 ⟨rfl, hb1⟩
  have P1 := hid (laid_later hb1)
  have B1 := hid (below_of_alloc hb1)
  clear hb1
  unfold numV numZ
  unfold numV numZ at HA
  go_wp2_with fail
  have PY := hid (show (w1.alloc (.cells #[.string (text d), .int .i64 s] 129)).heap[w.heap.size]? = some (.cells #[.string ⟨#[]⟩, .int .i64 0] 129 (0, 0)) from heap_alloc_old P1.out)
  have QY := hid (heap_alloc_new w1 (.cells #[.string (text d), .int .i64 s] 129))
  have BY := hid (ba B1.out (.cells #[.string (text d), .int .i64 s] 129))
  go_region_with (
    go_at_call 154
    refine (HE.out _ BY.out.drew).mono ?_
    rintro e w2 ⟨rfl, hb2⟩
    have p2 := block_later (show ((w1.alloc (.cells #[.string (text d), .int .i64 s] 129)).drew).heap[w.heap.size]? = _ from PY.out) hb2
    have q2 := block_later (show ((w1.alloc (.cells #[.string (text d), .int .i64 s] 129)).drew).heap[w1.heap.size]? = _ from QY.out) hb2
    have HP2 := hid p2
    have HB2 := hid (BY.out.drew.trans (hb2.mono BY.out.drew.size))
    have c0 : w2.cell? ⟨w.heap.size, 0, none⟩ = some (.string ⟨#[]⟩) := by rw [Lib.cell_of_heap p2]; rfl
    have c1 : w2.cell? ⟨w.heap.size, 1, none⟩ = some (.int .i64 0) := by rw [Lib.cell_of_heap p2]; rfl
    have f0 := Lib.frozen_of_heap p2 0
    have f1 := Lib.frozen_of_heap p2 1
    have d0 : w2.cell? ⟨w1.heap.size, 0, none⟩ = some (.string (text d)) := by rw [Lib.cell_of_heap q2]; rfl
    have d1 : w2.cell? ⟨w1.heap.size, 1, none⟩ = some (.int .i64 s) := by rw [Lib.cell_of_heap q2]; rfl
    clear hb2 p2 q2)
  all_goals go_wp2
  all_goals refine bodyPost_ret (results_pair rfl _ _ _ _ rfl (load_num (put2 HP2.out _ _))) rfl ?_
  all_goals exact ⟨by rw [HA.out]; rfl, put2_below HB2.out (Nat.le_refl _) _ _⟩
end Go.Proofs.YtkmdclfkmmlloaaGreatDoor.Num
namespace Go.Proofs.YtkmdclfkmmlloaaGreatDoor.Num
open Go Go.Proofs.YtkmdclfkmmlloaaGreatDoor Go.RowKit
set_option maxRecDepth 100000

/-- The one form of what has nothing wrong. -/
def formV (d : List UInt8) (s : Int) : List UInt8 × Nat := if checkE d s = 0 then canon d s.toNat else ([], 0)
/-- What Canon answers. -/
def CanonA (d : List UInt8) (s : Int) : Value := .tuple #[numV (formV d s), .int .i64 (checkE d s)]
theorem errV_zero : errV 0 = .nilIface := rfl
theorem errV_some {n : Nat} (h : n ≠ 0) : errV n = .iface 183 (.agg #[.int .i64 n]) := by unfold errV; rw [if_neg h]
theorem CanonA_no {d : List UInt8} {s : Int} (h : checkE d s ≠ 0) : CanonA d s = .tuple #[.agg #[.string ⟨#[]⟩, .int .i64 0], .int .i64 (checkE d s)] := by
  unfold CanonA formV; rw [if_neg h]; rfl
theorem CanonA_yes {d : List UInt8} {s : Int} (h : checkE d s = 0) : CanonA d s = .tuple #[numV (canon d s.toNat), .int .i64 0] := by
  unfold CanonA formV; rw [if_pos h, h]; rfl

set_option maxHeartbeats 2000000 in
theorem Canon_any (d : List UInt8) (s : Int) (hl : d.length ≤ 500000000) (w : World) (hw : Fit w) :
    Calls Tryz.prog 155 #[numZ d s] w fun e w' => e = .returned (CanonA d s) ∧ Below w.heap.size w w' := by
  have HC := hid (fun w => check_any d s (by omega) w)
  have HE := hid (fun X (hb : Below w.heap.size w X) => errnoOf_any (checkE d s) X (hw.at hb).err)
  obtain ⟨W1, hW1⟩ : ∃ W1, (w.alloc (.cells #[.string (text d), .int .i64 s] 129)).alloc (.cells #[.string ⟨#[]⟩, .int .i64 0] 129) = W1 := ⟨_, rfl⟩
  have B1 := hid (show Below w.heap.size w W1 from hW1 ▸ ba (ba (b0 w) _) _)
  have N1 := hid (show W1.heap[w.heap.size]? = some (.cells #[.string (text d), .int .i64 s] 129 (0, 0)) from hW1 ▸ heap_alloc_old (heap_alloc_new w _))
  have P1 := hid (show W1.heap[w.heap.size + 1]? = some (.cells #[.string ⟨#[]⟩, .int .i64 0] 129 (0, 0)) from by
    rw [← hW1]
    have := heap_alloc_new (w.alloc (.cells #[.string (text d), .int .i64 s] 129)) (.cells #[.string ⟨#[]⟩, .int .i64 0] 129)
    simpa using this)
  have a0 : W1.cell? ⟨w.heap.size, 0, none⟩ = some (.string (text d)) := by rw [Lib.cell_of_heap N1.out]; rfl
  have a1 : W1.cell? ⟨w.heap.size, 1, none⟩ = some (.int .i64 s) := by rw [Lib.cell_of_heap N1.out]; rfl
  clear hw
  unfold numZ at *
  go_enter Tryz.func155, Tryz.ntmps155
  go_wp2_with fail
  clear hW1
  refine (HC.out _).mono ?_
  rintro e w1 ⟨rfl, hb1⟩
  have p1 := block_later P1.out hb1
  have n1 := block_later N1.out hb1
  have c0 : w1.cell? ⟨w.heap.size + 1, 0, none⟩ = some (.string ⟨#[]⟩) := by rw [Lib.cell_of_heap p1]; rfl
  have c1 : w1.cell? ⟨w.heap.size + 1, 1, none⟩ = some (.int .i64 0) := by rw [Lib.cell_of_heap p1]; rfl
  have f0 := Lib.frozen_of_heap p1 0
  have f1 := Lib.frozen_of_heap p1 1
  have e0 : w1.cell? ⟨w.heap.size, 0, none⟩ = some (.string (text d)) := by rw [Lib.cell_of_heap n1]; rfl
  have e1 : w1.cell? ⟨w.heap.size, 1, none⟩ = some (.int .i64 s) := by rw [Lib.cell_of_heap n1]; rfl
  have HP := hid p1
  have HB := hid (B1.out.trans (hb1.mono B1.out.size))
  clear hb1 p1 n1 a0 a1
  by_cases h0 : checkE d s = 0
  · have HA := hid (CanonA_yes h0)
    rw [h0, errV_zero]
    obtain ⟨hd, hn, hd2, hs0, hs1⟩ := checkE_ok h0
    obtain ⟨k, rfl⟩ : ∃ k : Nat, s = k := ⟨s.toNat, by omega⟩
    have HO := hid (fun w => oneForm_any d k (by omega) (by omega) w)
    rw [Int.toNat_natCast] at HA
    unfold numV numZ at HA HO
    clear hd hn h0 HC HE
    go_wp2_with fail
    refine (HO.out _).mono ?_
    rintro e w2 ⟨rfl, hb2⟩
    have p2 := block_later HP.out hb2
    have g0 : w2.cell? ⟨w.heap.size + 1, 0, none⟩ = some (.string ⟨#[]⟩) := by rw [Lib.cell_of_heap p2]; rfl
    have g1 : w2.cell? ⟨w.heap.size + 1, 1, none⟩ = some (.int .i64 0) := by rw [Lib.cell_of_heap p2]; rfl
    have k0 := Lib.frozen_of_heap p2 0
    have k1 := Lib.frozen_of_heap p2 1
    have HP2 := hid p2
    have HB2 := hid (HB.out.trans (hb2.mono HB.out.size))
    clear hb2 p2
    go_wp2
    refine bodyPost_ret (results_pair rfl _ _ _ _ rfl (load_num (put2 HP2.out _ _))) rfl ?_
    exact ⟨by rw [HA.out]; rfl, put2_below HB2.out (by omega) _ _⟩
  · have HA := hid (CanonA_no h0)
    have hx : errV (checkE d s) = .iface 183 (.agg #[.int .i64 (checkE d s)]) := errV_some h0
    rw [hx] at HE ⊢
    clear h0 hx
    generalize checkE d s = n at *
    go_wp2_with fail
    refine (HE.out _ HB.out).mono ?_
    rintro e w2 ⟨rfl, hb2⟩
    have p2 := block_later HP.out hb2
    have g0 : w2.cell? ⟨w.heap.size + 1, 0, none⟩ = some (.string ⟨#[]⟩) := by rw [Lib.cell_of_heap p2]; rfl
    have g1 : w2.cell? ⟨w.heap.size + 1, 1, none⟩ = some (.int .i64 0) := by rw [Lib.cell_of_heap p2]; rfl
    have k0 := Lib.frozen_of_heap p2 0
    have k1 := Lib.frozen_of_heap p2 1
    have HP2 := hid p2
    have HB2 := hid (HB.out.trans (hb2.mono HB.out.size))
    clear hb2 p2
    go_wp2
    refine bodyPost_ret (results_pair rfl _ _ _ _ rfl (load_num (put2 HP2.out _ _))) rfl ?_
    exact ⟨by rw [HA.out]; rfl, put2_below HB2.out (by omega) _ _⟩

/-- Is it in the one form? -/
def rightB (d : List UInt8) (s : Int) : Bool := decide (checkE d s = 0 ∧ canon d s.toNat = (d, s.toNat))
end Go.Proofs.YtkmdclfkmmlloaaGreatDoor.Num
namespace Go.Proofs.YtkmdclfkmmlloaaGreatDoor.Num
open Go Go.Proofs.YtkmdclfkmmlloaaGreatDoor Go.RowKit
set_option maxRecDepth 100000

/-- A number's digits, with noughts ahead, so that one stands ahead of the point. -/
def fullD (p : List UInt8 × Nat) : List UInt8 := List.replicate (p.2 + 1 - p.1.length) 48 ++ p.1
/-- The text of what is in the one form. -/
def textV (p : List UInt8 × Nat) : List UInt8 := if p.2 = 0 then p.1 else (fullD p).take ((fullD p).length - p.2) ++ [46] ++ (fullD p).drop ((fullD p).length - p.2)
theorem fullD_len (p : List UInt8 × Nat) : (fullD p).length = p.2 + 1 - p.1.length + p.1.length := by unfold fullD; simp
/-- What Text answers. -/
def TextA (d : List UInt8) (s : Int) : Value := .tuple #[.string (text (if checkE d s = 0 then textV (canon d s.toNat) else [])), .int .i64 (checkE d s)]

set_option maxHeartbeats 2000000 in
theorem Text_any (d : List UInt8) (s : Int) (hl : d.length ≤ 500000000) (w : World) (hw : Fit w) :
    Calls Tryz.prog 128 #[numZ d s] w fun e w' => e = .returned (TextA d s) ∧ Below w.heap.size w w' := by
  have HC := hid (Canon_any d s hl _ (hw.at (ba (b0 w) (.cells #[.string (text d), .int .i64 s] 129))))
  clear hw
  by_cases h0 : checkE d s = 0
  · obtain ⟨hd, hn, hd2, hs0, hs1⟩ := checkE_ok h0
    obtain ⟨k, rfl⟩ : ∃ k : Nat, s = k := ⟨s.toNat, by omega⟩
    have HA := hid (show TextA d k = .tuple #[.string (text (textV (canon d k))), .int .i64 0] by unfold TextA; rw [if_pos h0, h0]; rfl)
    rw [CanonA_yes h0, Int.toNat_natCast] at HC
    have hcl := canon_len d k hn
    clear h0 hd hn
    generalize canon d k = c at *
    obtain ⟨a, j⟩ := c
    simp only at hcl
    unfold numV numZ at HC
    unfold numZ
    have z1 := text_size a
    go_enter Tryz.func128, Tryz.ntmps128
    go_wp2_with fail
    refine HC.out.mono ?_
    rintro e w1 ⟨rfl, hb1⟩
    have n1 := laid_later hb1
    have HB := hid (below_of_alloc hb1)
    have HN := hid (put2 n1 (.string (text a)) (.int .i64 j))
    have HB2 := hid (put2_below HB.out (Nat.le_refl _) (.string (text a)) (.int .i64 j))
    have f0 := Lib.frozen_of_heap n1 0
    have f1 := Lib.frozen_of_heap n1 1
    have e0 : w1.cell? ⟨w.heap.size, 0, none⟩ = some (.string (text d)) := by rw [Lib.cell_of_heap n1]; rfl
    have e1 : w1.cell? ⟨w.heap.size, 1, none⟩ = some (.int .i64 k) := by rw [Lib.cell_of_heap n1]; rfl
    obtain ⟨W2, hW2⟩ : ∃ W2, (w1.setCell ⟨w.heap.size, 0, none⟩ (.string (text a))).setCell ⟨w.heap.size, 1, none⟩ (.int .i64 j) = W2 := ⟨_, rfl⟩
    rw [hW2] at HN HB2
    have c0 : W2.cell? ⟨w.heap.size, 0, none⟩ = some (.string (text a)) := by rw [Lib.cell_of_heap HN.out]; rfl
    have c1 : W2.cell? ⟨w.heap.size, 1, none⟩ = some (.int .i64 j) := by rw [Lib.cell_of_heap HN.out]; rfl
    clear hb1 n1
    by_cases hj : j = 0
    · subst hj
      go_wp2
      go_ret2
      exact ⟨by rw [HA.out]; rfl, by have := HB2.out; rw [← hW2] at this; exact this⟩
    · have HT := hid (show textV (a, j) = (fullD (a, j)).take ((fullD (a, j)).length - j) ++ [46] ++ (fullD (a, j)).drop ((fullD (a, j)).length - j) by unfold textV; rw [if_neg hj])
      have hjz : ((j : Int) == 0) = false := by rw [beq_eq_false_iff_ne]; omega
      have hfl := fullD_len (a, j)
      simp only at hfl
      have HR := hid (fun w => Repeat_any (j + 1 - a.length) (by omega) w)
      have hadd : text (List.replicate (j + 1 - a.length) 48) ++ text a = text (fullD (a, j)) := text_append _ _
      have hadz : (text (List.replicate (j + 1 - a.length) 48)).size + (text a).size ≤ 9223372036854775807 := by rw [text_size, text_size]; simp; omega
      have hfl2 : j + 1 ≤ (fullD (a, j)).length ∧ (fullD (a, j)).length ≤ 1000000000 := by omega
      clear hfl
      generalize fullD (a, j) = D at *
      generalize text (List.replicate (j + 1 - a.length) 48) = R at *
      have zd := text_size D
      go_wp2_with fail
      have eM : max ((j : Int) + 1 - (a.length : Int)) 0 = ((j + 1 - a.length : Nat) : Int) := by omega
      rw [eM]
      go_region_with (
        go_at_call 156
        refine (HR.out _).mono ?_
        rintro e w3 ⟨rfl, hb3⟩
        have n3 := block_later (show W2.drew.heap[w.heap.size]? = _ from HN.out) hb3
        have HB3 := hid (HB2.out.drew.trans (hb3.mono HB2.out.drew.size))
        have g0 : w3.cell? ⟨w.heap.size, 0, none⟩ = some (.string (text a)) := by rw [Lib.cell_of_heap n3]; rfl
        have g1 : w3.cell? ⟨w.heap.size, 1, none⟩ = some (.int .i64 j) := by rw [Lib.cell_of_heap n3]; rfl
        clear hb3 n3)
      all_goals
        obtain ⟨n, hn⟩ : ∃ n, D.length - j = n := ⟨_, rfl⟩
        rw [hn] at HT
        have eP : (D.length : Int) - (j : Int) = (n : Int) := by omega
        have hnl : n ≤ D.length := by omega
        have x1 : (text D).extract 0 n = text (D.take n) := text_zero D _
        have x2 : (text D).extract n D.length = text (D.drop n) := by rw [← zd]; exact text_extract D _
        have lp : (D.take n).length ≤ 1000000000 := by simp; omega
        have lq : (D.drop n).length ≤ 1000000000 := by simp; omega
        generalize D.take n = A1 at *
        generalize D.drop n = A2 at *
        have x3 : text A1 ++ (⟨#[46]⟩ : ByteArray) = text (A1 ++ [46]) := add_lit [46] _ #[46] rfl
        have x4 : text (A1 ++ [46]) ++ text A2 = text (A1 ++ [46] ++ A2) := text_append _ _
        have z2 := text_size A1
        have z3 := text_size A2
        have z4 : (text (A1 ++ [46])).size = A1.length + 1 := by rw [text_size]; simp
        generalize A1 ++ [46] = A3 at *
        clear hn
        have y1 : ¬ 9223372036854775807 < A1.length + 1 := by omega
        have y2 : ¬ 9223372036854775807 < A1.length + 1 + A2.length := by omega
        have mixed : Tryz.prog.follows Departure.mixedOrders = true := by kernel_rfl
        go_wp2_with fail
        try rw [eP]
        go_region_o
      all_goals go_wp2
      all_goals go_ret2
      all_goals exact ⟨by rw [HA.out, HT.out]; rfl, by first | exact HB3.out | exact HB3.out.drew⟩
  · have HA := hid (show TextA d s = .tuple #[.string ⟨#[]⟩, .int .i64 (checkE d s)] by unfold TextA; rw [if_neg h0]; rfl)
    have hx : ((checkE d s : Int) == 0) = false := by rw [beq_eq_false_iff_ne]; omega
    have hx2 : ((checkE d s : Int) != 0) = true := by rw [bne_iff_ne]; omega
    rw [CanonA_no h0] at HC
    generalize checkE d s = n at *
    unfold numZ
    go_enter Tryz.func128, Tryz.ntmps128
    go_wp2_with fail
    refine HC.out.mono ?_
    rintro e w1 ⟨rfl, hb1⟩
    have n1 := laid_later hb1
    have HB := hid (below_of_alloc hb1)
    have HN := hid (put2 n1 (.string ⟨#[]⟩) (.int .i64 0))
    have HB2 := hid (put2_below HB.out (Nat.le_refl _) (.string ⟨#[]⟩) (.int .i64 0))
    have f0 := Lib.frozen_of_heap n1 0
    have f1 := Lib.frozen_of_heap n1 1
    have e0 : w1.cell? ⟨w.heap.size, 0, none⟩ = some (.string (text d)) := by rw [Lib.cell_of_heap n1]; rfl
    have e1 : w1.cell? ⟨w.heap.size, 1, none⟩ = some (.int .i64 s) := by rw [Lib.cell_of_heap n1]; rfl
    obtain ⟨W2, hW2⟩ : ∃ W2, (w1.setCell ⟨w.heap.size, 0, none⟩ (.string ⟨#[]⟩)).setCell ⟨w.heap.size, 1, none⟩ (.int .i64 0) = W2 := ⟨_, rfl⟩
    rw [hW2] at HN HB2
    have c0 : W2.cell? ⟨w.heap.size, 0, none⟩ = some (.string ⟨#[]⟩) := by rw [Lib.cell_of_heap HN.out]; rfl
    have c1 : W2.cell? ⟨w.heap.size, 1, none⟩ = some (.int .i64 0) := by rw [Lib.cell_of_heap HN.out]; rfl
    clear hb1 n1
    go_wp2
    go_ret2
    exact ⟨by rw [HA.out]; rfl, HB2.out⟩

set_option maxHeartbeats 2000000 in
theorem RText_any (d : List UInt8) (k : Nat) (hl : d.length ≤ 1000000) (hk : k ≤ 1000000) (hd : AllD d) (hn : d ≠ []) (w : World) :
    Calls Tryz.prog 122 #[numV (d, k)] w fun e w' => e = .returned (.string (text (textV (canon d k)))) ∧ Below w.heap.size w w' := by
  have HC := hid (RCanon_any d k (by omega) (by omega) hd hn (w.alloc (.cells #[.string (text d), .int .i64 k] 129)))
  have hcl := canon_len d k hn
  clear hd hn
  generalize canon d k = c at *
  obtain ⟨a, j⟩ := c
  simp only at hcl
  unfold numV numZ at HC
  unfold numV numZ
  have z1 := text_size a
  go_enter Tryz.func122, Tryz.ntmps122
  go_wp2_with fail
  refine HC.out.mono ?_
  rintro e w1 ⟨rfl, hb1⟩
  have n1 := laid_later hb1
  have HB := hid (below_of_alloc hb1)
  have HN := hid (put2 n1 (.string (text a)) (.int .i64 j))
  have HB2 := hid (put2_below HB.out (Nat.le_refl _) (.string (text a)) (.int .i64 j))
  have f0 := Lib.frozen_of_heap n1 0
  have f1 := Lib.frozen_of_heap n1 1
  have e0 : w1.cell? ⟨w.heap.size, 0, none⟩ = some (.string (text d)) := by rw [Lib.cell_of_heap n1]; rfl
  have e1 : w1.cell? ⟨w.heap.size, 1, none⟩ = some (.int .i64 k) := by rw [Lib.cell_of_heap n1]; rfl
  obtain ⟨W2, hW2⟩ : ∃ W2, (w1.setCell ⟨w.heap.size, 0, none⟩ (.string (text a))).setCell ⟨w.heap.size, 1, none⟩ (.int .i64 j) = W2 := ⟨_, rfl⟩
  rw [hW2] at HN HB2
  have c0 : W2.cell? ⟨w.heap.size, 0, none⟩ = some (.string (text a)) := by rw [Lib.cell_of_heap HN.out]; rfl
  have c1 : W2.cell? ⟨w.heap.size, 1, none⟩ = some (.int .i64 j) := by rw [Lib.cell_of_heap HN.out]; rfl
  clear hb1 n1
  by_cases hj : j = 0
  · subst hj
    go_wp2
    go_ret
    exact ⟨rfl, by have := HB2.out; rw [← hW2] at this; exact this⟩
  · have HT := hid (show textV (a, j) = (fullD (a, j)).take ((fullD (a, j)).length - j) ++ [46] ++ (fullD (a, j)).drop ((fullD (a, j)).length - j) by unfold textV; rw [if_neg hj])
    have hjz : ((j : Int) == 0) = false := by rw [beq_eq_false_iff_ne]; omega
    have HF := hid (show fullD (a, j) = List.replicate (j + 1 - a.length) 48 ++ a from rfl)
    have hfl := fullD_len (a, j)
    simp only at hfl
    have hfl2 : j + 1 ≤ (fullD (a, j)).length ∧ (fullD (a, j)).length ≤ 1000000000 := by omega
    clear hfl
    generalize fullD (a, j) = D at *
    have zd := text_size D
    go_wp2_with fail
    go_loopg [3] (j + 1 - a.length) (fun gk sv X => ∃ (g : Nat), sv = .string (text (List.replicate g 48 ++ a)) ∧ g + gk = j + 1 - a.length ∧ X = W2)
    case atStart => exact ⟨0, rfl, by omega, rfl⟩
    case round =>
      rename World => X
      obtain ⟨g, rfl, hgg, rfl⟩ := hrel
      have zr : (text (List.replicate g 48 ++ a)).size = g + a.length := by rw [text_size]; simp
      by_cases hgo : g + a.length ≤ j
      · have hadd : (⟨#[48]⟩ : ByteArray) ++ text (List.replicate g 48 ++ a) = text (List.replicate (g + 1) 48 ++ a) := by
          rw [lit_add [48] _ #[48] rfl, List.replicate_succ]; rfl
        go_wp2
        go_roundg (gk - 1)
        case rel => exact ⟨g + 1, rfl, by omega, rfl⟩
        case measure => omega
      · have hg0 : List.replicate g 48 ++ a = D := by rw [HF.out]; congr 2; omega
        have hDl : D.length = g + a.length := by rw [← hg0]; simp
        rw [hg0] at zr ⊢
        clear hg0 zr
        have HDL := hid hDl
        have hgo2 : ¬ D.length ≤ j := by omega
        clear hDl hgo
        obtain ⟨n, hn⟩ : ∃ n, D.length - j = n := ⟨_, rfl⟩
        rw [hn] at HT
        have eP : (D.length : Int) - (j : Int) = (n : Int) := by omega
        have hnl : n ≤ D.length := by omega
        have x1 : (text D).extract 0 n = text (D.take n) := text_zero D _
        have x2 : (text D).extract n D.length = text (D.drop n) := by rw [← zd]; exact text_extract D _
        have lp : (D.take n).length ≤ 1000000000 := by simp; omega
        have lq : (D.drop n).length ≤ 1000000000 := by simp; omega
        generalize D.take n = A1 at *
        generalize D.drop n = A2 at *
        have x3 : text A1 ++ (⟨#[46]⟩ : ByteArray) = text (A1 ++ [46]) := add_lit [46] _ #[46] rfl
        have x4 : text (A1 ++ [46]) ++ text A2 = text (A1 ++ [46] ++ A2) := text_append _ _
        have z2 := text_size A1
        have z3 := text_size A2
        have z4 : (text (A1 ++ [46])).size = A1.length + 1 := by rw [text_size]; simp
        generalize A1 ++ [46] = A3 at *
        clear hn
        have y1 : ¬ 9223372036854775807 < A1.length + 1 := by omega
        have y2 : ¬ 9223372036854775807 < A1.length + 1 + A2.length := by omega
        have mixed : Tryz.prog.follows Departure.mixedOrders = true := by kernel_rfl
        go_wp2_with fail
        try rw [eP]
        go_region_o
        all_goals go_wp2
        all_goals go_ret
        all_goals exact ⟨by rw [HT.out]; rfl, by first | exact HB2.out | exact HB2.out.drew⟩
end Go.Proofs.YtkmdclfkmmlloaaGreatDoor.Num
namespace Go.Proofs.YtkmdclfkmmlloaaGreatDoor.Num
open Go Go.Proofs.YtkmdclfkmmlloaaGreatDoor Go.RowKit
set_option maxRecDepth 100000

/-- At one scale. -/
def atScale (d : List UInt8) (s m : Nat) : List UInt8 := d ++ List.replicate (m - s) 48
/-- As many digits. -/
def padTo (n : Nat) (l : List UInt8) : List UInt8 := List.replicate (n - l.length) 48 ++ l
theorem padTo_len (n : Nat) (l : List UInt8) : (padTo n l).length = n - l.length + l.length := by unfold padTo; simp
theorem atScale_val (d : List UInt8) (s m : Nat) : val (atScale d s m) = val d * 10 ^ (m - s) := val_scaled _ _
theorem padTo_val (n : Nat) (l : List UInt8) : val (padTo n l) = val l := val_pad _ _
/-- How many digits both have. -/
def long (d : List UInt8) (s : Nat) (e : List UInt8) (t : Nat) : Nat := max (atScale d s (max s t)).length (atScale e t (max s t)).length
def left (d : List UInt8) (s : Nat) (e : List UInt8) (t : Nat) : List UInt8 := padTo (long d s e t) (atScale d s (max s t))
def right (d : List UInt8) (s : Nat) (e : List UInt8) (t : Nat) : List UInt8 := padTo (long d s e t) (atScale e t (max s t))
end Go.Proofs.YtkmdclfkmmlloaaGreatDoor.Num
namespace Go.Proofs.YtkmdclfkmmlloaaGreatDoor.Num
open Go Go.Proofs.YtkmdclfkmmlloaaGreatDoor Go.RowKit
set_option maxRecDepth 100000

/-- The last i digits are summed. -/
structure Summed (x y : List UInt8) (i c : Nat) (z : List UInt8) : Prop where
  len : z.length = i
  all : AllD z
  carry : c ≤ 1
  sum : val z + c * 10 ^ i = val (x.drop (x.length - i)) + val (y.drop (x.length - i))
theorem dig_of (k : Nat) (h : k < 10) : isd (UInt8.ofNat (48 + k)) = true ∧ (UInt8.ofNat (48 + k)).toNat = 48 + k := by
  have e : (UInt8.ofNat (48 + k)).toNat = 48 + k := by simp; omega
  exact ⟨(isd_iff _).2 (by omega), e⟩
theorem val_drop {l : List UInt8} {k : Nat} (h : k < l.length) : val (l.drop k) = (l[k].toNat - 48) * 10 ^ (l.length - (k + 1)) + val (l.drop (k + 1)) := by
  rw [List.drop_eq_getElem_cons h, val, List.length_drop]
theorem Summed.start (x y : List UInt8) (h : x.length = y.length) : Summed x y 0 0 [] := by
  refine ⟨rfl, .nil, by omega, ?_⟩
  rw [Nat.sub_zero, List.drop_eq_nil_of_le (Nat.le_refl _), List.drop_eq_nil_of_le (by omega)]
  rfl
theorem Summed.step {x y : List UInt8} {i c : Nat} {z : List UInt8} (s : Summed x y i c z) (hxy : x.length = y.length) (hx : AllD x) (hy : AllD y) (k : Nat) (hk : k + 1 + i = x.length) {D : Nat}
    (hD : D = (x[k]'(by omega)).toNat - 48 + ((y[k]'(by omega)).toNat - 48) + c) : Summed x y (i + 1) (D / 10) (UInt8.ofNat (48 + D % 10) :: z) ∧ D ≤ 19 := by
  have hkx : k < x.length := by omega
  have hky : k < y.length := by omega
  have ha := (isd_iff _).1 (hx _ (List.getElem_mem hkx))
  have hb := (isd_iff _).1 (hy _ (List.getElem_mem hky))
  have hc := s.carry
  have hd := dig_of (D % 10) (Nat.mod_lt _ (by omega))
  have hD19 : D ≤ 19 := by omega
  refine ⟨⟨by simp [s.len], .cons hd.1 s.all, by omega, ?_⟩, hD19⟩
  have e1 : x.length - (i + 1) = k := by omega
  have e2 : x.length - i = k + 1 := by omega
  have hs := s.sum
  rw [e2] at hs
  rw [e1, val_drop hkx, val_drop hky]
  have l1 : x.length - (k + 1) = i := by omega
  have l2 : y.length - (k + 1) = i := by omega
  rw [l1, l2]
  simp only [val, hd.2, s.len, Nat.add_sub_cancel_left]
  rw [Nat.pow_succ]
  generalize x[k].toNat - 48 = a at *
  generalize y[k].toNat - 48 = b at *
  generalize 10 ^ i = T at *
  have hdm : D = 10 * (D / 10) + D % 10 := (Nat.div_add_mod D 10).symm
  have key : D % 10 * T + D / 10 * (T * 10) = (a + b + c) * T := by
    rw [show (a + b + c) = 10 * (D / 10) + D % 10 by omega, Nat.add_mul]
    have : D / 10 * (T * 10) = 10 * (D / 10) * T := by ac_rfl
    omega
  have key2 : (a + b + c) * T = a * T + b * T + c * T := by rw [Nat.add_mul, Nat.add_mul]
  omega
theorem Summed.done {x y : List UInt8} {c : Nat} {z : List UInt8} (s : Summed x y x.length c z) (h : x.length = y.length) :
    AllD (UInt8.ofNat (48 + c) :: z) ∧ (UInt8.ofNat (48 + c) :: z).length = x.length + 1 ∧ val (UInt8.ofNat (48 + c) :: z) = val x + val y := by
  have hc := s.carry
  have hd := dig_of c (by omega)
  have hs := s.sum
  rw [Nat.sub_self] at hs
  simp only [List.drop_zero] at hs
  refine ⟨.cons hd.1 s.all, by simp [s.len], ?_⟩
  simp only [val, hd.2, s.len, Nat.add_sub_cancel_left]
  omega
end Go.Proofs.YtkmdclfkmmlloaaGreatDoor.Num
namespace Go.Proofs.YtkmdclfkmmlloaaGreatDoor.Num
open Go Go.Proofs.YtkmdclfkmmlloaaGreatDoor Go.RowKit
set_option maxRecDepth 100000

theorem long_le (d : List UInt8) (s : Nat) (e : List UInt8) (t : Nat) : (atScale d s (max s t)).length ≤ long d s e t ∧ (atScale e t (max s t)).length ≤ long d s e t := by unfold long; omega
theorem left_len (d : List UInt8) (s : Nat) (e : List UInt8) (t : Nat) : (left d s e t).length = long d s e t := by
  unfold left; rw [padTo_len]; have := (long_le d s e t).1; omega
theorem left_N (d : List UInt8) (s : Nat) (e : List UInt8) (t : Nat) (hs : s ≤ 1000) (ht : t ≤ 1000) : val (left d s e t) * 10 ^ (1000 - max s t) = N (d, s) := by
  unfold left N
  rw [padTo_val, atScale_val, Nat.mul_assoc, ← Nat.pow_add]
  congr 2
  simp only
  omega
theorem right_N (d : List UInt8) (s : Nat) (e : List UInt8) (t : Nat) (hs : s ≤ 1000) (ht : t ≤ 1000) : val (right d s e t) * 10 ^ (1000 - max s t) = N (e, t) := by
  unfold right N
  rw [padTo_val, atScale_val, Nat.mul_assoc, ← Nat.pow_add]
  congr 2
  simp only
  omega
/-- p is the sum of two numbers, in its one form. -/
structure Summ (d : List UInt8) (s : Nat) (e : List UInt8) (t : Nat) (p : List UInt8 × Nat) : Prop where
  one : IsC p
  low : p.2 ≤ 1000
  sum : N p = N (d, s) + N (e, t)
  few : p.1.length ≤ long d s e t + 1
theorem Summ.of {d : List UInt8} {s : Nat} {e : List UInt8} {t : Nat} (hs : s ≤ 1000) (ht : t ≤ 1000) {z : List UInt8} (hz : AllD z) (hl : z.length = (left d s e t).length + 1) (hv : val z = val (left d s e t) + val (right d s e t)) :
    Summ d s e t (canon z (max s t)) := by
  have hn : z ≠ [] := by rintro rfl; simp at hl
  have hc := canon_len z (max s t) hn
  refine ⟨canon_is hz _, by omega, ?_, by rw [left_len] at hl; omega⟩
  rw [N_canon (by omega) (by omega)]
  show val z * 10 ^ (1000 - max s t) = _
  rw [hv, Nat.add_mul, left_N d s e t hs ht, right_N d s e t hs ht]
theorem Summ.same {d : List UInt8} {s : Nat} {e : List UInt8} {t : Nat} {p q : List UInt8 × Nat} (h : Summ d s e t p) (h1 : IsC q) (h2 : q.2 ≤ 1000) (h3 : N q = N (d, s) + N (e, t)) : p = q :=
  (N_eq h.one h1 h.low h2).1 (h.sum.trans h3.symm)
end Go.Proofs.YtkmdclfkmmlloaaGreatDoor.Num
namespace Go.Proofs.YtkmdclfkmmlloaaGreatDoor.Num
open Go Go.Proofs.YtkmdclfkmmlloaaGreatDoor Go.RowKit
set_option maxRecDepth 100000

/-- The digit at q places above 10 to the power of -1000. -/
def digN (d : List UInt8) (s q : Nat) : Nat := N (d, s) / 10 ^ q % 10
/-- The last j digits of the sum are laid. -/
structure Laid (a b j c : Nat) (z : List UInt8) : Prop where
  len : z.length = j
  all : AllD z
  carry : c ≤ 1
  sum : val z + c * 10 ^ j = a % 10 ^ j + b % 10 ^ j
theorem mod_next (a j : Nat) : a % 10 ^ (j + 1) = a % 10 ^ j + (a / 10 ^ j % 10) * 10 ^ j := by
  rw [Nat.pow_succ, Nat.mod_mul]
  rw [Nat.mul_comm (10 ^ j) (a / 10 ^ j % 10)]
theorem dig_of' (k : Nat) (h : k < 10) : isd (UInt8.ofNat (48 + k)) = true ∧ (UInt8.ofNat (48 + k)).toNat = 48 + k := by
  have e : (UInt8.ofNat (48 + k)).toNat = 48 + k := by simp; omega
  exact ⟨(isd_iff _).2 (by omega), e⟩
theorem Laid.start (a b : Nat) : Laid a b 0 0 [] := ⟨rfl, .nil, by omega, by simp [val, Nat.mod_one]⟩
theorem Laid.step {a b j c D : Nat} {z : List UInt8} (h : Laid a b j c z) (hD : D = a / 10 ^ j % 10 + b / 10 ^ j % 10 + c) :
    Laid a b (j + 1) (D / 10) (UInt8.ofNat (48 + D % 10) :: z) := by
  have hd := dig_of' (D % 10) (Nat.mod_lt _ (by omega))
  have hc := h.carry
  have ha : a / 10 ^ j % 10 < 10 := Nat.mod_lt _ (by omega)
  have hb : b / 10 ^ j % 10 < 10 := Nat.mod_lt _ (by omega)
  refine ⟨by simp [h.len], .cons hd.1 h.all, by omega, ?_⟩
  have hs := h.sum
  rw [mod_next a j, mod_next b j]
  simp only [val, hd.2, h.len, Nat.add_sub_cancel_left]
  rw [Nat.pow_succ]
  generalize a / 10 ^ j % 10 = p at *
  generalize b / 10 ^ j % 10 = q at *
  generalize a % 10 ^ j = A at *
  generalize b % 10 ^ j = B at *
  generalize 10 ^ j = T at *
  have key : D % 10 * T + D / 10 * (T * 10) = (p + q + c) * T := by
    rw [show p + q + c = 10 * (D / 10) + D % 10 by have := Nat.div_add_mod D 10; omega, Nat.add_mul]
    have : D / 10 * (T * 10) = 10 * (D / 10) * T := by ac_rfl
    omega
  have key2 : (p + q + c) * T = p * T + q * T + c * T := by rw [Nat.add_mul, Nat.add_mul]
  omega
theorem Laid.done {a b j c : Nat} {z : List UInt8} (h : Laid a b j c z) (ha : a + b < 10 ^ j) : val z = a + b := by
  have hs := h.sum
  rw [Nat.mod_eq_of_lt (by omega), Nat.mod_eq_of_lt (by omega)] at hs
  rcases Nat.eq_zero_or_pos c with rfl | hc
  · simpa using hs
  · have : 1 * 10 ^ j ≤ c * 10 ^ j := Nat.mul_le_mul_right _ hc
    omega
end Go.Proofs.YtkmdclfkmmlloaaGreatDoor.Num
namespace Go.Proofs.YtkmdclfkmmlloaaGreatDoor.Num
open Go Go.Proofs.YtkmdclfkmmlloaaGreatDoor Go.RowKit
set_option maxRecDepth 100000

end Go.Proofs.YtkmdclfkmmlloaaGreatDoor.Num
namespace Go.Proofs.YtkmdclfkmmlloaaGreatDoor.Num
open Go Go.Proofs.YtkmdclfkmmlloaaGreatDoor Go.RowKit
set_option maxRecDepth 100000

end Go.Proofs.YtkmdclfkmmlloaaGreatDoor.Num
