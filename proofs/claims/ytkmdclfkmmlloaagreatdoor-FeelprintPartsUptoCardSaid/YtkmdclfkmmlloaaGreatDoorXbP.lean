/- Layer 11: the writer in memory: a builder at the head of a structure; contracts of copyCheck, WriteString, String there; put. | Layer 11, mathematics that hangs on no program: what stands behind a token plays no part, if it is none of what goes on with it. | Layer 11, mathematics that hangs on no program: an expression's text, as tokens and blanks; it is read as just these. | Layer 11: contracts of signLevel, Level, sides. | Layer 11, mathematics that hangs on no program: the bare text has the same tokens but for parentheses; how many there are; a text has in it those of its parts. | Layer 11: contract of the writer's part, out of that of whole. | Layer 11: contracts of the writer's methods that have no loop. | Layer 11: contracts of the writer's methods with a loop: row, list, call, entries. | Layer 11: contract of kinds. | Layer 11: contracts of kinds, whole, write, Print, Bare. -/
import Derived.Test.YtkmdclfkmmlloaaGreatDoorXbE
import Derived.Test.YtkmdclfkmmlloaaGreatDoorXpMem
import Derived.Test.YtkmdclfkmmlloaaGreatDoorXbX
import Derived.Test.YtkmdclfkmmlloaaGreatDoorXbF
import Derived.Deep.RegionHeld3
import Derived.Deep.QuietTactic
import Derived.Test.YtkmdclfkmmlloaaGreatDoorXbH
import Derived.Deep.LoopGhost
import Derived.Laws.Rows
import Derived.BigQuiet
set_option linter.unusedVariables false
set_option linter.unusedSimpArgs false
namespace Go.Proofs.YtkmdclfkmmlloaaGreatDoor.Fp
open Go Go.Proofs.YtkmdclfkmmlloaaGreatDoor Go.Proofs.YtkmdclfkmmlloaaGreatDoor.Utf Go.Proofs.YtkmdclfkmmlloaaGreatDoor.Bld Go.RowKit
set_option maxRecDepth 100000

/-- What writes an expression, by its Kind. -/
def funs : List Value := [.func (.func 52) #[] #[], .func (.func 53) #[] #[], .func (.func 52) #[] #[], .func (.func 52) #[] #[], .func (.func 54) #[] #[], .func (.func 55) #[] #[], .func (.func 56) #[] #[], .func (.func 57) #[] #[], .func (.func 58) #[] #[], .func (.func 59) #[] #[], .func (.func 60) #[] #[], .func (.func 61) #[] #[], .func (.func 62) #[] #[], .func (.func 63) #[] #[], .func (.func 64) #[] #[], .func (.func 65) #[] #[], .func (.func 66) #[] #[], .func (.func 67) #[] #[], .func (.func 68) #[] #[], .func (.func 69) #[] #[]]
def wcells (p v : Value) (m : Int) : List Value := p :: v :: .int .i64 m :: funs
/-- The writer at b, whose builder's address is p, has written l; what lay in W0 below B is as it was. -/
structure WrA (W0 : World) (B C b : Nat) (m : Int) (p : Value) (l : List UInt8) (w : World) : Prop where
  lo : B ≤ b
  hi : b < C
  top : C ≤ w.heap.size
  old : Below B W0 w
  at_ : ∃ v, w.heap[b]? = some (.cells (wcells p v m).toArray 69 (0, 0)) ∧ w.ownsRow C 5 1 v l.length (cellsOf l)
def Wr (W0 : World) (B C b : Nat) (m : Int) (l : List UInt8) (w : World) : Prop := WrA W0 B C b m (.pointer none) l w ∨ WrA W0 B C b m (.pointer (some ⟨b, 0, none⟩)) l w
variable {W0 : World} {B C b : Nat} {m : Int}
theorem WrA.lt {p : Value} {l : List UInt8} {w : World} (h : WrA W0 B C b m p l w) : b < w.heap.size := Nat.lt_of_lt_of_le h.hi h.top
theorem WrA.later {p : Value} {l : List UInt8} {w w' : World} (h : WrA W0 B C b m p l w) (hb : Below w.heap.size w w') : WrA W0 B C b m p l w' := by
  have hlt := h.lt
  obtain ⟨h1, h2, h3, h4, v, h5, h6⟩ := h
  exact ⟨h1, h2, Nat.le_trans h3 hb.size, h4.trans (hb.mono (by omega)), v, (hb.block b hlt).trans h5, owns_later h6 hb⟩
theorem Wr.later {l : List UInt8} {w w' : World} (h : Wr W0 B C b m l w) (hb : Below w.heap.size w w') : Wr W0 B C b m l w' := h.elim (fun k => .inl (k.later hb)) (fun k => .inr (k.later hb))
theorem Wr.lt {l : List UInt8} {w : World} (h : Wr W0 B C b m l w) : b < w.heap.size := h.elim WrA.lt WrA.lt
theorem Wr.old {l : List UInt8} {w : World} (h : Wr W0 B C b m l w) : Below B W0 w := h.elim WrA.old WrA.old
theorem Wr.top {l : List UInt8} {w : World} (h : Wr W0 B C b m l w) : B ≤ w.heap.size := h.elim (fun k => by have := k.lo; have := k.hi; have := k.top; omega) (fun k => by have := k.lo; have := k.hi; have := k.top; omega)
theorem WrA.cell {p : Value} {l : List UInt8} {w : World} (h : WrA W0 B C b m p l w) (j : Nat) (x : Value) (hx : (p :: undef :: .int .i64 m :: funs)[j]? = some x) (hj : j ≠ 1) : w.cell? ⟨b, j, none⟩ = some x := by
  obtain ⟨v, hb, _⟩ := h.at_
  rw [Lib.cell_of_heap hb]
  unfold wcells
  match j, hj with
  | 0, _ => exact hx
  | j + 2, _ => simpa using hx
/-- What the writer asks for, and its kinds. -/
theorem Wr.least {l : List UInt8} {w : World} (h : Wr W0 B C b m l w) : w.cell? ⟨b, 2, none⟩ = some (.int .i64 m) := h.elim (fun k => k.cell 2 _ rfl (by omega)) (fun k => k.cell 2 _ rfl (by omega))
theorem Wr.kind {l : List UInt8} {w : World} (h : Wr W0 B C b m l w) (k : Nat) (x : Value) (hx : funs[k]? = some x) : w.cell? ⟨b, 3 + k, none⟩ = some x := by
  have e : ∀ p : Value, (p :: undef :: .int .i64 m :: funs)[3 + k]? = some x := fun p => by rw [show 3 + k = k + 1 + 1 + 1 from by omega]; exact hx
  exact h.elim (fun h => h.cell _ _ (e _) (by omega)) (fun h => h.cell _ _ (e _) (by omega))
theorem setB {w : World} {p v : Value} (hb : w.heap[b]? = some (.cells (wcells p v m).toArray 69 (0, 0))) (q : Value) :
    (w.setCell ⟨b, 0, none⟩ q).heap[b]? = some (.cells (wcells q v m).toArray 69 (0, 0)) ∧ (w.setCell ⟨b, 1, none⟩ q).heap[b]? = some (.cells (wcells p q m).toArray 69 (0, 0)) := by
  constructor <;> simp [World.setCell, Array.getElem?_modify, hb, wcells]
theorem below_set (w : World) (j : Nat) (u : Value) (h : B ≤ b) : Below B w (w.setCell ⟨b, j, none⟩ u) := (But.setCell (B + b + 1) b j w u).below h (by omega)
theorem WrA.used {p : Value} {l : List UInt8} {w : World} (h : WrA W0 B C b m p l w) (q : Value) : WrA W0 B C b m q l (w.setCell ⟨b, 0, none⟩ q) := by
  obtain ⟨h1, h2, h3, h4, v, h5, h6⟩ := h
  exact ⟨h1, h2, by simpa [World.setCell] using h3, h4.trans (below_set w 0 q h1), v, (setB h5 q).1, owns_but h6 h2 _ _⟩
theorem liesW : liesAt Tryz.prog Tryz.prog.depth 69 (23 / Tryz.prog.cellsOf 69) 0 67 1 = true := by kernel_rfl

set_option maxHeartbeats 1000000 in
theorem copyCheck_new (w : World) (h0 : w.cell? ⟨b, 0, none⟩ = some (.pointer none)) (hsh : w.shape? b = some (69, 23)) (hfz : w.frozen? ⟨b, 0, none⟩ = false) :
    Calls Tryz.prog 118 #[.pointer (some ⟨b, 0, none⟩)] w fun e w' => e = .returned (.tuple #[]) ∧ w' = w.setCell ⟨b, 0, none⟩ (.pointer (some ⟨b, 0, none⟩)) := by
  obtain ⟨j, hj, hjs⟩ := Option.map_eq_some_iff.1 sizeBld
  go_enter Tryz.func118, Tryz.ntmps118
  go_wp2
  rw [Lib.run_to_unsafe w ⟨b, 0, none⟩ underB72 underP hj (by rw [hjs]; decide) hsh (Nat.zero_lt_succ 22)]
  simp only [Result.andThen]
  rw [Oper.upon_value]
  go_wp2
  rw [run_callFunc_extern Tryz.func145 (by kernel_rfl) (by kernel_rfl) (by kernel_rfl) (e := Extern.AbiNoEscape.same) (by kernel_rfl)]
  rw [Lib.run_noEscape]
  simp only [Result.andThen]
  rw [Oper.upon_value]
  go_wp2
  rw [Lib.run_from_unsafe w ⟨b, 0, none⟩ underP underB72 hj hsh liesW]
  simp only [Result.andThen]
  rw [Oper.upon_value]
  go_wp2
  go_end0
  exact ⟨rfl, rfl⟩
theorem copyCheck_wr (l : List UInt8) (w : World) (h : Wr W0 B C b m l w) :
    Calls Tryz.prog 118 #[.pointer (some ⟨b, 0, none⟩)] w fun e w' => e = .returned (.tuple #[]) ∧ WrA W0 B C b m (.pointer (some ⟨b, 0, none⟩)) l w' := by
  rcases h with h | h
  · have hu := h.used (.pointer (some ⟨b, 0, none⟩))
    have hc := h.cell 0 _ rfl (by omega)
    obtain ⟨v, hb, _⟩ := h.at_
    refine (copyCheck_new w hc (by simp [World.shape?, hb, wcells, funs]) (Lib.frozen_of_heap hb 0)).mono ?_
    rintro e w' ⟨rfl, rfl⟩
    exact ⟨rfl, hu⟩
  · have hc := h.cell 0 _ rfl (by omega)
    refine (copyCheck_used b w hc).mono ?_
    rintro e w' ⟨rfl, rfl⟩
    exact ⟨rfl, h⟩

set_option maxHeartbeats 2000000 in
theorem WriteString_wr (l x : List UInt8) (w : World) (h : Wr W0 B C b m l w) (hlen : l.length + x.length ≤ 140737488355328) :
    Calls Tryz.prog 134 #[.pointer (some ⟨b, 0, none⟩), .string (text x)] w fun e w' => e = .returned (.tuple #[.int .i64 x.length, .nilIface]) ∧ Wr W0 B C b m (l ++ x) w' := by
  obtain ⟨i0, hi, hz0, hz1, hz2⟩ := info_parts infoU8
  have CC := hid (copyCheck_wr l w h)
  clear h
  go_enter Tryz.func134, Tryz.ntmps134
  go_wp2_with fail
  refine CC.out.mono ?_
  rintro e w1 ⟨rfl, hA⟩
  have hlt := hA.lt
  have c0 := hA.cell 0 _ rfl (by omega)
  obtain ⟨hlo, hhi, htop, hold, v, hbk, hown⟩ := hA
  have c1 : w1.cell? ⟨b, 1, none⟩ = some v := by rw [Lib.cell_of_heap hbk]; rfl
  have hsz : (text x).size = x.length := text_size x
  have HO := hid hown
  have HK := hid hbk
  have HS := hid hsz
  have HD := hid hold
  clear hown hbk hsz hold CC
  go_wp2_with (at_builtin; refine Lib.wpList_append_own_string _ rfl _ _ 53 9 rfl C 5 i0 underB under9 hi hz0 hz1 hz2 _ _ _ rfl HO.out (text x) rfl ?c3 ?c4 ?c5 ?_)
  case c3 => rw [HS.out]; unfold maxLen; omega
  case c4 => rw [HS.out]; omega
  case c5 => omega
  intro v' w2 hown' hgrow _
  rw [HS.out, strCells_text, ← cellsOf_append] at hown'
  have hne : v.ownBlock ≠ some b := fun e => by have := (HO.out.lt b e).1; omega
  have hb2 : w2.heap[b]? = some (.cells (wcells (.pointer (some ⟨b, 0, none⟩)) v m).toArray 69 (0, 0)) := by
    rw [hgrow.block b hlt (fun e => hne e.symm)]
    exact HK.out
  have d0 : w2.cell? ⟨b, 0, none⟩ = some (.pointer (some ⟨b, 0, none⟩)) := by rw [Lib.cell_of_heap hb2]; rfl
  have d1 : w2.cell? ⟨b, 1, none⟩ = some v := by rw [Lib.cell_of_heap hb2]; rfl
  have f1 : w2.frozen? ⟨b, 1, none⟩ = false := Lib.frozen_of_heap hb2 1
  obtain ⟨ao, n', cap, rfl⟩ : ∃ ao n' cap, v' = .slice ao n' cap := by
    rcases hown'.2 with ⟨hv, _⟩ | ⟨g, cap, cur, hv, _⟩
    · exact ⟨_, _, _, hv⟩
    · exact ⟨_, _, _, hv⟩
  have HB2 := hid hb2
  have HO' := hid hown'
  have HD2 := hid (HD.out.trans ((But.grown (C := C) (b := b) hgrow htop (fun k hk => (HO.out.lt k hk).1)).below hlo (by omega)))
  have hz2 := hgrow.size
  clear hb2 hown'
  go_wp2
  go_ret2
  refine ⟨by rw [HS.out]; rfl, .inr ⟨hlo, hhi, by simp [World.setCell]; omega, HD2.out.trans (below_set w2 1 _ hlo), _, (setB HB2.out _).2, ?_⟩⟩
  exact owns_but (by simpa using HO'.out) hhi _ _
theorem ptrU8 : Tryz.prog.underlying 91 = some (.pointer 5) := by kernel_rfl
theorem oneU8 : Tryz.prog.cellsOf 5 = 1 := by kernel_rfl
set_option maxHeartbeats 2000000 in
theorem String_wr (l : List UInt8) (w : World) (h : Wr W0 B C b m l w) (h0 : l ≠ []) :
    Calls Tryz.prog 34 #[.pointer (some ⟨b, 0, none⟩)] w fun e w' => e = .returned (.string (text l)) ∧ Below B W0 w' := by
  obtain ⟨p, hlo, hhi, htop, hold, v, hbk, hown⟩ : ∃ p, WrA W0 B C b m p l w := h.elim (fun h => ⟨_, h⟩) (fun h => ⟨_, h⟩)
  have hl0 : l.length ≠ 0 := by simpa using h0
  obtain ⟨g, cap, cur, rfl, hbg, hg, hnc, hcm, hcs, htake⟩ : ∃ g cap cur, v = .slice (some ⟨g, 0, none⟩) l.length cap ∧ C ≤ g ∧ w.heap[g]? = some (.cells cur 5 (0, 0)) ∧ l.length ≤ cap ∧ cap ≤ maxLen ∧ cur.size = cap * 1 ∧ cur.toList.take (l.length * 1) = cellsOf l := by
    rcases hown.2 with ⟨_, hz⟩ | ⟨g, cap, cur, hv, r⟩
    · exact absurd hz hl0
    · exact ⟨g, cap, cur, hv, r⟩
  have c1 : w.drew.cell? ⟨b, 1, none⟩ = some (.slice (some ⟨g, 0, none⟩) l.length cap) := by
    have : w.drew.heap[b]? = _ := hbk
    rw [Lib.cell_of_heap this]; rfl
  have hSD : (Builtin.unsafeSliceData_ #[53] 91 #[.slice (some ⟨g, 0, none⟩) l.length cap]).run Tryz.prog w.drew = .ok (.pointer (some ⟨g, 0, none⟩)) w.drew :=
    Lib.run_unsafeSliceData_row _ _ _ _ _ _ (by omega)
  have hUS : (Builtin.unsafeString_ #[91, 3] 9 #[.pointer (some ⟨g, 0, none⟩), .int .i64 l.length]).run Tryz.prog w.drew = .ok (.string (text l)) (w.drew.freeze ⟨g, 0, none⟩ l.length) := by
    refine Lib.run_unsafeString_row w.drew 91 3 9 5 ptrU8 oneU8 g cur.size (by have hg' : w.drew.heap[g]? = some (.cells cur 5 (0, 0)) := hg; simp [World.shape?, hg']) l h0 (by omega) (by unfold maxLen at hcm; omega) ?_
    intro j x hx
    have hlt : j < l.length := (List.getElem?_eq_some_iff.1 hx).1
    have := hown.cells (g := g) rfl j (.int .u8 x.toNat) (by simp [cellsOf, hx])
    exact this
  have HB := hid (hold.trans (Lib.below_freeze (Below.drew (Below.refl B w)) (p := ⟨g, 0, none⟩) (show B ≤ g by omega) l.length))
  clear hown htake hcs hnc hg hbk h h0 hl0 hold
  go_enter Tryz.func34, Tryz.ntmps34
  go_wp2
  go_region
  all_goals (go_wp2; go_ret; exact ⟨rfl, HB.out⟩)
set_option maxHeartbeats 2000000 in
theorem put_any (l x : List UInt8) (w : World) (h : Wr W0 B C b m l w) (hlen : l.length + x.length ≤ 140737488355328) :
    Calls Tryz.prog 104 #[.pointer (some ⟨b, 0, none⟩), .string (text x)] w fun e w' => e = .returned (.tuple #[]) ∧ Wr W0 B C b m (l ++ x) w' := by
  have CC := hid (WriteString_wr l x w h hlen)
  clear h
  go_enter Tryz.func104, Tryz.ntmps104
  go_wp2_with fail
  refine CC.out.mono ?_
  rintro e w1 ⟨rfl, hA⟩
  have HA := hid hA
  clear hA CC
  go_wp2
  go_end0
  exact ⟨rfl, HA.out⟩
end Go.Proofs.YtkmdclfkmmlloaaGreatDoor.Fp
namespace Go.Proofs.YtkmdclfkmmlloaaGreatDoor.Fp
open Go Go.Proofs.YtkmdclfkmmlloaaGreatDoor Go.Proofs.YtkmdclfkmmlloaaGreatDoor.Utf Go.Proofs.YtkmdclfkmmlloaaGreatDoor.Names Go.Proofs.YtkmdclfkmmlloaaGreatDoor.Ent Go.Proofs.YtkmdclfkmmlloaaGreatDoor.Fl
set_option maxRecDepth 100000

/-! ### Where a token stops -/
def stops : List UInt8 := [32, 40, 41, 91, 93, 123, 125, 44, 58, 46]
/-- No word, number or sign in it goes on with this. -/
def Stop (m : List UInt8) : Prop := m = [] ∨ ∃ b r, m = b :: r ∧ b ∈ stops ∧ dotted m = false
theorem stops_facts : ∀ b ∈ stops, b.toNat < 128 ∧ fine (b.toNat : Int) = true ∧ Utf.next (b.toNat : Int) = false ∧ Fl.isd b = false := by decide +kernel
theorem Stop.cons {b : UInt8} {r : List UInt8} (h : b ∈ stops) (h2 : b ≠ 46) : Stop (b :: r) := by
  refine .inr ⟨b, r, rfl, h, ?_⟩
  rcases r with _ | ⟨c, r⟩
  · rfl
  · show ((b == 46) && Fl.isd c) = false
    rw [beq_eq_false_iff_ne.2 h2]; rfl
theorem Stop.nil : Stop [] := .inl rfl
theorem rune_ascii {b : UInt8} (hb : b.toNat < 128) (hf : fine (b.toNat : Int) = true) (r : List UInt8) : rune (b :: r) = (b.toNat, 1) := by
  have := rune_enc b.toNat hf r
  rw [show enc (b.toNat : Int) = [b] from by rw [enc_low hb]; simp] at this
  exact this
theorem wordF_none {m : List UInt8} (h : Stop m) (g : Nat) (s : Bool) : wordF g s m = 0 := by
  rcases g with _ | g
  · rfl
  · unfold wordF
    rcases h with rfl | ⟨b, r, rfl, hb, _⟩
    · rw [if_neg (by rw [rune_nil]; simp)]
    · obtain ⟨h1, h2, h3, _⟩ := stops_facts b hb
      rw [rune_ascii h1 h2, if_neg]
      rintro ⟨_, h4, _⟩
      rw [h3] at h4; cases h4
/-- Words end there. -/
theorem wordF_stop {m : List UInt8} (hm : Stop m) : ∀ (f : Nat) (s : Bool) (l : List UInt8), check l = l.length → l.length ≤ f → ∀ g, (l ++ m).length ≤ g → wordF g s (l ++ m) = wordF f s l := by
  intro f
  induction f with
  | zero =>
    intro s l hc hf g hg
    have : l = [] := List.eq_nil_of_length_eq_zero (by omega)
    subst this
    rw [List.nil_append, wordF_none hm]
    rfl
  | succ f ih =>
    intro s l hc hf g hg
    rcases hl : l with _ | ⟨b, r⟩
    · rw [List.nil_append, wordF_none hm]
      unfold wordF
      rw [if_neg (by rw [rune_nil]; simp)]
    · rw [← hl]
      have hne : (rune l).2 ≠ 0 := by
        intro h0
        have := check_stop h0
        rw [hc, hl] at this; simp at this
      have hr := rune_append m hne
      have hle := (rune_le l).1
      have hcd : check (l.drop (rune l).2) = (l.drop (rune l).2).length := by
        have := check_step hne
        rw [List.length_drop]; omega
      have hgl : 1 ≤ (l ++ m).length := by rw [hl]; simp
      rcases g with _ | g
      · omega
      · unfold wordF
        rw [hr]
        split
        · rw [drop_append_le l m _ hle, ih false (l.drop (rune l).2) hcd (by rw [List.length_drop]; omega) g (by rw [← drop_append_le l m _ hle, List.length_drop]; omega)]
        · rfl
theorem wordN_stop {l m : List UInt8} (hm : Stop m) (h : check l = l.length) : wordN (l ++ m) = wordN l := wordF_stop hm l.length true l h (Nat.le_refl _) _ (Nat.le_refl _)
theorem digN_stops {m : List UInt8} (hm : Stop m) : ∀ l : List UInt8, digN (l ++ m) = digN l
  | [] => by
    rw [List.nil_append]
    rcases hm with rfl | ⟨b, r, rfl, hb, _⟩
    · rfl
    · show digN (b :: r) = 0
      rw [digN, if_neg (by rw [(stops_facts b hb).2.2.2]; simp)]
  | b :: l => by
    have ih := digN_stops hm l
    show digN (b :: (l ++ m)) = digN (b :: l)
    rw [digN, digN, ih]
theorem one_word {s m : List UInt8} (h : wordyB s = true) (hm : Stop m) : Fl.one (s ++ m) = .tok (if keyB s = true then 1 else 0) s s.length := by
  have hl : 0 < s.length := List.length_pos_iff.2 (wordy_ne h)
  unfold Fl.one
  rw [wordN_stop hm (wordy_check h), wordN_wordy h, if_pos hl, List.take_left]
/-- Digits and perhaps a point and digits. -/
def Numb (s : List UInt8) : Prop := ∃ a b : List UInt8, a ≠ [] ∧ (∀ x ∈ a, Fl.isd x = true) ∧ (s = a ∨ (b ≠ [] ∧ (∀ x ∈ b, Fl.isd x = true) ∧ s = a ++ 46 :: b))
theorem digN_all : ∀ {a : List UInt8}, (∀ x ∈ a, Fl.isd x = true) → digN a = a.length
  | [], _ => rfl
  | b :: r, h => by
    rw [digN, if_pos (h b (List.mem_cons_self ..)), digN_all (fun x hx => h x (List.mem_cons_of_mem _ hx))]; rfl
theorem digN_point : ∀ {a : List UInt8} (r : List UInt8), (∀ x ∈ a, Fl.isd x = true) → digN (a ++ 46 :: r) = a.length
  | [], r, _ => by
    show digN (46 :: r) = 0
    rw [digN, if_neg (by decide)]
  | b :: a, r, h => by
    show digN (b :: (a ++ 46 :: r)) = _
    rw [digN, if_pos (h b (List.mem_cons_self ..)), digN_point r (fun x hx => h x (List.mem_cons_of_mem _ hx))]; rfl
theorem Numb.num {s : List UInt8} (h : Numb s) : s ≠ [] ∧ numN s = s.length := by
  obtain ⟨a, b, h1, h2, h | ⟨h3, h4, h⟩⟩ := h
  · subst h
    refine ⟨h1, ?_⟩
    unfold numN
    rw [digN_all h2, List.drop_length, if_neg (by decide)]
  · subst h
    refine ⟨by simp, ?_⟩
    unfold numN
    rw [digN_point b h2, List.drop_left]
    rcases b with _ | ⟨c, b⟩
    · exact absurd rfl h3
    · have hd : dotted (46 :: c :: b) = true := by
        show ((46 : UInt8) == 46 && Fl.isd c) = true
        rw [h4 c (List.mem_cons_self ..)]; rfl
      rw [if_pos hd, show a.length + 1 = (a ++ [46]).length by simp, show a ++ 46 :: c :: b = (a ++ [46]) ++ c :: b by simp, List.drop_left, digN_all h4]
      simp; omega
theorem one_numb {s m : List UInt8} (h : Numb s) (hm : Stop m) : Fl.one (s ++ m) = .tok 2 s s.length := by
  have hnum := h.num
  have hdm : dotted m = false := by
    rcases hm with rfl | ⟨b, r, rfl, _, hd⟩
    · rfl
    · exact hd
  obtain ⟨a, b, h1, h2, h⟩ := h
  obtain ⟨c, a', rfl⟩ : ∃ c a', a = c :: a' := by
    rcases a with _ | ⟨c, a'⟩
    · exact absurd rfl h1
    · exact ⟨c, a', rfl⟩
  have hc := h2 c (List.mem_cons_self ..)
  have hcf := isd_fine (.inl hc)
  obtain ⟨t, ht⟩ : ∃ t, s = c :: t := by
    rcases h with h | ⟨_, _, h⟩
    · exact ⟨_, h⟩
    · exact ⟨_, h⟩
  have hw : wordN (s ++ m) = 0 := by rw [ht]; exact wordN_not hcf.1 hcf.2.1 hcf.2.2
  have hn : numB (s ++ m) = true := by
    rw [ht]; show (Fl.isd c || dotted (c :: (t ++ m))) = true
    rw [hc]; rfl
  have hN : numN (s ++ m) = s.length := by
    unfold numN
    rcases h with h | ⟨h3, h4, h⟩
    · rw [digN_stops hm, h, digN_all h2, List.drop_left, if_neg (by rw [hdm]; simp)]
    · rw [digN_stops hm, h, digN_point b h2]
      rcases b with _ | ⟨d, b⟩
      · exact absurd rfl h3
      · have hd : dotted (46 :: d :: (b ++ m)) = true := by
          show ((46 : UInt8) == 46 && Fl.isd d) = true
          rw [h4 d (List.mem_cons_self ..)]; rfl
        rw [show (c :: a' ++ 46 :: d :: b ++ m) = (c :: a') ++ (46 :: d :: (b ++ m)) by simp, List.drop_left, if_pos hd]
        rw [show (c :: a').length + 1 = ((c :: a') ++ [46]).length by simp, show (c :: a') ++ 46 :: d :: (b ++ m) = ((c :: a') ++ [46]) ++ ((d :: b) ++ m) by simp, List.drop_left, digN_stops hm, digN_all h4]
        simp; omega
  unfold Fl.one
  rw [hw, if_neg (by omega), if_pos hn, hN, List.take_left]
theorem one_text (s m : List UInt8) : Fl.one (quote s ++ m) = .tok 3 s (quote s).length := by
  have hq : quote s ++ m = 34 :: (qs s ++ 34 :: m) := by unfold quote; simp
  have hw : wordN (quote s ++ m) = 0 := by rw [hq]; exact wordN_not (b := 34) (by decide) (by decide) (by decide)
  have hn : numB (quote s ++ m) = false := by
    rw [hq]
    show (Fl.isd 34 || dotted (34 :: (qs s ++ 34 :: m))) = false
    rw [show Fl.isd 34 = false from by decide, Bool.false_or]
    rcases qs s ++ 34 :: m with _ | ⟨c, r⟩ <;> rfl
  unfold Fl.one
  rw [hw, if_neg (by omega), if_neg (by rw [hn]; simp), if_pos (by rw [hq]; rfl)]
  rw [hq]
  show Fl.quoted (qs s ++ 34 :: m) = _
  unfold Fl.quoted
  rw [str_quote s m]
  rw [if_pos rfl, quote_len]
  show One.tok 3 s (1 + ((qs s).length + 1)) = _
  congr 1; omega
def loose : List UInt8 := [43, 45, 47, 40, 41, 91, 93, 123, 125, 44, 58]
/-- One sign by itself, whatever stands behind. -/
theorem sign_facts : ∀ a ∈ singles, a.toNat < 128 ∧ fine (a.toNat : Int) = true ∧ Utf.first (a.toNat : Int) = false ∧ Fl.isd a = false ∧ a ≠ 34 := by decide +kernel
theorem loose_facts : ∀ a ∈ loose, a ∈ singles ∧ a ≠ 46 ∧ ∀ p ∈ pairs, p.1 ≠ a := by decide +kernel
theorem one_single {a : UInt8} (ha : a ∈ singles) (m : List UInt8) (h2 : ∀ c r, m = c :: r → pairs.contains (a, c) = false) (h3 : dotted (a :: m) = false) : Fl.one ([a] ++ m) = .tok 4 [a] 1 := by
  obtain ⟨f1, f2, f3, f4, f5⟩ := sign_facts a ha
  have hw : wordN (a :: m) = 0 := wordN_not f1 f2 f3
  have hn : numB (a :: m) = false := by
    show (Fl.isd a || dotted (a :: m)) = false
    rw [f4, h3]; rfl
  have hs : signN (a :: m) = 1 := by
    rcases m with _ | ⟨c, r⟩
    · rw [sign_1, if_pos (List.contains_iff_mem.2 ha)]
    · rw [sign_2, if_neg (by rw [h2 c r rfl]; simp), if_pos (List.contains_iff_mem.2 ha)]
  show Fl.one (a :: m) = _
  unfold Fl.one
  rw [hw, if_neg (by omega), if_neg (by rw [hn]; simp), if_neg (by simp [f5]), hs, if_neg (by omega)]
  rfl
theorem one_loose {a : UInt8} (ha : a ∈ loose) (m : List UInt8) : Fl.one ([a] ++ m) = .tok 4 [a] 1 := by
  obtain ⟨h1, h2, h3⟩ := loose_facts a ha
  refine one_single h1 m (fun c r _ => ?_) ?_
  · rw [List.contains_eq_any_beq, List.any_eq_false]
    intro p hp e
    exact h3 p hp (by rw [← beq_iff_eq.1 e])
  · rcases m with _ | ⟨c, r⟩
    · rfl
    · show ((a == 46) && Fl.isd c) = false
      rw [beq_eq_false_iff_ne.2 h2]; rfl
theorem one_stopped {a : UInt8} (ha : a ∈ singles) (r : List UInt8) : Fl.one ([a] ++ 32 :: r) = .tok 4 [a] 1 := by
  refine one_single ha _ (fun c r h => ?_) ?_
  · obtain ⟨rfl, _⟩ := List.cons.inj h
    exact pairs_blank a
  · show ((a == 46) && Fl.isd 32) = false
    rw [show Fl.isd 32 = false from by decide, Bool.and_false]
theorem pair_facts : ∀ p ∈ pairs, p.1.toNat < 128 ∧ fine (p.1.toNat : Int) = true ∧ Utf.first (p.1.toNat : Int) = false ∧ Fl.isd p.1 = false ∧ p.1 ≠ 34 ∧ Fl.isd p.2 = false := by decide +kernel
theorem one_pair {a b : UInt8} (h : (a, b) ∈ pairs) (m : List UInt8) : Fl.one ([a, b] ++ m) = .tok 4 [a, b] 2 := by
  obtain ⟨f1, f2, f3, f4, f5, f6⟩ := pair_facts (a, b) h
  have hw : wordN (a :: b :: m) = 0 := wordN_not f1 f2 f3
  have hn : numB (a :: b :: m) = false := by
    show (Fl.isd a || ((a == 46) && Fl.isd b)) = false
    simp only at f4 f6
    rw [f4, f6, Bool.and_false]; rfl
  have hs : signN (a :: b :: m) = 2 := by rw [sign_2, if_pos (List.contains_iff_mem.2 h)]
  show Fl.one (a :: b :: m) = _
  unfold Fl.one
  rw [hw, if_neg (by omega), if_neg (by rw [hn]; simp), if_neg (by simp only [List.head?_cons, Option.some.injEq]; exact f5), hs, if_neg (by omega)]
  rfl

/-! ### Texts made of tokens and blanks -/
inductive It where
  | bl
  | tk (k : Nat) (s : List UInt8)
deriving DecidableEq
def It.txt : It → List UInt8
  | .bl => [32]
  | .tk k s => if k = 3 then quote s else s
def txtL : List It → List UInt8
  | [] => []
  | i :: r => i.txt ++ txtL r
theorem txtL_app : ∀ a b : List It, txtL (a ++ b) = txtL a ++ txtL b
  | [], b => rfl
  | i :: a, b => by show i.txt ++ txtL (a ++ b) = _; rw [txtL_app a b, txtL, List.append_assoc]
/-- The tokens. -/
def tkL : List It → List (Nat × List UInt8)
  | [] => []
  | .bl :: r => tkL r
  | .tk k s :: r => (k, s) :: tkL r
theorem tkL_app : ∀ a b : List It, tkL (a ++ b) = tkL a ++ tkL b
  | [], b => rfl
  | .bl :: a, b => tkL_app a b
  | .tk k s :: a, b => by show (k, s) :: tkL (a ++ b) = _; rw [tkL_app a b]; rfl
/-- Each token is one, whatever m stands behind all. -/
def Good : List It → List UInt8 → Prop
  | [], _ => True
  | .bl :: r, m => Good r m
  | .tk k s :: r, m => Fl.one ((It.tk k s).txt ++ (txtL r ++ m)) = .tok k s (It.tk k s).txt.length ∧ check (It.tk k s).txt = (It.tk k s).txt.length ∧ Good r m
theorem Good.app : ∀ {a b : List It} {m : List UInt8}, Good a (txtL b ++ m) → Good b m → Good (a ++ b) m
  | [], b, m, _, h => h
  | .bl :: a, b, m, h, k => Good.app (a := a) h k
  | .tk _ _ :: a, b, m, h, k => by
    obtain ⟨h1, h2, h3⟩ := h
    refine ⟨?_, h2, Good.app h3 k⟩
    show Fl.one (_ ++ (txtL (a ++ b) ++ m)) = _
    rw [txtL_app, List.append_assoc]
    exact h1
theorem Good.check : ∀ {a : List It} {m : List UInt8}, Good a m → check (txtL a) = (txtL a).length
  | [], m, _ => rfl
  | .bl :: a, m, h => by
    have := Good.check (a := a) h
    show Utf.check (32 :: txtL a) = _
    rw [check_cons _ (by decide) (by decide), this, txtL, List.length_append]; rfl
  | .tk k s :: a, m, h => by
    obtain ⟨_, h2, h3⟩ := h
    have := Good.check h3
    show Utf.check ((It.tk k s).txt ++ txtL a) = _
    rw [check_app h2, this, txtL, List.length_append]
theorem cons1_ok (t : Lx) (ts : List Lx) : cons1 t (.ok ts) = .ok (t :: ts) := rfl
theorem Good.lex : ∀ {a : List It} (pos : Nat), Good a [] → ∃ ts : List Lx, lexp pos (txtL a) = .ok (ts ++ [⟨5, pos + (txtL a).length, []⟩]) ∧ ts.map (fun t => (t.kind, t.s)) = tkL a
  | [], pos, _ => ⟨[], rfl, rfl⟩
  | .bl :: a, pos, h => by
    obtain ⟨ts, h1, h2⟩ := Good.lex (a := a) (pos + 1) h
    refine ⟨ts, ?_, h2⟩
    show lexp pos (32 :: txtL a) = _
    rw [lexp_space (by decide), h1, show pos + 1 + (txtL a).length = pos + (txtL (.bl :: a)).length from by rw [txtL, List.length_append, It.txt]; simp; omega]
  | .tk k s :: a, pos, h => by
    obtain ⟨h1, h2, h3⟩ := h
    rw [List.append_nil] at h1
    obtain ⟨ts, h4, h5⟩ := Good.lex (pos + (It.tk k s).txt.length) h3
    refine ⟨⟨k, pos, s⟩ :: ts, ?_, by rw [List.map_cons, h5]; rfl⟩
    show lexp pos ((It.tk k s).txt ++ txtL a) = _
    have hp := one_pos h1
    have hx : ∃ b r, (It.tk k s).txt ++ txtL a = b :: r := by
      rcases hq : (It.tk k s).txt ++ txtL a with _ | ⟨b, r⟩
      · rw [hq] at hp; simp only [List.length_nil] at hp; omega
      · exact ⟨b, r, rfl⟩
    obtain ⟨b, r, hx⟩ := hx
    have hs : Utf.space (b.toNat : Int) = false := by
      cases c : Utf.space (b.toNat : Int) with
      | false => rfl
      | true => rw [hx, one_space c] at h1; cases h1
    have h6 := h1
    rw [hx] at h6
    rw [hx, lexp_tok hs h6 pos, ← hx, List.drop_left, h4, cons1_ok, txtL, List.length_append]
    show _ = Except.ok (_ :: (ts ++ _))
    rw [Nat.add_assoc]
theorem Good.ne {k : Nat} {s : List UInt8} {r : List It} {m : List UInt8} (h : Good (.tk k s :: r) m) : 1 ≤ (It.tk k s).txt.length := (one_pos h.1).1
end Go.Proofs.YtkmdclfkmmlloaaGreatDoor.Fp
namespace Go.Proofs.YtkmdclfkmmlloaaGreatDoor.Fp
open Go Go.Proofs.YtkmdclfkmmlloaaGreatDoor Go.Proofs.YtkmdclfkmmlloaaGreatDoor.Utf Go.Proofs.YtkmdclfkmmlloaaGreatDoor.Names Go.Proofs.YtkmdclfkmmlloaaGreatDoor.Ent Go.Proofs.YtkmdclfkmmlloaaGreatDoor.Fl Go.Proofs.YtkmdclfkmmlloaaGreatDoor.Xp
set_option maxRecDepth 100000

/-! ### Levels -/
def levS (s : Nam) : Nat :=
  if s = [111, 114] then 1 else if s = [97, 110, 100] then 2
  else if s = [61] ∨ s = [33, 61] ∨ s = [60] ∨ s = [60, 61] ∨ s = [62] ∨ s = [62, 61] then 3
  else if s = [43] ∨ s = [45] then 4 else if s = [42] ∨ s = [47] then 5 else if s = [42, 42] then 6 else 8
def lev (k : Int) (s : Nam) : Nat :=
  if k = 11 ∨ k = 12 ∨ k = 13 ∨ k = 14 ∨ k = 15 then 0 else if k = 5 then levS s else if k = 6 ∨ k = 7 ∨ k = 19 then 3 else if k = 4 then 7 else 8
/-- The numbers of a sign's parts. -/
def sideA (s : Nam) : Nat := if levS s = 3 then 4 else levS s
def sideB (s : Nam) : Nat := levS s + 1

/-! ### The text -/
def sg (b : UInt8) : It := .tk 4 [b]
def ky (s : Nam) : It := .tk 1 s
def wrds : List Nam → List It
  | [] => []
  | [w] => [.tk 0 w]
  | w :: v :: r => .tk 0 w :: .bl :: wrds (v :: r)
/-- A name. -/
def nmI (s : Nam) : List It := wrds (pieces s)
abbrev Pt := Ex × List It
/-- A part, in parentheses if its level is below a number. -/
def prt (m q : Nat) (p : Pt) : List It := if max q m ≤ lev p.1.kind p.1.s then p.2 else sg 40 :: (p.2 ++ [sg 41])
def sep (f : Bool) : List It := if f then [] else [sg 44, .bl]
def rowF (m : Nat) : Bool → List Pt → List It
  | _, [] => []
  | f, p :: r => sep f ++ (prt m 0 p ++ rowF m false r)
def entF (m : Nat) : Bool → List Nam → List Pt → List It
  | f, n :: ns, p :: r => sep f ++ (nmI n ++ (sg 58 :: .bl :: (prt m 0 p ++ entF m false ns r)))
  | _, _, _ => []
def namF : Bool → List Nam → List It
  | _, [] => []
  | f, n :: r => sep f ++ (nmI n ++ namF false r)
def ptAt (ps : List Pt) (i : Nat) : Pt := ps.getD i (default, [])
def opI (s : Nam) : It := .tk (if s = [111, 114] ∨ s = [97, 110, 100] then 1 else 4) s
def kIf : Nam := [105, 102]
def kThen : Nam := [116, 104, 101, 110]
def kElse : Nam := [101, 108, 115, 101]
def kFor : Nam := [102, 111, 114]
def kIn : Nam := [105, 110]
def kReturn : Nam := [114, 101, 116, 117, 114, 110]
def kSome : Nam := [115, 111, 109, 101]
def kEvery : Nam := [101, 118, 101, 114, 121]
def kSat : Nam := [115, 97, 116, 105, 115, 102, 105, 101, 115]
def kFun : Nam := [102, 117, 110, 99, 116, 105, 111, 110]
def kBetween : Nam := [98, 101, 116, 119, 101, 101, 110]
def kAnd : Nam := [97, 110, 100]
def boundI (m : Nat) (k : Nam) (s : Nam) (r : Nam) (ps : List Pt) : List It :=
  ky k :: .bl :: (nmI s ++ (.bl :: ky kIn :: .bl :: (prt m 0 (ptAt ps 0) ++ (.bl :: ky r :: .bl :: prt m 0 (ptAt ps 1)))))
def lay (m : Nat) (k : Int) (s : Nam) (nm : List Nam) (ps : List Pt) : List It :=
  if k = 0 then [.tk 2 s]
  else if k = 1 then [.tk 3 s]
  else if k = 2 then [ky s]
  else if k = 3 then nmI s
  else if k = 4 then sg 45 :: prt m 7 (ptAt ps 0)
  else if k = 5 then prt m (sideA s) (ptAt ps 0) ++ (.bl :: opI s :: .bl :: prt m (sideB s) (ptAt ps 1))
  else if k = 6 then prt m 4 (ptAt ps 0) ++ (.bl :: ky kBetween :: .bl :: (prt m 4 (ptAt ps 1) ++ (.bl :: ky kAnd :: .bl :: prt m 4 (ptAt ps 2))))
  else if k = 7 then prt m 4 (ptAt ps 0) ++ (.bl :: ky kIn :: .bl :: (if (ptAt ps 1).1.kind = 19 then (ptAt ps 1).2 else prt m 4 (ptAt ps 1)))
  else if k = 8 then prt m 8 (ptAt ps 0) ++ (sg 46 :: nmI s)
  else if k = 9 then prt m 8 (ptAt ps 0) ++ (sg 91 :: (prt m 0 (ptAt ps 1) ++ [sg 93]))
  else if k = 10 then prt m 8 (ptAt ps 0) ++ (sg 40 :: (rowF m true (ps.drop 1) ++ [sg 41]))
  else if k = 11 then ky kIf :: .bl :: (prt m 0 (ptAt ps 0) ++ (.bl :: ky kThen :: .bl :: (prt m 0 (ptAt ps 1) ++ (.bl :: ky kElse :: .bl :: prt m 0 (ptAt ps 2)))))
  else if k = 12 then boundI m kFor s kReturn ps
  else if k = 13 then boundI m kSome s kSat ps
  else if k = 14 then boundI m kEvery s kSat ps
  else if k = 15 then ky kFun :: sg 40 :: (namF true nm ++ (sg 41 :: .bl :: prt m 0 (ptAt ps 0)))
  else if k = 16 then sg 91 :: (rowF m true ps ++ [sg 93])
  else if k = 17 then sg 123 :: (entF m true nm ps ++ [sg 125])
  else if k = 18 then .tk 4 (s.take 1) :: (prt m 0 (ptAt ps 0) ++ (.tk 4 [46, 46] :: (prt m 0 (ptAt ps 1) ++ [.tk 4 (s.drop 1)])))
  else .tk 4 s :: .bl :: prt m 4 (ptAt ps 0)
mutual
def flat (m : Nat) : Ex → List It
  | .mk k s nm l => lay m k s nm (flatL m l)
def flatL (m : Nat) : List Ex → List Pt
  | [] => []
  | e :: r => (e, flat m e) :: flatL m r
end
theorem flat_eq (m : Nat) (e : Ex) : flat m e = lay m e.kind e.s e.nm (flatL m e.l) := by cases e; rw [flat]; rfl
/-- An expression's text: m is 0, or 9 for the bare one. -/
def prV (m : Nat) (e : Ex) : List UInt8 := txtL (flat m e)

/-! ### What is right -/
theorem Good.one {k : Nat} {s : Nam} {r : List It} {m : List UInt8} (h1 : Fl.one ((It.tk k s).txt ++ (txtL r ++ m)) = .tok k s (It.tk k s).txt.length) (h2 : Utf.check (It.tk k s).txt = (It.tk k s).txt.length) (h3 : Good r m) : Good (.tk k s :: r) m := ⟨h1, h2, h3⟩
theorem good_key {s : Nam} (h : keyB s = true) {r : List It} {m : List UInt8} (hs : Stop (txtL r ++ m)) (hr : Good r m) : Good (ky s :: r) m := by
  refine Good.one ?_ (wordy_check (key_wordy h)) hr
  have := one_word (key_wordy h) hs
  rw [h] at this
  exact this
theorem good_word {s : Nam} (h : wordB s = true) {r : List It} {m : List UInt8} (hs : Stop (txtL r ++ m)) (hr : Good r m) : Good (.tk 0 s :: r) m := by
  refine Good.one ?_ (wordy_check (word_wordy h)) hr
  have := one_word (word_wordy h) hs
  have hk : keyB s = false := by unfold wordB at h; rw [Bool.and_eq_true] at h; simpa using h.2
  rw [hk] at this
  exact this
theorem check_sg {a : UInt8} (ha : a ∈ singles) : Utf.check [a] = 1 := by
  obtain ⟨h1, h2, _⟩ := sign_facts a ha
  rw [check_cons [] h1 h2]; rfl
theorem good_sg {b : UInt8} (h : b ∈ loose) {r : List It} {m : List UInt8} (hr : Good r m) : Good (sg b :: r) m :=
  Good.one (one_loose h _) (check_sg (loose_facts b h).1) hr
theorem stop_bl (r : List It) (m : List UInt8) : Stop (txtL (.bl :: r) ++ m) := Stop.cons (r := txtL r ++ m) (by decide) (by decide)
theorem stop_sg {b : UInt8} (hb : b ∈ stops) (h2 : b ≠ 46) (r : List It) (m : List UInt8) : Stop (txtL (sg b :: r) ++ m) := Stop.cons (r := txtL r ++ m) hb h2
theorem wrds_txt : ∀ ws : List Nam, txtL (wrds ws) = joined ws
  | [] => rfl
  | [w] => by show w ++ [] = w; rw [List.append_nil]
  | w :: v :: r => by
    show w ++ ([32] ++ txtL (wrds (v :: r))) = _
    rw [wrds_txt (v :: r)]
    rfl
theorem nmI_txt (s : Nam) : txtL (nmI s) = s := by unfold nmI; rw [wrds_txt, joined_cut]
theorem good_wrds : ∀ (ws : List Nam) (m : List UInt8), (∀ w ∈ ws, wordB w = true) → Stop m → Good (wrds ws) m
  | [], m, _, _ => trivial
  | [w], m, h, hm => good_word (h w (List.mem_cons_self ..)) (by simpa [txtL] using hm) trivial
  | w :: v :: r, m, h, hm => good_word (h w (List.mem_cons_self ..)) (stop_bl _ _) (good_wrds (v :: r) m (fun x hx => h x (List.mem_cons_of_mem _ hx)) hm)
theorem right_words {s : Nam} (h : rightB s = true) : ∀ w ∈ pieces s, wordB w = true := by
  unfold rightB wordsO at h
  split at h
  · rename_i c; exact List.all_eq_true.1 c
  · cases h
theorem good_name {s : Nam} (h : rightB s = true) {m : List UInt8} (hm : Stop m) : Good (nmI s) m := good_wrds _ _ (right_words h) hm
/-- A name begins with a letter: a point ahead of it is one by itself. -/
theorem right_head {s : Nam} (h : rightB s = true) (m : List UInt8) : ∃ w r, s ++ m = w ++ r ∧ wordB w = true := by
  have hw := right_words h
  have hj := joined_cut s
  rcases hp : pieces s with _ | ⟨w, _ | ⟨v, r⟩⟩
  · exact absurd hp (cutAt_ne _ _)
  · rw [hp] at hj hw
    exact ⟨w, m, by rw [← hj]; rfl, hw w (List.mem_cons_self ..)⟩
  · rw [hp] at hj hw
    exact ⟨w, 32 :: joined (v :: r) ++ m, by rw [← hj]; show (w ++ 32 :: joined (v :: r)) ++ m = _; rw [List.append_assoc], hw w (List.mem_cons_self ..)⟩
theorem word_first {w : Nam} (h : wordB w = true) : ∃ c r, w = c :: r ∧ Fl.isd c = false ∧ c ≠ 46 := by
  have hy := word_wordy h
  rcases w with _ | ⟨c, r⟩
  · exact absurd rfl (wordy_ne hy)
  · have key : ¬ (Fl.isd c = true ∨ c = 46) := fun hc => by
      have h1 := wordN_wordy hy
      obtain ⟨f1, f2, f3⟩ := isd_fine hc
      rw [wordN_not f1 f2 f3] at h1
      simp at h1
    refine ⟨c, r, rfl, ?_, fun e => key (.inr e)⟩
    cases hd : Fl.isd c with
    | false => rfl
    | true => exact absurd (.inl hd) key
theorem good_point {s : Nam} (h : rightB s = true) {m : List UInt8} (hm : Stop m) : Good (sg 46 :: nmI s) m := by
  obtain ⟨w, t, e, hw⟩ := right_head h m
  obtain ⟨c, r, rfl, h1, h2⟩ := word_first hw
  refine Good.one ?_ (check_sg (by decide)) (good_name h hm)
  refine one_single (by decide) _ (fun d u hd => ?_) ?_
  · rw [nmI_txt, e] at hd
    obtain ⟨rfl, _⟩ := List.cons.inj hd
    rw [List.contains_eq_any_beq, List.any_eq_false]
    have hall : ∀ p ∈ pairs, p.1 = 46 → p.2 = 46 := by decide
    intro p hp e2
    have := beq_iff_eq.1 e2
    have h3 := hall p hp (by rw [← this])
    rw [← this] at h3
    exact h2 h3
  · rw [nmI_txt, e]
    show ((46 : UInt8) == 46 && Fl.isd c) = false
    rw [h1]; rfl
theorem point_stop {s : Nam} (h : rightB s = true) (m : List UInt8) : Stop (txtL (sg 46 :: nmI s) ++ m) := by
  obtain ⟨w, t, e, hw⟩ := right_head h m
  obtain ⟨c, r, rfl, h1, h2⟩ := word_first hw
  refine .inr ⟨46, s ++ m, by show (46 :: txtL (nmI s)) ++ m = _; rw [nmI_txt]; rfl, by decide, ?_⟩
  show dotted (46 :: txtL (nmI s) ++ m) = false
  rw [nmI_txt]
  show dotted (46 :: (s ++ m)) = false
  rw [e]
  show ((46 : UInt8) == 46 && Fl.isd c) = false
  rw [h1]; rfl
theorem range_stop (r : List It) (m : List UInt8) : Stop (txtL (.tk 4 [46, 46] :: r) ++ m) :=
  .inr ⟨46, 46 :: (txtL r ++ m), rfl, by decide, by show ((46 : UInt8) == 46 && Fl.isd 46) = false; decide⟩
theorem good_range {r : List It} {m : List UInt8} (hr : Good r m) : Good (.tk 4 [46, 46] :: r) m :=
  Good.one (one_pair (by decide) _) (by decide +kernel) hr
theorem bins_facts : ∀ s ∈ bins, (s = [111, 114] ∨ s = [97, 110, 100]) ∧ keyB s = true ∨ ¬ (s = [111, 114] ∨ s = [97, 110, 100]) ∧ (∃ a ∈ singles, s = [a]) ∨ ¬ (s = [111, 114] ∨ s = [97, 110, 100]) ∧ (∃ p ∈ pairs, s = [p.1, p.2]) := by decide +kernel
theorem good_op {s : Nam} (h : s ∈ bins) {r : List It} {m : List UInt8} (hr : Good r m) : Good (opI s :: .bl :: r) m := by
  unfold opI
  rcases bins_facts s h with ⟨h1, h2⟩ | ⟨h1, a, h2, rfl⟩ | ⟨h1, p, h2, rfl⟩
  · rw [if_pos h1]
    exact good_key h2 (stop_bl _ _) hr
  · rw [if_neg h1]
    exact Good.one (one_stopped h2 _) (check_sg h2) hr
  · rw [if_neg h1]
    have hall : ∀ p ∈ pairs, Utf.check [p.1, p.2] = 2 := by decide +kernel
    exact Good.one (one_pair (a := p.1) (b := p.2) h2 _) (hall p h2) hr
theorem tests_facts : ∀ s ∈ tests, (∃ a ∈ singles, s = [a]) ∨ (∃ p ∈ pairs, s = [p.1, p.2]) := by decide +kernel
theorem good_test {s : Nam} (h : s ∈ tests) {r : List It} {m : List UInt8} (hr : Good r m) : Good (.tk 4 s :: .bl :: r) m := by
  rcases tests_facts s h with ⟨a, h2, rfl⟩ | ⟨p, h2, rfl⟩
  · exact Good.one (one_stopped h2 _) (check_sg h2) hr
  · have hall : ∀ p ∈ pairs, Utf.check [p.1, p.2] = 2 := by decide +kernel
    exact Good.one (one_pair (a := p.1) (b := p.2) h2 _) (hall p h2) hr
theorem spans_facts : ∀ s ∈ spans, ∃ a b, s = [a, b] ∧ a ∈ loose ∧ b ∈ loose ∧ b ∈ stops ∧ b ≠ 46 := by
  intro s hs
  have : s = [91, 93] ∨ s = [91, 41] ∨ s = [40, 93] ∨ s = [40, 41] := by simpa [spans] using hs
  rcases this with rfl | rfl | rfl | rfl <;> exact ⟨_, _, rfl, by decide, by decide, by decide, by decide⟩
/-- The text of a number's one form is a number's text. -/
theorem textV_numb {p : List UInt8 × Nat} (h : Num.IsC p) : Numb (Num.textV p) := by
  obtain ⟨d, k⟩ := p
  obtain ⟨h1, h2, _⟩ := h
  have hd : ∀ x ∈ d, Fl.isd x = true := h1
  unfold Num.textV
  by_cases hk : k = 0
  · rw [if_pos hk]
    exact ⟨d, [], h2, hd, .inl rfl⟩
  · rw [if_neg hk]
    have hfl := Num.fullD_len (d, k)
    simp only at hfl
    have hall : ∀ x ∈ Num.fullD (d, k), Fl.isd x = true := by
      intro x hx
      rcases List.mem_append.1 hx with hx | hx
      · obtain ⟨_, rfl⟩ := List.mem_replicate.1 hx; decide
      · exact hd x hx
    have hlen : k < (Num.fullD (d, k)).length := by omega
    refine ⟨(Num.fullD (d, k)).take ((Num.fullD (d, k)).length - k), (Num.fullD (d, k)).drop ((Num.fullD (d, k)).length - k), ?_, fun x hx => hall x (List.mem_of_mem_take hx), .inr ⟨?_, fun x hx => hall x (List.mem_of_mem_drop hx), by simp⟩⟩
    · intro c
      have := congrArg List.length c
      rw [List.length_take] at this
      simp at this; omega
    · intro c
      have := congrArg List.length c
      rw [List.length_drop] at this
      simp at this; omega
theorem read_canon {r : List UInt8} (h : Num.readE r = 0) : Num.checkE (Num.readV r).1 ((Num.readV r).2 : Int) = 0 := by
  have hv : Num.readV r = Num.canon (Num.whole r ++ Num.part r) (Num.part r).length := by unfold Num.readV; rw [if_pos h]
  unfold Num.readE at h
  split at h
  · cases h
  · rename_i c
    split at h
    · cases h
    · rename_i c2
      have key : Num.AllD (Num.whole r ++ Num.part r) ∧ Num.whole r ++ Num.part r ≠ [] := by
        cases hp : Num.pointed r with
        | true =>
          have h1 : ¬ Num.digs (Num.part r) = false := fun e => c (.inl ⟨hp, .inr e⟩)
          have h2 : Num.digs (Num.part r) = true := by simpa using h1
          obtain ⟨a1, a2⟩ := (Num.digs_iff _).1 h2
          refine ⟨Num.AllD.app ?_ a1, by simp [a2]⟩
          by_cases hw : Num.whole r = []
          · rw [hw]; exact Num.AllD.nil
          · have h3 : ¬ Num.digs (Num.whole r) = false := fun e => c (.inl ⟨hp, .inl ⟨hw, e⟩⟩)
            exact ((Num.digs_iff _).1 (by simpa using h3)).1
        | false =>
          have h1 : ¬ Num.digs (Num.whole r) = false := fun e => c (.inr ⟨hp, e⟩)
          obtain ⟨a1, a2⟩ := (Num.digs_iff _).1 (by simpa using h1 : Num.digs (Num.whole r) = true)
          have hpt : Num.part r = [] := by
            unfold Num.pointed at hp
            unfold Num.part
            exact List.drop_eq_nil_of_le (by simp at hp; omega)
          rw [hpt, List.append_nil]
          exact ⟨a1, a2⟩
      rw [hv]
      have hl := Num.canon_len (Num.whole r ++ Num.part r) (Num.part r).length key.2
      rw [List.length_append] at hl
      exact Num.checkE_canon key.1 key.2 (by omega) (by omega)
theorem form_numb {s : Nam} (h : formB s = true) : Numb s := by
  unfold formB at h
  simp only [decide_eq_true_eq] at h
  obtain ⟨h1, h2⟩ := h
  generalize (if s.take 2 = [48, 46] then s.drop 1 else s) = r at h1 h2
  have hc := read_canon h1
  unfold textN at h2
  rw [if_pos hc] at h2
  rw [← h2]
  exact textV_numb (Num.canon_is (Num.checkE_ok hc).1 _)

/-! ### Expressions that are right, kind by kind -/
inductive Rt : Ex → Prop
  | num {s : Nam} (h : Numb s) : Rt (.mk 0 s [] [])
  | str {s : Nam} (h : Utf.check s = s.length) : Rt (.mk 1 s [] [])
  | con {s : Nam} (h : s ∈ consts) : Rt (.mk 2 s [] [])
  | name {s : Nam} (h : rightB s = true) : Rt (.mk 3 s [] [])
  | neg {a : Ex} (ha : Rt a) (na : a.kind ≠ 19) : Rt (.mk 4 [] [] [a])
  | bin {s : Nam} {a b : Ex} (h : s ∈ bins) (ha : Rt a) (hb : Rt b) (na : a.kind ≠ 19) (nb : b.kind ≠ 19) : Rt (.mk 5 s [] [a, b])
  | btw {a b c : Ex} (ha : Rt a) (hb : Rt b) (hc : Rt c) (na : a.kind ≠ 19) (nb : b.kind ≠ 19) (nc : c.kind ≠ 19) : Rt (.mk 6 [] [] [a, b, c])
  | inn {a b : Ex} (ha : Rt a) (hb : Rt b) (na : a.kind ≠ 19) : Rt (.mk 7 [] [] [a, b])
  | path {s : Nam} {a : Ex} (h : rightB s = true) (ha : Rt a) (na : a.kind ≠ 19) : Rt (.mk 8 s [] [a])
  | filt {a b : Ex} (ha : Rt a) (hb : Rt b) (na : a.kind ≠ 19) (nb : b.kind ≠ 19) : Rt (.mk 9 [] [] [a, b])
  | call {a : Ex} {l : List Ex} (ha : Rt a) (hl : ∀ x ∈ l, Rt x) (na : a.kind ≠ 19) (nl : ∀ x ∈ l, x.kind ≠ 19) : Rt (.mk 10 [] [] (a :: l))
  | cond {a b c : Ex} (ha : Rt a) (hb : Rt b) (hc : Rt c) (na : a.kind ≠ 19) (nb : b.kind ≠ 19) (nc : c.kind ≠ 19) : Rt (.mk 11 [] [] [a, b, c])
  | bnd {k : Int} {s : Nam} {a b : Ex} (hk : k = 12 ∨ k = 13 ∨ k = 14) (h : rightB s = true) (ha : Rt a) (hb : Rt b) (na : a.kind ≠ 19) (nb : b.kind ≠ 19) : Rt (.mk k s [] [a, b])
  | func {nm : List Nam} {a : Ex} (h : ∀ n ∈ nm, rightB n = true) (ha : Rt a) (na : a.kind ≠ 19) : Rt (.mk 15 [] nm [a])
  | list {l : List Ex} (hl : ∀ x ∈ l, Rt x) (nl : ∀ x ∈ l, x.kind ≠ 19) : Rt (.mk 16 [] [] l)
  | map {nm : List Nam} {l : List Ex} (h : ∀ n ∈ nm, rightB n = true) (he : nm.length = l.length) (hl : ∀ x ∈ l, Rt x) (nl : ∀ x ∈ l, x.kind ≠ 19) : Rt (.mk 17 [] nm l)
  | span {s : Nam} {a b : Ex} (h : s ∈ spans) (ha : Rt a) (hb : Rt b) (na : a.kind ≠ 19) (nb : b.kind ≠ 19) : Rt (.mk 18 s [] [a, b])
  | test {s : Nam} {a : Ex} (h : s ∈ tests) (ha : Rt a) (na : a.kind ≠ 19) : Rt (.mk 19 s [] [a])
theorem len0 {α : Type} {l : List α} (h : l.length = 0) : l = [] := List.eq_nil_of_length_eq_zero h
theorem len1 {α : Type} {l : List α} (h : l.length = 1) : ∃ a, l = [a] := List.length_eq_one_iff.1 h
theorem len2 {α : Type} {l : List α} (h : l.length = 2) : ∃ a b, l = [a, b] := by
  match l, h with
  | [a, b], _ => exact ⟨a, b, rfl⟩
theorem len3 {α : Type} {l : List α} (h : l.length = 3) : ∃ a b c, l = [a, b, c] := by
  match l, h with
  | [a, b, c], _ => exact ⟨a, b, c, rfl⟩
theorem chk_kind {e : Ex} (h : chk e false = 0) : e.kind ≠ 19 := fun c => by
  have := (alone_zero.1 ((chk_zero e false).1 h).1).2.2.2.1 c
  cases this
theorem txt_empty {k : Int} {s : Nam} (h : txt k s = 0) (hk : k = 4 ∨ k = 6 ∨ k = 7 ∨ k = 9 ∨ k = 10 ∨ k = 11 ∨ k = 15 ∨ k = 16 ∨ k = 17) : s = [] := by
  refine Classical.byContradiction fun c => ?_
  rcases hk with rfl | rfl | rfl | rfl | rfl | rfl | rfl | rfl | rfl <;> (simp [txt, Xp.named, c] at h)
theorem txt_named {k : Int} {s : Nam} (h : txt k s = 0) (hk : k = 3 ∨ k = 8 ∨ k = 12 ∨ k = 13 ∨ k = 14) : rightB s = true := by
  refine Classical.byContradiction fun c => ?_
  rcases hk with rfl | rfl | rfl | rfl | rfl <;> (simp [txt, Xp.named, c] at h)
theorem Rt.of : ∀ (N : Nat) (e : Ex) (t : Bool), e.size ≤ N → chk e t = 0 → Rt e := by
  intro N
  induction N with
  | zero => intro e t h; have := e.size_pos; omega
  | succ N ih =>
    intro e t hN h
    obtain ⟨k, s, nm, l⟩ := e
    obtain ⟨h1, h2⟩ := (chk_zero _ _).1 h
    simp only [Ex.kind, Ex.s, Ex.nm, Ex.l] at h1 h2
    obtain ⟨hko, hp, hn, _, htx, hne⟩ := alone_zero.1 h1
    have hnm := List.all_eq_true.1 (namesE_zero.1 hne).1
    rw [size_eq] at hN
    simp only [Ex.l] at hN
    have part : ∀ j (hj : j < l.length), Rt l[j] ∧ (¬ (k = 7 ∧ j = 1) → l[j].kind ≠ 19) := fun j hj => by
      have hs := sizeL_mem (List.getElem_mem hj)
      refine ⟨ih _ _ (by omega) (h2 j hj), fun c => chk_kind ?_⟩
      have := h2 j hj
      simpa only [c, decide_false] using this
    have all : k ≠ 7 → ∀ x ∈ l, Rt x ∧ x.kind ≠ 19 := fun hk x hx => by
      obtain ⟨j, hj, rfl⟩ := List.getElem_of_mem hx
      exact ⟨(part j hj).1, (part j hj).2 (fun c => hk c.1)⟩
    have hk : k = 0 ∨ k = 1 ∨ k = 2 ∨ k = 3 ∨ k = 4 ∨ k = 5 ∨ k = 6 ∨ k = 7 ∨ k = 8 ∨ k = 9 ∨ k = 10 ∨ k = 11 ∨ (k = 12 ∨ k = 13 ∨ k = 14) ∨ k = 15 ∨ k = 16 ∨ k = 17 ∨ k = 18 ∨ k = 19 := by
      unfold Xp.kindOk at hko; rw [decide_eq_true_iff] at hko; omega
    clear h h1 h2 hko hne ih hN
    rcases hk with rfl | rfl | rfl | rfl | rfl | rfl | rfl | rfl | rfl | rfl | rfl | rfl | hk | rfl | rfl | rfl | rfl | rfl
    · obtain rfl := len0 (by simpa [partsOk] using hp : l.length = 0)
      obtain rfl := len0 (by simpa [namesOk] using hn : nm.length = 0)
      refine .num (form_numb ?_)
      refine Classical.byContradiction fun c => ?_
      simp [txt, c] at htx
    · obtain rfl := len0 (by simpa [partsOk] using hp : l.length = 0)
      obtain rfl := len0 (by simpa [namesOk] using hn : nm.length = 0)
      refine .str (Classical.byContradiction fun c => ?_)
      simp [txt, Utf.checkE, c] at htx
    · obtain rfl := len0 (by simpa [partsOk] using hp : l.length = 0)
      obtain rfl := len0 (by simpa [namesOk] using hn : nm.length = 0)
      refine .con (Classical.byContradiction fun c => ?_)
      simp [txt, c] at htx
    · obtain rfl := len0 (by simpa [partsOk] using hp : l.length = 0)
      obtain rfl := len0 (by simpa [namesOk] using hn : nm.length = 0)
      exact .name (txt_named htx (by omega))
    · obtain ⟨a, rfl⟩ := len1 (by simpa [partsOk] using hp : l.length = 1)
      obtain rfl := len0 (by simpa [namesOk] using hn : nm.length = 0)
      obtain rfl := txt_empty htx (by omega)
      have ha := all (by omega) a (by simp)
      exact .neg ha.1 ha.2
    · obtain ⟨a, b, rfl⟩ := len2 (by simpa [partsOk] using hp : l.length = 2)
      obtain rfl := len0 (by simpa [namesOk] using hn : nm.length = 0)
      have ha := all (by omega) a (by simp)
      have hb := all (by omega) b (by simp)
      refine .bin (Classical.byContradiction fun c => ?_) ha.1 hb.1 ha.2 hb.2
      simp [txt, c] at htx
    · obtain ⟨a, b, c, rfl⟩ := len3 (by simpa [partsOk] using hp : l.length = 3)
      obtain rfl := len0 (by simpa [namesOk] using hn : nm.length = 0)
      obtain rfl := txt_empty htx (by omega)
      have ha := all (by omega) a (by simp)
      have hb := all (by omega) b (by simp)
      have hc := all (by omega) c (by simp)
      exact .btw ha.1 hb.1 hc.1 ha.2 hb.2 hc.2
    · obtain ⟨a, b, rfl⟩ := len2 (by simpa [partsOk] using hp : l.length = 2)
      obtain rfl := len0 (by simpa [namesOk] using hn : nm.length = 0)
      obtain rfl := txt_empty htx (by omega)
      have ha := part 0 (by simp)
      have hb := part 1 (by simp)
      exact .inn ha.1 hb.1 (ha.2 (by omega))
    · obtain ⟨a, rfl⟩ := len1 (by simpa [partsOk] using hp : l.length = 1)
      obtain rfl := len0 (by simpa [namesOk] using hn : nm.length = 0)
      have ha := all (by omega) a (by simp)
      exact .path (txt_named htx (by omega)) ha.1 ha.2
    · obtain ⟨a, b, rfl⟩ := len2 (by simpa [partsOk] using hp : l.length = 2)
      obtain rfl := len0 (by simpa [namesOk] using hn : nm.length = 0)
      obtain rfl := txt_empty htx (by omega)
      have ha := all (by omega) a (by simp)
      have hb := all (by omega) b (by simp)
      exact .filt ha.1 hb.1 ha.2 hb.2
    · obtain rfl := len0 (by simpa [namesOk] using hn : nm.length = 0)
      obtain rfl := txt_empty htx (by omega)
      have hal := all (by omega)
      rcases l with _ | ⟨a, l⟩
      · simp [partsOk] at hp
      · exact .call (hal a (List.mem_cons_self ..)).1 (fun x hx => (hal x (List.mem_cons_of_mem _ hx)).1) (hal a (List.mem_cons_self ..)).2 (fun x hx => (hal x (List.mem_cons_of_mem _ hx)).2)
    · obtain ⟨a, b, c, rfl⟩ := len3 (by simpa [partsOk] using hp : l.length = 3)
      obtain rfl := len0 (by simpa [namesOk] using hn : nm.length = 0)
      obtain rfl := txt_empty htx (by omega)
      have ha := all (by omega) a (by simp)
      have hb := all (by omega) b (by simp)
      have hc := all (by omega) c (by simp)
      exact .cond ha.1 hb.1 hc.1 ha.2 hb.2 hc.2
    · obtain ⟨a, b, rfl⟩ := len2 (by rcases hk with rfl | rfl | rfl <;> simpa [partsOk] using hp : l.length = 2)
      obtain rfl := len0 (by rcases hk with rfl | rfl | rfl <;> simpa [namesOk] using hn : nm.length = 0)
      have ha := all (by omega) a (by simp)
      have hb := all (by omega) b (by simp)
      exact .bnd hk (txt_named htx (by omega)) ha.1 hb.1 ha.2 hb.2
    · obtain ⟨a, rfl⟩ := len1 (by simpa [partsOk] using hp : l.length = 1)
      obtain rfl := txt_empty htx (by omega)
      have ha := all (by omega) a (by simp)
      exact .func hnm ha.1 ha.2
    · obtain rfl := len0 (by simpa [namesOk] using hn : nm.length = 0)
      obtain rfl := txt_empty htx (by omega)
      have hal := all (by omega)
      exact .list (fun x hx => (hal x hx).1) (fun x hx => (hal x hx).2)
    · obtain rfl := txt_empty htx (by omega)
      have hal := all (by omega)
      exact .map hnm (by simpa [namesOk] using hn) (fun x hx => (hal x hx).1) (fun x hx => (hal x hx).2)
    · obtain ⟨a, b, rfl⟩ := len2 (by simpa [partsOk] using hp : l.length = 2)
      obtain rfl := len0 (by simpa [namesOk] using hn : nm.length = 0)
      have ha := all (by omega) a (by simp)
      have hb := all (by omega) b (by simp)
      refine .span (Classical.byContradiction fun c => ?_) ha.1 hb.1 ha.2 hb.2
      simp [txt, c] at htx
    · obtain ⟨a, rfl⟩ := len1 (by simpa [partsOk] using hp : l.length = 1)
      obtain rfl := len0 (by simpa [namesOk] using hn : nm.length = 0)
      have ha := all (by omega) a (by simp)
      refine .test (Classical.byContradiction fun c => ?_) ha.1 ha.2
      simp [txt, c] at htx
theorem Rt.check {e : Ex} (h : checkV e = 0) : Rt e := Rt.of e.size e true (Nat.le_refl _) (checkV_zero.1 h).2

/-! ### The text, kind by kind -/
abbrev pt (m : Nat) (e : Ex) : Pt := (e, flat m e)
theorem fl0 (m : Nat) (s : Nam) : flat m (.mk 0 s [] []) = [.tk 2 s] := by rw [flat_eq]; simp [Ex.kind, Ex.s, Ex.nm, Ex.l, lay]
theorem fl1 (m : Nat) (s : Nam) : flat m (.mk 1 s [] []) = [.tk 3 s] := by rw [flat_eq]; simp [Ex.kind, Ex.s, Ex.nm, Ex.l, lay]
theorem fl2 (m : Nat) (s : Nam) : flat m (.mk 2 s [] []) = [ky s] := by rw [flat_eq]; simp [Ex.kind, Ex.s, Ex.nm, Ex.l, lay]
theorem fl3 (m : Nat) (s : Nam) : flat m (.mk 3 s [] []) = nmI s := by rw [flat_eq]; simp [Ex.kind, Ex.s, Ex.nm, Ex.l, lay]
theorem fl4 (m : Nat) (a : Ex) : flat m (.mk 4 [] [] [a]) = sg 45 :: prt m 7 (pt m a) := by rw [flat_eq]; simp [Ex.kind, Ex.s, Ex.nm, Ex.l, lay, flatL, ptAt]
theorem fl5 (m : Nat) (s : Nam) (a b : Ex) : flat m (.mk 5 s [] [a, b]) = prt m (sideA s) (pt m a) ++ (.bl :: opI s :: .bl :: prt m (sideB s) (pt m b)) := by rw [flat_eq]; simp [Ex.kind, Ex.s, Ex.nm, Ex.l, lay, flatL, ptAt]
theorem fl6 (m : Nat) (a b c : Ex) : flat m (.mk 6 [] [] [a, b, c]) = prt m 4 (pt m a) ++ (.bl :: ky kBetween :: .bl :: (prt m 4 (pt m b) ++ (.bl :: ky kAnd :: .bl :: prt m 4 (pt m c)))) := by rw [flat_eq]; simp [Ex.kind, Ex.s, Ex.nm, Ex.l, lay, flatL, ptAt]
theorem fl7 (m : Nat) (a b : Ex) : flat m (.mk 7 [] [] [a, b]) = prt m 4 (pt m a) ++ (.bl :: ky kIn :: .bl :: (if b.kind = 19 then flat m b else prt m 4 (pt m b))) := by rw [flat_eq]; rfl
theorem fl8 (m : Nat) (s : Nam) (a : Ex) : flat m (.mk 8 s [] [a]) = prt m 8 (pt m a) ++ (sg 46 :: nmI s) := by rw [flat_eq]; simp [Ex.kind, Ex.s, Ex.nm, Ex.l, lay, flatL, ptAt]
theorem fl9 (m : Nat) (a b : Ex) : flat m (.mk 9 [] [] [a, b]) = prt m 8 (pt m a) ++ (sg 91 :: (prt m 0 (pt m b) ++ [sg 93])) := by rw [flat_eq]; simp [Ex.kind, Ex.s, Ex.nm, Ex.l, lay, flatL, ptAt]
theorem fl10 (m : Nat) (a : Ex) (l : List Ex) : flat m (.mk 10 [] [] (a :: l)) = prt m 8 (pt m a) ++ (sg 40 :: (rowF m true (flatL m l) ++ [sg 41])) := by rw [flat_eq]; simp [Ex.kind, Ex.s, Ex.nm, Ex.l, lay, flatL, ptAt]
theorem fl11 (m : Nat) (a b c : Ex) : flat m (.mk 11 [] [] [a, b, c]) = ky kIf :: .bl :: (prt m 0 (pt m a) ++ (.bl :: ky kThen :: .bl :: (prt m 0 (pt m b) ++ (.bl :: ky kElse :: .bl :: prt m 0 (pt m c))))) := by rw [flat_eq]; simp [Ex.kind, Ex.s, Ex.nm, Ex.l, lay, flatL, ptAt]
/-- The words of what binds a name. -/
def bndA (k : Int) : Nam := if k = 12 then kFor else if k = 13 then kSome else kEvery
def bndB (k : Int) : Nam := if k = 12 then kReturn else kSat
theorem fl12 (m : Nat) {k : Int} (hk : k = 12 ∨ k = 13 ∨ k = 14) (s : Nam) (a b : Ex) : flat m (.mk k s [] [a, b]) = ky (bndA k) :: .bl :: (nmI s ++ (.bl :: ky kIn :: .bl :: (prt m 0 (pt m a) ++ (.bl :: ky (bndB k) :: .bl :: prt m 0 (pt m b))))) := by
  rw [flat_eq]
  rcases hk with rfl | rfl | rfl <;> simp [Ex.kind, Ex.s, Ex.nm, Ex.l, lay, boundI, flatL, ptAt, bndA, bndB]
theorem fl15 (m : Nat) (nm : List Nam) (a : Ex) : flat m (.mk 15 [] nm [a]) = ky kFun :: sg 40 :: (namF true nm ++ (sg 41 :: .bl :: prt m 0 (pt m a))) := by rw [flat_eq]; simp [Ex.kind, Ex.s, Ex.nm, Ex.l, lay, flatL, ptAt]
theorem fl16 (m : Nat) (l : List Ex) : flat m (.mk 16 [] [] l) = sg 91 :: (rowF m true (flatL m l) ++ [sg 93]) := by rw [flat_eq]; simp [Ex.kind, Ex.s, Ex.nm, Ex.l, lay, flatL, ptAt]
theorem fl17 (m : Nat) (nm : List Nam) (l : List Ex) : flat m (.mk 17 [] nm l) = sg 123 :: (entF m true nm (flatL m l) ++ [sg 125]) := by rw [flat_eq]; simp [Ex.kind, Ex.s, Ex.nm, Ex.l, lay, flatL, ptAt]
theorem fl18 (m : Nat) (s : Nam) (a b : Ex) : flat m (.mk 18 s [] [a, b]) = .tk 4 (s.take 1) :: (prt m 0 (pt m a) ++ (.tk 4 [46, 46] :: (prt m 0 (pt m b) ++ [.tk 4 (s.drop 1)]))) := by rw [flat_eq]; simp [Ex.kind, Ex.s, Ex.nm, Ex.l, lay, flatL, ptAt]
theorem fl19 (m : Nat) (s : Nam) (a : Ex) : flat m (.mk 19 s [] [a]) = .tk 4 s :: .bl :: prt m 4 (pt m a) := by rw [flat_eq]; simp [Ex.kind, Ex.s, Ex.nm, Ex.l, lay, flatL, ptAt]

/-! ### The text's tokens -/
theorem Good.bl {r : List It} {m : List UInt8} (h : Good r m) : Good (.bl :: r) m := h
theorem good_prt {m q : Nat} {e : Ex} (h : ∀ x, Stop x → Good (flat m e) x) (x : List UInt8) (hx : Stop x) : Good (prt m q (pt m e)) x := by
  unfold prt
  split
  · exact h x hx
  · refine good_sg (by decide) (Good.app (h _ ?_) (good_sg (by decide) trivial))
    exact stop_sg (by decide) (by decide) _ _
theorem good_sep (f : Bool) {r : List It} {x : List UInt8} (h : Good r x) : Good (sep f ++ r) x := by
  cases f with
  | true => exact h
  | false => exact good_sg (by decide) h
theorem row_stop (m : Nat) (ps : List Pt) {x : List UInt8} (hx : Stop x) : Stop (txtL (rowF m false ps) ++ x) := by
  cases ps with
  | nil => exact hx
  | cons p r => exact stop_sg (by decide) (by decide) _ _
theorem good_row {m : Nat} : ∀ {l : List Ex}, (∀ e ∈ l, ∀ x, Stop x → Good (flat m e) x) → ∀ (f : Bool) (x : List UInt8), Stop x → Good (rowF m f (flatL m l)) x
  | [], _, f, x, _ => by rw [flatL]; trivial
  | e :: l, h, f, x, hx => by
    rw [flatL]
    show Good (sep f ++ (prt m 0 (pt m e) ++ rowF m false (flatL m l))) x
    exact good_sep f (Good.app (good_prt (h e (List.mem_cons_self ..)) _ (row_stop m _ hx)) (good_row (fun e he => h e (List.mem_cons_of_mem _ he)) false x hx))
theorem ent_stop (m : Nat) (nm : List Nam) (ps : List Pt) {x : List UInt8} (hx : Stop x) : Stop (txtL (entF m false nm ps) ++ x) := by
  cases nm with
  | nil => exact hx
  | cons n nm =>
    cases ps with
    | nil => exact hx
    | cons p r => exact stop_sg (by decide) (by decide) _ _
theorem good_ent {m : Nat} : ∀ {nm : List Nam} {l : List Ex}, (∀ n ∈ nm, rightB n = true) → (∀ e ∈ l, ∀ x, Stop x → Good (flat m e) x) → ∀ (f : Bool) (x : List UInt8), Stop x → Good (entF m f nm (flatL m l)) x
  | [], l, _, _, f, x, _ => by rw [entF]; · trivial
                               · intro _ _ _ _ c; cases c
  | n :: nm, [], _, _, f, x, _ => by rw [flatL, entF]; · trivial
                                     · intro _ _ _ _ _ c; cases c
  | n :: nm, e :: l, hn, h, f, x, hx => by
    rw [flatL]
    show Good (sep f ++ (nmI n ++ (sg 58 :: .bl :: (prt m 0 (pt m e) ++ entF m false nm (flatL m l))))) x
    refine good_sep f (Good.app (good_name (hn n (List.mem_cons_self ..)) (stop_sg (by decide) (by decide) _ _)) (good_sg (by decide) (Good.bl ?_)))
    exact Good.app (good_prt (h e (List.mem_cons_self ..)) _ (ent_stop m _ _ hx)) (good_ent (fun n hh => hn n (List.mem_cons_of_mem _ hh)) (fun e he => h e (List.mem_cons_of_mem _ he)) false x hx)
theorem nam_stop (nm : List Nam) {x : List UInt8} (hx : Stop x) : Stop (txtL (namF false nm) ++ x) := by
  cases nm with
  | nil => exact hx
  | cons p r => exact stop_sg (by decide) (by decide) _ _
theorem good_nam : ∀ {nm : List Nam}, (∀ n ∈ nm, rightB n = true) → ∀ (f : Bool) (x : List UInt8), Stop x → Good (namF f nm) x
  | [], _, f, x, _ => trivial
  | n :: nm, hn, f, x, hx => good_sep f (Good.app (good_name (hn n (List.mem_cons_self ..)) (nam_stop _ hx)) (good_nam (fun n hh => hn n (List.mem_cons_of_mem _ hh)) false x hx))
theorem consts_key : ∀ s ∈ consts, keyB s = true := by decide +kernel
theorem bndA_key (k : Int) : keyB (bndA k) = true := by unfold bndA; repeat' split
                                                        all_goals decide +kernel
theorem bndB_key (k : Int) : keyB (bndB k) = true := by unfold bndB; split <;> decide +kernel
theorem k_key : keyB kIf = true ∧ keyB kThen = true ∧ keyB kElse = true ∧ keyB kIn = true ∧ keyB kFun = true ∧ keyB kBetween = true ∧ keyB kAnd = true := by decide +kernel
theorem Rt.good {e : Ex} (h : Rt e) (m : Nat) : ∀ x, Stop x → Good (flat m e) x := by
  obtain ⟨q1, q2, q3, q4, q5, q6, q7⟩ := k_key
  induction h with
  | num h => intro x hx; rw [fl0]; exact Good.one (one_numb h hx) (one_num h.num.1 h.num.2).2 trivial
  | str h => intro x hx; rw [fl1]; exact Good.one (one_text _ _) (check_quote h).1 trivial
  | con h => intro x hx; rw [fl2]; exact good_key (consts_key _ h) hx trivial
  | name h => intro x hx; rw [fl3]; exact good_name h hx
  | neg ha na iha => intro x hx; rw [fl4]; exact good_sg (by decide) (good_prt iha x hx)
  | bin h ha hb na nb iha ihb => intro x hx; rw [fl5]; exact Good.app (good_prt iha _ (stop_bl _ _)) (Good.bl (good_op h (good_prt ihb x hx)))
  | btw ha hb hc na nb nc iha ihb ihc =>
    intro x hx; rw [fl6]
    exact Good.app (good_prt iha _ (stop_bl _ _)) (Good.bl (good_key q6 (stop_bl _ _) (Good.bl (Good.app (good_prt ihb _ (stop_bl _ _)) (Good.bl (good_key q7 (stop_bl _ _) (Good.bl (good_prt ihc x hx))))))))
  | inn ha hb na iha ihb =>
    intro x hx; rw [fl7]
    refine Good.app (good_prt iha _ (stop_bl _ _)) (Good.bl (good_key q4 (stop_bl _ _) (Good.bl ?_)))
    split
    · exact ihb x hx
    · exact good_prt ihb x hx
  | path h ha na iha => intro x hx; rw [fl8]; exact Good.app (good_prt iha _ (point_stop h x)) (good_point h hx)
  | filt ha hb na nb iha ihb =>
    intro x hx; rw [fl9]
    exact Good.app (good_prt iha _ (stop_sg (by decide) (by decide) _ _)) (good_sg (by decide) (Good.app (good_prt ihb _ (stop_sg (by decide) (by decide) _ _)) (good_sg (by decide) trivial)))
  | call ha hl na nl iha ihl =>
    intro x hx; rw [fl10]
    exact Good.app (good_prt iha _ (stop_sg (by decide) (by decide) _ _)) (good_sg (by decide) (Good.app (good_row ihl true _ (stop_sg (by decide) (by decide) _ _)) (good_sg (by decide) trivial)))
  | cond ha hb hc na nb nc iha ihb ihc =>
    intro x hx; rw [fl11]
    exact good_key q1 (stop_bl _ _) (Good.bl (Good.app (good_prt iha _ (stop_bl _ _)) (Good.bl (good_key q2 (stop_bl _ _) (Good.bl (Good.app (good_prt ihb _ (stop_bl _ _)) (Good.bl (good_key q3 (stop_bl _ _) (Good.bl (good_prt ihc x hx))))))))))
  | bnd hk h ha hb na nb iha ihb =>
    intro x hx; rw [fl12 m hk]
    exact good_key (bndA_key _) (stop_bl _ _) (Good.bl (Good.app (good_name h (stop_bl _ _)) (Good.bl (good_key q4 (stop_bl _ _) (Good.bl (Good.app (good_prt iha _ (stop_bl _ _)) (Good.bl (good_key (bndB_key _) (stop_bl _ _) (Good.bl (good_prt ihb x hx))))))))))
  | func h ha na iha =>
    intro x hx; rw [fl15]
    exact good_key q5 (stop_sg (by decide) (by decide) _ _) (good_sg (by decide) (Good.app (good_nam h true _ (stop_sg (by decide) (by decide) _ _)) (good_sg (by decide) (Good.bl (good_prt iha x hx)))))
  | list hl nl ihl => intro x hx; rw [fl16]; exact good_sg (by decide) (Good.app (good_row ihl true _ (stop_sg (by decide) (by decide) _ _)) (good_sg (by decide) trivial))
  | map h he hl nl ihl => intro x hx; rw [fl17]; exact good_sg (by decide) (Good.app (good_ent h ihl true _ (stop_sg (by decide) (by decide) _ _)) (good_sg (by decide) trivial))
  | span h ha hb na nb iha ihb =>
    intro x hx; rw [fl18]
    obtain ⟨c, d, rfl, h1, h2, h3, h4⟩ := spans_facts _ h
    exact good_sg h1 (Good.app (good_prt iha _ (range_stop _ _)) (good_range (Good.app (good_prt ihb _ (stop_sg h3 h4 _ _)) (good_sg h2 trivial))))
  | test h ha na iha => intro x hx; rw [fl19]; exact good_test h (good_prt iha x hx)
/-- The text's tokens. -/
theorem Rt.lex {e : Ex} (h : Rt e) (m : Nat) : ∃ ts : List Lx, Fl.lex (prV m e) = .ok (ts ++ [⟨5, (prV m e).length, []⟩]) ∧ ts.map (fun t => (t.kind, t.s)) = tkL (flat m e) := by
  have hg := h.good m [] Stop.nil
  obtain ⟨ts, h1, h2⟩ := Good.lex 0 hg
  refine ⟨ts, ?_, h2⟩
  unfold Fl.lex prV
  rw [if_pos (Good.check hg), h1, Nat.zero_add]
end Go.Proofs.YtkmdclfkmmlloaaGreatDoor.Fp
namespace Go.Proofs.YtkmdclfkmmlloaaGreatDoor.Fp
open Go Go.Proofs.YtkmdclfkmmlloaaGreatDoor Go.Proofs.YtkmdclfkmmlloaaGreatDoor.Xp Go.RowKit
set_option maxRecDepth 100000

set_option maxHeartbeats 4000000 in
theorem signLevel_lit (a : ByteArray) (n : Nat) (h : (a, n) ∈ ([(⟨#[111, 114]⟩, 1), (⟨#[97, 110, 100]⟩, 2), (⟨#[61]⟩, 3), (⟨#[33, 61]⟩, 3), (⟨#[60]⟩, 3), (⟨#[60, 61]⟩, 3), (⟨#[62]⟩, 3), (⟨#[62, 61]⟩, 3), (⟨#[43]⟩, 4), (⟨#[45]⟩, 4), (⟨#[42]⟩, 5), (⟨#[47]⟩, 5), (⟨#[42, 42]⟩, 6)] : List (ByteArray × Nat))) (w : World) :
    Calls Tryz.prog 138 #[.string a] w fun e w' => e = .returned (.int .i64 n) ∧ w = w' := by
  simp only [List.mem_cons, List.not_mem_nil, or_false, Prod.mk.injEq] at h
  rcases h with ⟨rfl, rfl⟩ | ⟨rfl, rfl⟩ | ⟨rfl, rfl⟩ | ⟨rfl, rfl⟩ | ⟨rfl, rfl⟩ | ⟨rfl, rfl⟩ | ⟨rfl, rfl⟩ | ⟨rfl, rfl⟩ | ⟨rfl, rfl⟩ | ⟨rfl, rfl⟩ | ⟨rfl, rfl⟩ | ⟨rfl, rfl⟩ | ⟨rfl, rfl⟩
  all_goals
    go_enter Tryz.func138, Tryz.ntmps138
    go_wp2
    go_ret
    exact ⟨rfl, rfl⟩
theorem signLevel_any (s : Nam) (h : s ∈ bins) (w : World) :
    Calls Tryz.prog 138 #[.string (text s)] w fun e w' => e = .returned (.int .i64 (levS s)) ∧ w = w' := by
  refine signLevel_lit (text s) (levS s) ?_ w
  simp only [bins, List.mem_cons, List.not_mem_nil, or_false] at h
  rcases h with rfl | rfl | rfl | rfl | rfl | rfl | rfl | rfl | rfl | rfl | rfl | rfl | rfl
  · exact List.mem_cons_self ..
  · exact List.mem_cons_of_mem _ (List.mem_cons_self ..)
  · exact List.mem_cons_of_mem _ (List.mem_cons_of_mem _ (List.mem_cons_self ..))
  · exact List.mem_cons_of_mem _ (List.mem_cons_of_mem _ (List.mem_cons_of_mem _ (List.mem_cons_self ..)))
  · exact List.mem_cons_of_mem _ (List.mem_cons_of_mem _ (List.mem_cons_of_mem _ (List.mem_cons_of_mem _ (List.mem_cons_self ..))))
  · exact List.mem_cons_of_mem _ (List.mem_cons_of_mem _ (List.mem_cons_of_mem _ (List.mem_cons_of_mem _ (List.mem_cons_of_mem _ (List.mem_cons_self ..)))))
  · exact List.mem_cons_of_mem _ (List.mem_cons_of_mem _ (List.mem_cons_of_mem _ (List.mem_cons_of_mem _ (List.mem_cons_of_mem _ (List.mem_cons_of_mem _ (List.mem_cons_self ..))))))
  · exact List.mem_cons_of_mem _ (List.mem_cons_of_mem _ (List.mem_cons_of_mem _ (List.mem_cons_of_mem _ (List.mem_cons_of_mem _ (List.mem_cons_of_mem _ (List.mem_cons_of_mem _ (List.mem_cons_self ..)))))))
  · exact List.mem_cons_of_mem _ (List.mem_cons_of_mem _ (List.mem_cons_of_mem _ (List.mem_cons_of_mem _ (List.mem_cons_of_mem _ (List.mem_cons_of_mem _ (List.mem_cons_of_mem _ (List.mem_cons_of_mem _ (List.mem_cons_self ..))))))))
  · exact List.mem_cons_of_mem _ (List.mem_cons_of_mem _ (List.mem_cons_of_mem _ (List.mem_cons_of_mem _ (List.mem_cons_of_mem _ (List.mem_cons_of_mem _ (List.mem_cons_of_mem _ (List.mem_cons_of_mem _ (List.mem_cons_of_mem _ (List.mem_cons_self ..)))))))))
  · exact List.mem_cons_of_mem _ (List.mem_cons_of_mem _ (List.mem_cons_of_mem _ (List.mem_cons_of_mem _ (List.mem_cons_of_mem _ (List.mem_cons_of_mem _ (List.mem_cons_of_mem _ (List.mem_cons_of_mem _ (List.mem_cons_of_mem _ (List.mem_cons_of_mem _ (List.mem_cons_self ..))))))))))
  · exact List.mem_cons_of_mem _ (List.mem_cons_of_mem _ (List.mem_cons_of_mem _ (List.mem_cons_of_mem _ (List.mem_cons_of_mem _ (List.mem_cons_of_mem _ (List.mem_cons_of_mem _ (List.mem_cons_of_mem _ (List.mem_cons_of_mem _ (List.mem_cons_of_mem _ (List.mem_cons_of_mem _ (List.mem_cons_self ..)))))))))))
  · exact List.mem_cons_of_mem _ (List.mem_cons_of_mem _ (List.mem_cons_of_mem _ (List.mem_cons_of_mem _ (List.mem_cons_of_mem _ (List.mem_cons_of_mem _ (List.mem_cons_of_mem _ (List.mem_cons_of_mem _ (List.mem_cons_of_mem _ (List.mem_cons_of_mem _ (List.mem_cons_of_mem _ (List.mem_cons_of_mem _ (List.mem_cons_self ..))))))))))))
/-- What a level asks of an expression. -/
def Leveled (e : Ex) : Prop := 0 ≤ e.kind ∧ e.kind ≤ 19 ∧ (e.kind = 5 → e.s ∈ bins)
theorem Rt.leveled {e : Ex} (h : Rt e) : Leveled e := by
  cases h with
  | bin h _ _ _ _ => exact ⟨by simp [Ex.kind], by simp [Ex.kind], fun _ => h⟩
  | bnd hk _ _ _ _ _ => exact ⟨by simp only [Ex.kind]; omega, by simp only [Ex.kind]; omega, fun c => by simp only [Ex.kind] at c; omega⟩
  | _ => exact ⟨by simp [Ex.kind], by simp [Ex.kind], fun c => by simp [Ex.kind] at c⟩
theorem sides_any (s : Nam) (h : s ∈ bins) (w : World) :
    Calls Tryz.prog 107 #[.string (text s)] w fun e w' => e = .returned (.tuple #[.int .i64 (sideA s), .int .i64 (sideB s)]) ∧ w = w' := by
  have SL := hid (signLevel_any s h w)
  have hl : levS s ≤ 8 := by unfold levS; repeat' split
                             all_goals omega
  have HA := hid (show ∀ n, levS s = n → sideA s = (if n = 3 then 4 else n) ∧ sideB s = n + 1 from fun n h => by unfold sideA sideB; rw [h]; exact ⟨rfl, rfl⟩)
  obtain ⟨n, hn⟩ : ∃ n, levS s = n := ⟨_, rfl⟩
  obtain ⟨qa, qb⟩ := HA.out n hn
  rw [hn] at SL hl
  have QA := hid qa
  have QB := hid qb
  clear HA hn qa qb
  go_enter Tryz.func107, Tryz.ntmps107
  go_wp2_with fail
  refine SL.out.mono ?_
  rintro e w1 ⟨rfl, rfl⟩
  by_cases c : n = 3
  · subst c
    go_wp2
    go_ret2
    exact ⟨by rw [QA.out, QB.out]; rfl, rfl⟩
  · have c2 : ¬ ((n : Int) = 3) := by omega
    go_wp2
    go_ret2
    exact ⟨by rw [QA.out, QB.out, if_neg c]; rfl, rfl⟩
set_option maxHeartbeats 4000000 in
theorem Level_any (e : Ex) (h : Leveled e) (nv pv : Value) (w : World) :
    Calls Tryz.prog 137 #[exV e nv pv] w fun r w' => r = .returned (.int .i64 (lev e.kind e.s)) ∧ Below w.heap.size w w' := by
  obtain ⟨k, s, nm, l⟩ := e
  obtain ⟨h1, h2, h3⟩ := h
  unfold exV
  simp only [Ex.kind, Ex.s] at *
  have HB := hid (ba (b0 w) (.cells #[.int .i64 k, .string (text s), nv, pv] 25))
  by_cases hk : k = 5
  · subst hk
    have SL := hid (signLevel_any s (h3 rfl) (w.alloc (.cells #[.int .i64 5, .string (text s), nv, pv] 25)))
    have HL := hid (show lev 5 s = levS s from by simp [lev])
    go_enter Tryz.func137, Tryz.ntmps137
    go_wp2_with fail
    refine SL.out.mono ?_
    rintro e w1 ⟨rfl, rfl⟩
    go_wp2
    go_ret
    exact ⟨by rw [HL.out]; rfl, HB.out⟩
  · have hc : k = 0 ∨ k = 1 ∨ k = 2 ∨ k = 3 ∨ k = 4 ∨ k = 6 ∨ k = 7 ∨ k = 8 ∨ k = 9 ∨ k = 10 ∨ k = 11 ∨ k = 12 ∨ k = 13 ∨ k = 14 ∨ k = 15 ∨ k = 16 ∨ k = 17 ∨ k = 18 ∨ k = 19 := by omega
    clear h1 h2 h3 hk
    rcases hc with rfl | rfl | rfl | rfl | rfl | rfl | rfl | rfl | rfl | rfl | rfl | rfl | rfl | rfl | rfl | rfl | rfl | rfl | rfl
    all_goals
      go_enter Tryz.func137, Tryz.ntmps137
      go_wp2
      go_ret
      exact ⟨rfl, HB.out⟩
end Go.Proofs.YtkmdclfkmmlloaaGreatDoor.Fp
namespace Go.Proofs.YtkmdclfkmmlloaaGreatDoor.Fp
open Go Go.Proofs.YtkmdclfkmmlloaaGreatDoor Go.Proofs.YtkmdclfkmmlloaaGreatDoor.Utf Go.Proofs.YtkmdclfkmmlloaaGreatDoor.Names Go.Proofs.YtkmdclfkmmlloaaGreatDoor.Ent Go.Proofs.YtkmdclfkmmlloaaGreatDoor.Fl Go.Proofs.YtkmdclfkmmlloaaGreatDoor.Xp
set_option maxRecDepth 100000

/-! ### Less and more parentheses -/
def plainT (t : Nat × List UInt8) : Bool := !(decide (t.1 = 4) && (decide (t.2 = [40]) || decide (t.2 = [41])))
/-- How often a sign stands there. -/
def cn (b : UInt8) (l : List It) : Nat := (tkL l).count (4, [b])
structure Rel (a b : List It) : Prop where
  same : (tkL a).filter plainT = (tkL b).filter plainT
  len : (tkL a).length ≤ (tkL b).length
  cnt : cn 40 a ≤ cn 40 b
theorem Rel.refl (a : List It) : Rel a a := ⟨rfl, Nat.le_refl _, Nat.le_refl _⟩
theorem cn_app (b : UInt8) (x y : List It) : cn b (x ++ y) = cn b x + cn b y := by unfold cn; rw [tkL_app, List.count_append]
theorem Rel.app {a b c d : List It} (h : Rel a b) (k : Rel c d) : Rel (a ++ c) (b ++ d) := by
  refine ⟨?_, ?_, ?_⟩
  · rw [tkL_app, tkL_app, List.filter_append, List.filter_append, h.same, k.same]
  · rw [tkL_app, tkL_app, List.length_append, List.length_append]; have := h.len; have := k.len; omega
  · rw [cn_app, cn_app]; have := h.cnt; have := k.cnt; omega
theorem Rel.cons (i : It) {a b : List It} (h : Rel a b) : Rel (i :: a) (i :: b) := Rel.app (Rel.refl [i]) h
theorem Rel.prt {m m' q : Nat} (hm : m ≤ m') {e : Ex} (h : Rel (flat m e) (flat m' e)) : Rel (prt m q (pt m e)) (prt m' q (pt m' e)) := by
  unfold Fp.prt
  simp only
  have par : ∀ {a b : List It}, Rel a b → Rel a (sg 40 :: (b ++ [sg 41])) := fun {a b} h => by
    refine ⟨?_, ?_, ?_⟩
    · show _ = List.filter plainT ((4, [40]) :: tkL (b ++ [sg 41]))
      rw [tkL_app, List.filter_cons_of_neg (by decide), List.filter_append, h.same]
      show _ = _ ++ List.filter plainT [(4, [41])]
      rw [List.filter_cons_of_neg (by decide)]; simp
    · show _ ≤ ((4, [40]) :: tkL (b ++ [sg 41])).length
      rw [tkL_app, List.length_cons, List.length_append]; have := h.len; omega
    · show (tkL a).count (4, [40]) ≤ ((4, [40]) :: tkL (b ++ [sg 41])).count (4, [40])
      have := h.cnt
      unfold cn at this
      rw [List.count_cons, tkL_app, List.count_append]
      omega
  by_cases c : max q m ≤ lev e.kind e.s
  · rw [if_pos c]
    by_cases d : max q m' ≤ lev e.kind e.s
    · rw [if_pos d]; exact h
    · rw [if_neg d]; exact par h
  · rw [if_neg c, if_neg (by omega)]
    exact Rel.cons _ (Rel.app h (Rel.refl _))
theorem Rel.row {m m' : Nat} (hm : m ≤ m') : ∀ {l : List Ex}, (∀ e ∈ l, Rel (flat m e) (flat m' e)) → ∀ f, Rel (rowF m f (flatL m l)) (rowF m' f (flatL m' l))
  | [], _, f => by rw [flatL, flatL]; exact Rel.refl _
  | e :: l, h, f => by
    rw [flatL, flatL]
    exact Rel.app (Rel.refl (sep f)) (Rel.app (Rel.prt hm (h e (List.mem_cons_self ..))) (Rel.row hm (fun e he => h e (List.mem_cons_of_mem _ he)) false))
theorem ent_none (m : Nat) (f : Bool) (nm : List Nam) (ps : List Pt) (h : nm = [] ∨ ps = []) : entF m f nm ps = [] := by
  rcases h with rfl | rfl
  · cases ps <;> rfl
  · cases nm <;> rfl
theorem Rel.ent {m m' : Nat} (hm : m ≤ m') : ∀ {nm : List Nam} {l : List Ex}, (∀ e ∈ l, Rel (flat m e) (flat m' e)) → ∀ f, Rel (entF m f nm (flatL m l)) (entF m' f nm (flatL m' l))
  | [], l, _, f => by rw [ent_none _ _ _ _ (.inl rfl), ent_none _ _ _ _ (.inl rfl)]; exact Rel.refl _
  | n :: nm, [], _, f => by rw [flatL, flatL]; exact Rel.refl _
  | n :: nm, e :: l, h, f => by
    rw [flatL, flatL]
    exact Rel.app (Rel.refl (sep f)) (Rel.app (Rel.refl (nmI n)) (Rel.cons _ (Rel.cons _ (Rel.app (Rel.prt hm (h e (List.mem_cons_self ..))) (Rel.ent hm (fun e he => h e (List.mem_cons_of_mem _ he)) false)))))
theorem Rt.rel {e : Ex} (h : Rt e) {m m' : Nat} (hm : m ≤ m') : Rel (flat m e) (flat m' e) := by
  induction h with
  | num h => rw [fl0, fl0]; exact Rel.refl _
  | str h => rw [fl1, fl1]; exact Rel.refl _
  | con h => rw [fl2, fl2]; exact Rel.refl _
  | name h => rw [fl3, fl3]; exact Rel.refl _
  | neg ha na iha => rw [fl4, fl4]; exact Rel.cons _ (Rel.prt hm iha)
  | bin h ha hb na nb iha ihb => rw [fl5, fl5]; exact Rel.app (Rel.prt hm iha) (Rel.cons _ (Rel.cons _ (Rel.cons _ (Rel.prt hm ihb))))
  | btw ha hb hc na nb nc iha ihb ihc =>
    rw [fl6, fl6]; exact Rel.app (Rel.prt hm iha) (Rel.cons _ (Rel.cons _ (Rel.cons _ (Rel.app (Rel.prt hm ihb) (Rel.cons _ (Rel.cons _ (Rel.cons _ (Rel.prt hm ihc))))))))
  | inn ha hb na iha ihb =>
    rw [fl7, fl7]
    refine Rel.app (Rel.prt hm iha) (Rel.cons _ (Rel.cons _ (Rel.cons _ ?_)))
    split
    · exact ihb
    · exact Rel.prt hm ihb
  | path h ha na iha => rw [fl8, fl8]; exact Rel.app (Rel.prt hm iha) (Rel.refl _)
  | filt ha hb na nb iha ihb => rw [fl9, fl9]; exact Rel.app (Rel.prt hm iha) (Rel.cons _ (Rel.app (Rel.prt hm ihb) (Rel.refl _)))
  | call ha hl na nl iha ihl => rw [fl10, fl10]; exact Rel.app (Rel.prt hm iha) (Rel.cons _ (Rel.app (Rel.row hm ihl true) (Rel.refl _)))
  | cond ha hb hc na nb nc iha ihb ihc =>
    rw [fl11, fl11]
    exact Rel.cons _ (Rel.cons _ (Rel.app (Rel.prt hm iha) (Rel.cons _ (Rel.cons _ (Rel.cons _ (Rel.app (Rel.prt hm ihb) (Rel.cons _ (Rel.cons _ (Rel.cons _ (Rel.prt hm ihc))))))))))
  | bnd hk h ha hb na nb iha ihb =>
    rw [fl12 m hk, fl12 m' hk]
    exact Rel.cons _ (Rel.cons _ (Rel.app (Rel.refl _) (Rel.cons _ (Rel.cons _ (Rel.cons _ (Rel.app (Rel.prt hm iha) (Rel.cons _ (Rel.cons _ (Rel.cons _ (Rel.prt hm ihb))))))))))
  | func h ha na iha => rw [fl15, fl15]; exact Rel.cons _ (Rel.cons _ (Rel.app (Rel.refl _) (Rel.cons _ (Rel.cons _ (Rel.prt hm iha)))))
  | list hl nl ihl => rw [fl16, fl16]; exact Rel.cons _ (Rel.app (Rel.row hm ihl true) (Rel.refl _))
  | map h he hl nl ihl => rw [fl17, fl17]; exact Rel.cons _ (Rel.app (Rel.ent hm ihl true) (Rel.refl _))
  | span h ha hb na nb iha ihb => rw [fl18, fl18]; exact Rel.cons _ (Rel.app (Rel.prt hm iha) (Rel.cons _ (Rel.app (Rel.prt hm ihb) (Rel.refl _))))
  | test h ha na iha => rw [fl19, fl19]; exact Rel.cons _ (Rel.cons _ (Rel.prt hm iha))

/-! ### How many there are -/
mutual
/-- How many ( a bare text has. -/
def own : Ex → Nat
  | .mk k s nm l => (if k = 10 ∨ k = 15 then 1 else if k = 18 ∧ s.head? = some 40 then 1 else 0) + ownL l
def ownL : List Ex → Nat
  | [] => 0
  | e :: r => own e + (if e.kind = 19 then 0 else 1) + ownL r
end
mutual
/-- How many ranges are half open. -/
def half : Ex → Nat
  | .mk k s nm l => (if k = 18 ∧ (s = [91, 41] ∨ s = [40, 93]) then 1 else 0) + halfL l
def halfL : List Ex → Nat
  | [] => 0
  | e :: r => half e + halfL r
end
def brackets : List UInt8 := [40, 91, 41, 93, 123, 125]
theorem cn_nil (b : UInt8) : cn b [] = 0 := rfl
theorem cn_bl (b : UInt8) (r : List It) : cn b (.bl :: r) = cn b r := rfl
theorem cn_tk (b : UInt8) (k : Nat) (s : Nam) (r : List It) : cn b (.tk k s :: r) = (if k = 4 ∧ s = [b] then 1 else 0) + cn b r := by
  unfold cn
  show ((k, s) :: tkL r).count (4, [b]) = _
  rw [List.count_cons]
  by_cases h : k = 4 ∧ s = [b]
  · obtain ⟨rfl, rfl⟩ := h
    simp <;> omega
  · rw [if_neg h, if_neg (by simpa using h)]; omega
theorem cn_sg (b c : UInt8) (r : List It) : cn b (sg c :: r) = (if c = b then 1 else 0) + cn b r := by
  show cn b (.tk 4 [c] :: r) = _
  rw [cn_tk]; simp
theorem cn_ky (b : UInt8) (s : Nam) (r : List It) : cn b (ky s :: r) = cn b r := by
  show cn b (.tk 1 s :: r) = _
  rw [cn_tk]; simp
theorem cn_wrds (b : UInt8) : ∀ ws : List Nam, cn b (wrds ws) = 0
  | [] => rfl
  | [w] => by show cn b [.tk 0 w] = 0; rw [cn_tk]; simp [cn_nil]
  | w :: v :: r => by show cn b (.tk 0 w :: .bl :: wrds (v :: r)) = 0; rw [cn_tk, cn_bl, cn_wrds b (v :: r)]; simp
theorem cn_nm (b : UInt8) (s : Nam) : cn b (nmI s) = 0 := cn_wrds b _
theorem cn_op {b : UInt8} (hb : b ∈ brackets) {s : Nam} (hs : s ∈ bins) (r : List It) : cn b (opI s :: r) = cn b r := by
  unfold opI
  rw [cn_tk]
  have h : ∀ b ∈ brackets, ∀ s ∈ bins, s ≠ [b] := by decide +kernel
  have := h b hb s hs
  simp [this]
theorem cn_test {b : UInt8} (hb : b ∈ brackets) {s : Nam} (hs : s ∈ tests) (r : List It) : cn b (.tk 4 s :: r) = cn b r := by
  rw [cn_tk]
  have h : ∀ b ∈ brackets, ∀ s ∈ tests, s ≠ [b] := by decide +kernel
  have := h b hb s hs
  simp [this]
theorem cn_range {b : UInt8} (r : List It) : cn b (.tk 4 [46, 46] :: r) = cn b r := by rw [cn_tk]; simp
theorem cn_sep (b : UInt8) (hb : b ∈ brackets) (f : Bool) : cn b (sep f) = 0 := by
  have h : ∀ b ∈ brackets, (44 : UInt8) ≠ b := by decide
  cases f with
  | true => rfl
  | false => show cn b (sg 44 :: [.bl]) = 0; rw [cn_sg, if_neg (h b hb)]; rfl
/-- As many that open as that close. -/
structure Bal (a : List It) (hf : Nat) : Prop where
  all : cn 40 a + cn 91 a = cn 41 a + cn 93 a
  curl : cn 123 a = cn 125 a
  each : hf = 0 → cn 40 a = cn 41 a ∧ cn 91 a = cn 93 a
theorem Bal.app {a b : List It} {x y : Nat} (h : Bal a x) (k : Bal b y) : Bal (a ++ b) (x + y) := by
  have h1 := h.all; have h2 := h.curl; have h3 := h.each; have k1 := k.all; have k2 := k.curl; have k3 := k.each
  refine ⟨?_, ?_, fun e => ?_⟩
  · rw [cn_app, cn_app, cn_app, cn_app]; omega
  · rw [cn_app, cn_app]; omega
  · rw [cn_app, cn_app, cn_app, cn_app]
    have := h3 (by omega); have := k3 (by omega)
    omega
theorem Bal.none {a : List It} (h : ∀ b ∈ brackets, cn b a = 0) : Bal a 0 :=
  ⟨by rw [h 40 (by decide), h 91 (by decide), h 41 (by decide), h 93 (by decide)], by rw [h 123 (by decide), h 125 (by decide)], fun _ => ⟨by rw [h 40 (by decide), h 41 (by decide)], by rw [h 91 (by decide), h 93 (by decide)]⟩⟩
theorem Bal.same {a b : List It} {x : Nat} (h : Bal a x) (e : ∀ c ∈ brackets, cn c b = cn c a) : Bal b x := by
  refine ⟨?_, ?_, fun z => ?_⟩
  · rw [e 40 (by decide), e 91 (by decide), e 41 (by decide), e 93 (by decide)]; exact h.all
  · rw [e 123 (by decide), e 125 (by decide)]; exact h.curl
  · rw [e 40 (by decide), e 41 (by decide), e 91 (by decide), e 93 (by decide)]; exact h.each z
theorem Bal.zero {a b : List It} {x : Nat} (h : Bal b x) (k : ∀ c ∈ brackets, cn c a = 0) : Bal (a ++ b) x := by
  have := Bal.app (Bal.none k) h
  rwa [Nat.zero_add] at this
theorem Bal.last {a b : List It} {x : Nat} (h : Bal a x) (k : ∀ c ∈ brackets, cn c b = 0) : Bal (a ++ b) x := Bal.app h (Bal.none k)
/-- Within a pair. -/
theorem Bal.pair {a : List It} {x : Nat} (h : Bal a x) {o c : UInt8} (hp : (o = 40 ∧ c = 41) ∨ (o = 91 ∧ c = 93) ∨ (o = 123 ∧ c = 125)) : Bal (sg o :: (a ++ [sg c])) x := by
  have h1 := h.all; have h2 := h.curl; have h3 := h.each
  have key : ∀ b, cn b (sg o :: (a ++ [sg c])) = (if o = b then 1 else 0) + (cn b a + (if c = b then 1 else 0)) := fun b => by rw [cn_sg, cn_app, cn_sg, cn_nil]; simp
  rcases hp with ⟨rfl, rfl⟩ | ⟨rfl, rfl⟩ | ⟨rfl, rfl⟩ <;>
  · refine ⟨?_, ?_, fun e => ?_⟩
    · rw [key, key, key, key]; simp <;> omega
    · rw [key, key]; simp <;> omega
    · rw [key, key, key, key]; simp; have := h3 e; omega
theorem Bal.prt {m q : Nat} {e : Ex} (h : Bal (flat m e) (half e)) : Bal (prt m q (pt m e)) (half e) := by
  unfold Fp.prt
  split
  · exact h
  · exact h.pair (.inl ⟨rfl, rfl⟩)
theorem Bal.row {m : Nat} : ∀ {l : List Ex}, (∀ e ∈ l, Bal (flat m e) (half e)) → ∀ f, Bal (rowF m f (flatL m l)) (halfL l)
  | [], _, f => by rw [flatL, halfL]; exact Bal.none fun b _ => rfl
  | e :: l, h, f => by
    rw [flatL, halfL]
    exact Bal.zero (Bal.app (Bal.prt (h e (List.mem_cons_self ..))) (Bal.row (fun e he => h e (List.mem_cons_of_mem _ he)) false)) (fun c hc => cn_sep c hc f)
theorem colon_no : ∀ c ∈ brackets, (58 : UInt8) ≠ c := by decide
theorem Bal.ent {m : Nat} : ∀ {nm : List Nam} {l : List Ex}, nm.length = l.length → (∀ e ∈ l, Bal (flat m e) (half e)) → ∀ f, Bal (entF m f nm (flatL m l)) (halfL l)
  | [], [], _, _, f => by rw [flatL, halfL]; exact Bal.none fun b _ => rfl
  | [], _ :: _, hl, _, f => by simp at hl
  | _ :: _, [], hl, _, f => by simp at hl
  | n :: nm, e :: l, hl, h, f => by
    rw [flatL, halfL]
    have h1 := Bal.app (Bal.prt (q := 0) (h e (List.mem_cons_self ..))) (Bal.ent (nm := nm) (by simpa using hl) (fun e he => h e (List.mem_cons_of_mem _ he)) false)
    show Bal (sep f ++ (nmI n ++ (sg 58 :: .bl :: (Fp.prt m 0 (pt m e) ++ entF m false nm (flatL m l))))) _
    refine Bal.zero (Bal.zero (h1.same fun c hc => ?_) (fun c _ => cn_nm c n)) (fun c hc => cn_sep c hc f)
    rw [cn_sg, if_neg (colon_no c hc), cn_bl, Nat.zero_add]
theorem cn_nam (b : UInt8) (hb : b ∈ brackets) : ∀ (nm : List Nam) (f : Bool), cn b (namF f nm) = 0
  | [], f => rfl
  | n :: nm, f => by show cn b (sep f ++ (nmI n ++ namF false nm)) = 0; rw [cn_app, cn_app, cn_sep b hb, cn_nm, cn_nam b hb nm]
theorem half_eq (k : Int) (s : Nam) (nm : List Nam) (l : List Ex) : half (.mk k s nm l) = (if k = 18 ∧ (s = [91, 41] ∨ s = [40, 93]) then 1 else 0) + halfL l := by rw [half]
theorem own_eq (k : Int) (s : Nam) (nm : List Nam) (l : List Ex) : own (.mk k s nm l) = (if k = 10 ∨ k = 15 then 1 else if k = 18 ∧ s.head? = some 40 then 1 else 0) + ownL l := by rw [own]
theorem half_plain {k : Int} (hk : k ≠ 18) (s : Nam) (nm : List Nam) (l : List Ex) : half (.mk k s nm l) = halfL l := by rw [half_eq]; simp [hk]
theorem half1 (a : Ex) : halfL [a] = half a := by simp [halfL]
theorem half2 (a b : Ex) : halfL [a, b] = half a + half b := by simp [halfL]
theorem half3 (a b c : Ex) : halfL [a, b, c] = half a + (half b + half c) := by simp [halfL]
theorem Rt.bal {e : Ex} (h : Rt e) (m : Nat) : Bal (flat m e) (half e) := by
  have br : ∀ c ∈ brackets, (45 : UInt8) ≠ c ∧ (46 : UInt8) ≠ c := by decide
  induction h with
  | num h => rw [fl0, half_plain (by omega)]; exact Bal.none fun b hb => by rw [cn_tk]; simp [cn_nil]
  | str h => rw [fl1, half_plain (by omega)]; exact Bal.none fun b hb => by rw [cn_tk]; simp [cn_nil]
  | con h => rw [fl2, half_plain (by omega)]; exact Bal.none fun b hb => by rw [cn_ky, cn_nil]
  | name h => rw [fl3, half_plain (by omega)]; exact Bal.none fun b hb => cn_nm b _
  | neg ha na iha =>
    rw [fl4, half_plain (by omega), half1]
    exact (Bal.prt iha).same fun c hc => by rw [cn_sg, if_neg (br c hc).1, Nat.zero_add]
  | bin h ha hb na nb iha ihb =>
    rw [fl5, half_plain (by omega), half2]
    exact Bal.app (Bal.prt iha) ((Bal.prt ihb).same fun c hc => by rw [cn_bl, cn_op hc h, cn_bl])
  | btw ha hb hc na nb nc iha ihb ihc =>
    rw [fl6, half_plain (by omega), half3]
    refine Bal.app (Bal.prt iha) ((Bal.app (Bal.prt (q := 4) ihb) (Bal.prt (q := 4) ihc)).same fun c hc => ?_)
    rw [cn_bl, cn_ky, cn_bl, cn_app, cn_bl, cn_ky, cn_bl, cn_app]
  | inn ha hb na iha ihb =>
    rw [fl7, half_plain (by omega), half2]
    refine Bal.app (Bal.prt iha) ?_
    split
    · exact ihb.same fun c hc => by rw [cn_bl, cn_ky, cn_bl]
    · exact (Bal.prt (q := 4) ihb).same fun c hc => by rw [cn_bl, cn_ky, cn_bl]
  | path h ha na iha =>
    rw [fl8, half_plain (by omega), half1]
    exact Bal.last (Bal.prt iha) fun c hc => by rw [cn_sg, if_neg (br c hc).2, cn_nm]
  | filt ha hb na nb iha ihb =>
    rw [fl9, half_plain (by omega), half2]
    exact Bal.app (Bal.prt iha) ((Bal.prt ihb).pair (.inr (.inl ⟨rfl, rfl⟩)))
  | call ha hl na nl iha ihl =>
    rw [fl10, half_plain (by omega), halfL]
    exact Bal.app (Bal.prt iha) ((Bal.row ihl true).pair (.inl ⟨rfl, rfl⟩))
  | cond ha hb hc na nb nc iha ihb ihc =>
    rw [fl11, half_plain (by omega), half3]
    refine (Bal.app (Bal.prt (q := 0) iha) (Bal.app (Bal.prt (q := 0) ihb) (Bal.prt (q := 0) ihc))).same fun c hc => ?_
    rw [cn_ky, cn_bl, cn_app, cn_bl, cn_ky, cn_bl, cn_app, cn_bl, cn_ky, cn_bl, cn_app, cn_app]
  | bnd hk h ha hb na nb iha ihb =>
    rw [fl12 m hk, half_plain (by omega), half2]
    refine (Bal.app (Bal.prt (q := 0) iha) (Bal.prt (q := 0) ihb)).same fun c hc => ?_
    rw [cn_ky, cn_bl, cn_app, cn_nm, cn_bl, cn_ky, cn_bl, cn_app, cn_bl, cn_ky, cn_bl, cn_app, Nat.zero_add]
  | func h ha na iha =>
    rename_i nm a
    rw [fl15, half_plain (by omega), half1]
    have h1 : Bal (sg 40 :: (namF true nm ++ [sg 41])) 0 := (Bal.none fun c hc => cn_nam c hc nm true).pair (.inl ⟨rfl, rfl⟩)
    have h2 := Bal.app h1 (Bal.prt (q := 0) iha)
    rw [Nat.zero_add] at h2
    refine h2.same fun c hc => ?_
    rw [cn_ky, cn_sg, cn_app, cn_sg, cn_bl, cn_app, cn_sg, cn_app, cn_sg, cn_nil]
    omega
  | list hl nl ihl => rw [fl16, half_plain (by omega)]; exact (Bal.row ihl true).pair (.inr (.inl ⟨rfl, rfl⟩))
  | map h he hl nl ihl => rw [fl17, half_plain (by omega)]; exact (Bal.ent he ihl true).pair (.inr (.inr ⟨rfl, rfl⟩))
  | span h ha hb na nb iha ihb =>
    rename_i s a b
    rw [fl18, half_eq, half2]
    have hab := Bal.app (Bal.prt (q := 0) iha) (Bal.prt (q := 0) ihb)
    have h1 := hab.all; have h2 := hab.curl; have h3 := hab.each
    have key : ∀ c x y : UInt8, cn c (It.tk 4 [x] :: (Fp.prt m 0 (pt m a) ++ (It.tk 4 [46, 46] :: (Fp.prt m 0 (pt m b) ++ [It.tk 4 [y]])))) = (if x = c then 1 else 0) + (cn c (Fp.prt m 0 (pt m a) ++ Fp.prt m 0 (pt m b)) + (if y = c then 1 else 0)) := fun c x y => by
      rw [cn_tk, cn_app, cn_range, cn_app, cn_tk, cn_nil, cn_app]
      simp only [true_and, List.cons.injEq, and_true]
      omega
    have hs : s = [91, 93] ∨ s = [91, 41] ∨ s = [40, 93] ∨ s = [40, 41] := by simpa [spans] using h
    rcases hs with rfl | rfl | rfl | rfl <;>
    · simp only [List.take, List.drop]
      refine ⟨?_, ?_, fun e => ?_⟩
      · rw [key, key, key, key]; simp <;> omega
      · rw [key, key]; simp <;> omega
      · rw [key, key, key, key]; simp at e <;> (have := h3 (by omega); simp; omega)
  | test h ha na iha =>
    rw [fl19, half_plain (by omega), half1]
    exact (Bal.prt (q := 4) iha).same fun c hc => by rw [cn_test hc h, cn_bl]

/-! ### The bare text's -/
theorem levS_lt (s : Nam) : levS s ≤ 8 := by unfold levS; repeat' split
                                             all_goals omega
theorem lev_lt (k : Int) (s : Nam) : lev k s ≤ 8 := by have := levS_lt s; unfold lev; repeat' split
                                                       all_goals omega
theorem cn_bare {q : Nat} (e : Ex) : cn 40 (prt 9 q (pt 9 e)) = cn 40 (flat 9 e) + 1 := by
  unfold Fp.prt
  have := lev_lt e.kind e.s
  rw [if_neg (by simp only; omega), cn_sg, cn_app, cn_sg, cn_nil]; simp <;> omega
theorem own_row : ∀ {l : List Ex}, (∀ e ∈ l, cn 40 (flat 9 e) = own e) → (∀ e ∈ l, e.kind ≠ 19) → ∀ f, cn 40 (rowF 9 f (flatL 9 l)) = ownL l
  | [], _, _, f => by rw [flatL, ownL]; rfl
  | e :: l, h, n, f => by
    rw [flatL, ownL]
    show cn 40 (sep f ++ (prt 9 0 (pt 9 e) ++ rowF 9 false (flatL 9 l))) = _
    rw [cn_app, cn_app, cn_sep 40 (by decide), cn_bare, h e (List.mem_cons_self ..), own_row (fun e he => h e (List.mem_cons_of_mem _ he)) (fun e he => n e (List.mem_cons_of_mem _ he)), if_neg (n e (List.mem_cons_self ..))]
    omega
theorem own_ent : ∀ {nm : List Nam} {l : List Ex}, nm.length = l.length → (∀ e ∈ l, cn 40 (flat 9 e) = own e) → (∀ e ∈ l, e.kind ≠ 19) → ∀ f, cn 40 (entF 9 f nm (flatL 9 l)) = ownL l
  | [], [], _, _, _, f => by rw [flatL, ownL]; rfl
  | [], _ :: _, hl, _, _, f => by simp at hl
  | _ :: _, [], hl, _, _, f => by simp at hl
  | n :: nm, e :: l, hl, h, k, f => by
    rw [flatL, ownL]
    show cn 40 (sep f ++ (nmI n ++ (sg 58 :: .bl :: (prt 9 0 (pt 9 e) ++ entF 9 false nm (flatL 9 l))))) = _
    rw [cn_app, cn_app, cn_sep 40 (by decide), cn_nm, cn_sg, cn_bl, cn_app, cn_bare, h e (List.mem_cons_self ..), own_ent (by simpa using hl) (fun e he => h e (List.mem_cons_of_mem _ he)) (fun e he => k e (List.mem_cons_of_mem _ he)), if_neg (k e (List.mem_cons_self ..))]
    simp <;> omega
theorem own1 {a : Ex} (na : a.kind ≠ 19) : ownL [a] = own a + 1 := by simp [ownL, na]
theorem own2 {a b : Ex} (na : a.kind ≠ 19) (nb : b.kind ≠ 19) : ownL [a, b] = own a + own b + 2 := by simp [ownL, na, nb]; omega
theorem own3 {a b c : Ex} (na : a.kind ≠ 19) (nb : b.kind ≠ 19) (nc : c.kind ≠ 19) : ownL [a, b, c] = own a + own b + own c + 3 := by simp [ownL, na, nb, nc]; omega
theorem Rt.own {e : Ex} (h : Rt e) : cn 40 (flat 9 e) = own e := by
  have b40 : (40 : UInt8) ∈ brackets := by decide
  induction h with
  | num h => rw [fl0, own_eq, cn_tk, cn_nil]; simp [ownL]
  | str h => rw [fl1, own_eq, cn_tk, cn_nil]; simp [ownL]
  | con h => rw [fl2, own_eq, cn_ky, cn_nil]; simp [ownL]
  | name h => rw [fl3, own_eq, cn_nm]; simp [ownL]
  | neg ha na iha => rw [fl4, own_eq, own1 na, cn_sg, cn_bare, iha]; simp
  | bin h ha hb na nb iha ihb => rw [fl5, own_eq, own2 na nb, cn_app, cn_bl, cn_op b40 h, cn_bl, cn_bare, cn_bare, iha, ihb]; simp <;> omega
  | btw ha hb hc na nb nc iha ihb ihc => rw [fl6, own_eq, own3 na nb nc, cn_app, cn_bl, cn_ky, cn_bl, cn_app, cn_bl, cn_ky, cn_bl, cn_bare, cn_bare, cn_bare, iha, ihb, ihc]; simp <;> omega
  | inn ha hb na iha ihb =>
    rename_i a b
    rw [fl7, own_eq, cn_app, cn_bl, cn_ky, cn_bl, cn_bare, iha]
    by_cases c : b.kind = 19
    · rw [if_pos c, ihb]; simp [ownL, na, c] <;> omega
    · rw [if_neg c, cn_bare, ihb]; simp [ownL, na, c] <;> omega
  | path h ha na iha => rw [fl8, own_eq, own1 na, cn_app, cn_bare, iha, cn_sg, cn_nm]; simp
  | filt ha hb na nb iha ihb => rw [fl9, own_eq, own2 na nb, cn_app, cn_sg, cn_app, cn_sg, cn_nil, cn_bare, cn_bare, iha, ihb]; simp <;> omega
  | call ha hl na nl iha ihl => rw [fl10, own_eq, ownL, if_neg na, cn_app, cn_sg, cn_app, cn_sg, cn_nil, cn_bare, own_row ihl nl, iha]; simp <;> omega
  | cond ha hb hc na nb nc iha ihb ihc => rw [fl11, own_eq, own3 na nb nc, cn_ky, cn_bl, cn_app, cn_bl, cn_ky, cn_bl, cn_app, cn_bl, cn_ky, cn_bl, cn_bare, cn_bare, cn_bare, iha, ihb, ihc]; simp <;> omega
  | bnd hk h ha hb na nb iha ihb =>
    rw [fl12 9 hk, own_eq, own2 na nb, cn_ky, cn_bl, cn_app, cn_nm, cn_bl, cn_ky, cn_bl, cn_app, cn_bl, cn_ky, cn_bl, cn_bare, cn_bare, iha, ihb]
    rcases hk with rfl | rfl | rfl <;> (simp <;> omega)
  | func h ha na iha => rw [fl15, own_eq, own1 na, cn_ky, cn_sg, cn_app, cn_nam 40 b40, cn_sg, cn_bl, cn_bare, iha]; simp <;> omega
  | list hl nl ihl => rw [fl16, own_eq, cn_sg, cn_app, cn_sg, cn_nil, own_row ihl nl]; simp
  | map h he hl nl ihl => rw [fl17, own_eq, cn_sg, cn_app, cn_sg, cn_nil, own_ent he ihl nl]; simp
  | span h ha hb na nb iha ihb =>
    rename_i s a b
    rw [fl18, own_eq, own2 na nb, cn_tk, cn_app, cn_range, cn_app, cn_tk, cn_nil, cn_bare, cn_bare, iha, ihb]
    have hs : s = [91, 93] ∨ s = [91, 41] ∨ s = [40, 93] ∨ s = [40, 41] := by simpa [spans] using h
    rcases hs with rfl | rfl | rfl | rfl <;> (simp <;> omega)
  | test h ha na iha => rw [fl19, own_eq, own1 na, cn_test b40 h, cn_bl, cn_bare, iha]; simp

/-! ### Parts in their order -/
/-- Texts stand in a text, one behind the other. -/
inductive InO : List (List UInt8) → List UInt8 → Prop
  | nil (s : List UInt8) : InO [] s
  | cons (a : List UInt8) {t : List UInt8} {ts : List (List UInt8)} {r : List UInt8} (h : InO ts r) : InO (t :: ts) (a ++ (t ++ r))
theorem InO.more (a : List UInt8) {ts : List (List UInt8)} {s : List UInt8} (h : InO ts s) : InO ts (a ++ s) := by
  cases h with
  | nil => exact .nil _
  | cons b h => rw [← List.append_assoc]; exact .cons _ h
theorem InO.it (i : It) {ts : List (List UInt8)} {r : List It} {s : List UInt8} (h : InO ts (txtL r ++ s)) : InO ts (txtL (i :: r) ++ s) := by
  show InO ts (i.txt ++ txtL r ++ s)
  rw [List.append_assoc]; exact h.more _
theorem InO.its (b : List It) {ts : List (List UInt8)} {r : List It} {s : List UInt8} (h : InO ts (txtL r ++ s)) : InO ts (txtL (b ++ r) ++ s) := by
  rw [txtL_app, List.append_assoc]; exact h.more _
theorem InO.prt {m q : Nat} {e : Ex} {ts : List (List UInt8)} {r : List It} {s : List UInt8} (h : InO ts (txtL r ++ s)) : InO (prV m e :: ts) (txtL (Fp.prt m q (pt m e) ++ r) ++ s) := by
  unfold Fp.prt prV
  split
  · rw [txtL_app, List.append_assoc]
    exact .cons [] h
  · show InO _ ([40] ++ txtL ((flat m e ++ [sg 41]) ++ r) ++ s)
    rw [txtL_app, txtL_app, List.append_assoc, List.append_assoc, List.append_assoc]
    exact .cons _ (h.more _)
theorem InO.end {m q : Nat} {e : Ex} {s : List UInt8} : InO [prV m e] (txtL (Fp.prt m q (pt m e)) ++ s) := by
  have := InO.prt (m := m) (q := q) (e := e) (r := []) (s := s) (InO.nil _)
  rw [List.append_nil] at this
  exact this
theorem InO.row {m : Nat} : ∀ {l : List Ex} (f : Bool) (s : List UInt8), InO (l.map (prV m)) (txtL (rowF m f (flatL m l)) ++ s)
  | [], f, s => .nil _
  | e :: l, f, s => by rw [flatL]; exact InO.its (sep f) (InO.prt (InO.row false s))
theorem InO.ent {m : Nat} : ∀ {nm : List Nam} {l : List Ex}, nm.length = l.length → ∀ (f : Bool) (s : List UInt8), InO (l.map (prV m)) (txtL (entF m f nm (flatL m l)) ++ s)
  | [], [], _, f, s => .nil _
  | [], _ :: _, hl, f, s => by simp at hl
  | _ :: _, [], hl, f, s => by simp at hl
  | n :: nm, e :: l, hl, f, s => by rw [flatL]; exact InO.its (sep f) (InO.its (nmI n) (InO.it _ (InO.it _ (InO.prt (InO.ent (by simpa using hl) false s)))))
theorem Rt.order {e : Ex} (h : Rt e) (m : Nat) : ∀ s, InO (e.l.map (prV m)) (prV m e ++ s) := by
  intro s
  unfold prV
  cases h with
  | num h => exact .nil _
  | str h => exact .nil _
  | con h => exact .nil _
  | name h => exact .nil _
  | neg ha na => rw [fl4]; exact InO.it _ InO.end
  | bin h ha hb na nb => rw [fl5]; exact InO.prt (InO.it _ (InO.it _ (InO.it _ InO.end)))
  | btw ha hb hc na nb nc => rw [fl6]; exact InO.prt (InO.it _ (InO.it _ (InO.it _ (InO.prt (InO.it _ (InO.it _ (InO.it _ InO.end)))))))
  | inn ha hb na =>
    rw [fl7]
    refine InO.prt (InO.it _ (InO.it _ (InO.it _ ?_)))
    split
    · exact .cons [] (.nil s)
    · exact InO.end
  | path h ha na => rw [fl8]; exact InO.prt (.nil _)
  | filt ha hb na nb => rw [fl9]; exact InO.prt (InO.it _ (InO.prt (.nil _)))
  | call ha hl na nl =>
    rw [fl10]
    refine InO.prt (InO.it _ ?_)
    rw [txtL_app, List.append_assoc]; exact InO.row true _
  | cond ha hb hc na nb nc => rw [fl11]; exact InO.it _ (InO.it _ (InO.prt (InO.it _ (InO.it _ (InO.it _ (InO.prt (InO.it _ (InO.it _ (InO.it _ InO.end)))))))))
  | bnd hk h ha hb na nb => rw [fl12 m hk]; exact InO.it _ (InO.it _ (InO.its _ (InO.it _ (InO.it _ (InO.it _ (InO.prt (InO.it _ (InO.it _ (InO.it _ InO.end)))))))))
  | func h ha na => rw [fl15]; exact InO.it _ (InO.it _ (InO.its _ (InO.it _ (InO.it _ InO.end))))
  | list hl nl =>
    rw [fl16]
    refine InO.it _ ?_
    rw [txtL_app, List.append_assoc]; exact InO.row true _
  | map h he hl nl =>
    rw [fl17]
    refine InO.it _ ?_
    rw [txtL_app, List.append_assoc]; exact InO.ent he true _
  | span h ha hb na nb => rw [fl18]; exact InO.it _ (InO.prt (InO.it _ (InO.prt (.nil _))))
  | test h ha na => rw [fl19]; exact InO.it _ (InO.it _ InO.end)
/-- The first place at which a text stands serves. -/
theorem InO.first {t : List UInt8} {ts : List (List UInt8)} {s : List UInt8} (h : InO (t :: ts) s) : ∃ a r, s = a ++ (t ++ r) ∧ InO ts r := by
  cases h with
  | cons a h => exact ⟨a, _, rfl, h⟩
theorem InO.drop {ts : List (List UInt8)} {s : List UInt8} {i j : Nat} (h : InO ts (s.drop j)) (hij : i ≤ j) : InO ts (s.drop i) := by
  obtain ⟨d, rfl⟩ : ∃ d, j = i + d := ⟨j - i, by omega⟩
  rw [← List.drop_drop] at h
  have := h.more ((s.drop i).take d)
  rwa [List.take_append_drop] at this

/-! ### How long a text is -/
/-- A text is short, if the expression is. -/
def lng (l : List It) : Nat := (txtL l).length
theorem lng_app (a b : List It) : lng (a ++ b) = lng a + lng b := by unfold lng; rw [txtL_app, List.length_append]
theorem lng_cons (i : It) (b : List It) : lng (i :: b) = i.txt.length + lng b := by unfold lng; show (i.txt ++ txtL b).length = _; rw [List.length_append]
theorem lng_nm (s : Nam) : lng (nmI s) = s.length := by unfold lng; rw [nmI_txt]
theorem lng_nil : lng [] = 0 := rfl
theorem lng_prt (m q : Nat) (e : Ex) : lng (prt m q (pt m e)) ≤ lng (flat m e) + 2 := by
  unfold Fp.prt
  split
  · exact Nat.le_add_right _ _
  · rw [lng_cons, lng_app, lng_cons, lng_nil]; simp [sg, It.txt]; omega
theorem lng_sep (f : Bool) : lng (sep f) ≤ 2 := by cases f <;> decide
theorem lng_part (m q : Nat) (e : Ex) (h : lng (flat m e) + 4 ≤ 2 * e.wgt lets + 28 * e.size) : lng (prt m q (pt m e)) + 2 ≤ 2 * e.wgt lets + 28 * e.size := by
  have := lng_prt m q e; omega
theorem lng_row (m : Nat) : ∀ (l : List Ex) (f : Bool), (∀ e ∈ l, lng (flat m e) + 4 ≤ 2 * e.wgt lets + 28 * e.size) → lng (rowF m f (flatL m l)) ≤ 2 * wgtL lets l + 28 * sizeL l
  | [], f, _ => by rw [flatL]; exact Nat.zero_le _
  | e :: l, f, h => by
    rw [flatL, wgtL, sizeL]
    show lng (sep f ++ (prt m 0 (pt m e) ++ rowF m false (flatL m l))) ≤ _
    rw [lng_app, lng_app]
    have := lng_sep f; have := lng_part m 0 e (h e (List.mem_cons_self ..))
    have := lng_row m l false (fun e he => h e (List.mem_cons_of_mem _ he))
    omega
theorem lng_sg (b : UInt8) (r : List It) : lng (sg b :: r) = 1 + lng r := by rw [lng_cons]; rfl
theorem lng_bl (r : List It) : lng (.bl :: r) = 1 + lng r := by rw [lng_cons]; rfl
theorem lng_ky (s : Nam) (r : List It) : lng (ky s :: r) = s.length + lng r := by rw [lng_cons]; rfl
theorem lng_t4 (s : Nam) (r : List It) : lng (.tk 4 s :: r) = s.length + lng r := by rw [lng_cons]; rfl
theorem lng_op (s : Nam) (r : List It) : lng (opI s :: r) = s.length + lng r := by
  rw [lng_cons]
  unfold opI
  split <;> rfl
theorem lng_ent (m : Nat) : ∀ (nm : List Nam) (l : List Ex) (f : Bool), (∀ e ∈ l, lng (flat m e) + 4 ≤ 2 * e.wgt lets + 28 * e.size) → lng (entF m f nm (flatL m l)) ≤ 2 * wgtL lets l + 28 * sizeL l + 2 * namesMass nm
  | [], l, f, _ => by rw [ent_none _ _ _ _ (.inl rfl), lng_nil]; exact Nat.zero_le _
  | n :: nm, [], f, _ => by rw [flatL, ent_none _ _ _ _ (.inr rfl), lng_nil]; exact Nat.zero_le _
  | n :: nm, e :: l, f, h => by
    rw [flatL, wgtL, sizeL, namesMass_cons]
    show lng (sep f ++ (nmI n ++ (sg 58 :: .bl :: (prt m 0 (pt m e) ++ entF m false nm (flatL m l))))) ≤ _
    rw [lng_app, lng_app, lng_nm, lng_sg, lng_bl, lng_app]
    have := lng_sep f; have := lng_part m 0 e (h e (List.mem_cons_self ..))
    have := lng_ent m nm l false (fun e he => h e (List.mem_cons_of_mem _ he))
    omega
theorem lng_nam : ∀ (nm : List Nam) (f : Bool), lng (namF f nm) ≤ 2 * namesMass nm
  | [], f => Nat.zero_le _
  | n :: nm, f => by
    show lng (sep f ++ (nmI n ++ namF false nm)) ≤ _
    rw [lng_app, lng_app, lng_nm, namesMass_cons]
    have := lng_sep f; have := lng_nam nm false
    omega
theorem wgt_mk (k : Int) (s : Nam) (nm : List Nam) (l : List Ex) : (Ex.mk k s nm l).wgt lets = s.length + namesMass nm + wgtL lets l := by rw [Ex.wgt]; rfl
theorem size_mk (k : Int) (s : Nam) (nm : List Nam) (l : List Ex) : (Ex.mk k s nm l).size = 1 + sizeL l := by rw [Ex.size]
theorem wgt1 (a : Ex) : wgtL lets [a] = a.wgt lets ∧ sizeL [a] = a.size := by simp [wgtL, sizeL]
theorem wgt2 (a b : Ex) : wgtL lets [a, b] = a.wgt lets + b.wgt lets ∧ sizeL [a, b] = a.size + b.size := by simp [wgtL, sizeL]
theorem wgt3 (a b c : Ex) : wgtL lets [a, b, c] = a.wgt lets + (b.wgt lets + c.wgt lets) ∧ sizeL [a, b, c] = a.size + (b.size + c.size) := by simp [wgtL, sizeL]
theorem bins_len : ∀ s ∈ bins, s.length ≤ 3 := by decide
theorem bnd_len (k : Int) : (bndA k).length ≤ 5 ∧ (bndB k).length ≤ 9 := by
  unfold bndA bndB
  repeat' split
  all_goals decide
theorem Rt.lng {e : Ex} (h : Rt e) (m : Nat) : lng (flat m e) + 4 ≤ 2 * e.wgt lets + 28 * e.size := by
  have kl : kIf.length = 2 ∧ kThen.length = 4 ∧ kElse.length = 4 ∧ kIn.length = 2 ∧ kFun.length = 8 ∧ kBetween.length = 7 ∧ kAnd.length = 3 := by decide
  obtain ⟨q1, q2, q3, q4, q5, q6, q7⟩ := kl
  have n0 : namesMass [] = 0 := rfl
  have w0 : wgtL lets [] = 0 ∧ sizeL [] = 0 := by simp [wgtL, sizeL]
  induction h with
  | num h => rw [fl0, wgt_mk, size_mk, w0.1, w0.2, lng_cons, lng_nil]; simp [It.txt]; omega
  | str h =>
    rw [fl1, wgt_mk, size_mk, w0.1, w0.2, lng_cons, lng_nil]
    show (quote _).length + 0 + 4 ≤ _
    rename_i s
    rw [quote_len]; have := qs_len s; simp <;> omega
  | con h => rw [fl2, wgt_mk, size_mk, w0.1, w0.2, lng_ky, lng_nil]; simp <;> omega
  | name h => rw [fl3, wgt_mk, size_mk, w0.1, w0.2, lng_nm]; simp <;> omega
  | neg ha na iha =>
    rename_i a
    rw [fl4, wgt_mk, size_mk, (wgt1 a).1, (wgt1 a).2, lng_sg]
    have := lng_part m 7 a iha; simp <;> omega
  | bin h ha hb na nb iha ihb =>
    rename_i s a b
    rw [fl5, wgt_mk, size_mk, (wgt2 a b).1, (wgt2 a b).2, lng_app, lng_bl, lng_op, lng_bl]
    have := lng_part m (sideA s) a iha; have := lng_part m (sideB s) b ihb; have := bins_len s h; simp <;> omega
  | btw ha hb hc na nb nc iha ihb ihc =>
    rename_i a b c
    rw [fl6, wgt_mk, size_mk, (wgt3 a b c).1, (wgt3 a b c).2, lng_app, lng_bl, lng_ky, lng_bl, lng_app, lng_bl, lng_ky, lng_bl]
    have := lng_part m 4 a iha; have := lng_part m 4 b ihb; have := lng_part m 4 c ihc; simp <;> omega
  | inn ha hb na iha ihb =>
    rename_i a b
    rw [fl7, wgt_mk, size_mk, (wgt2 a b).1, (wgt2 a b).2, lng_app, lng_bl, lng_ky, lng_bl]
    have := lng_part m 4 a iha; have := lng_part m 4 b ihb
    split
    · simp; omega
    · simp; omega
  | path h ha na iha =>
    rename_i s a
    rw [fl8, wgt_mk, size_mk, (wgt1 a).1, (wgt1 a).2, lng_app, lng_sg, lng_nm]
    have := lng_part m 8 a iha; simp <;> omega
  | filt ha hb na nb iha ihb =>
    rename_i a b
    rw [fl9, wgt_mk, size_mk, (wgt2 a b).1, (wgt2 a b).2, lng_app, lng_sg, lng_app, lng_sg, lng_nil]
    have := lng_part m 8 a iha; have := lng_part m 0 b ihb; simp <;> omega
  | call ha hl na nl iha ihl =>
    rename_i a l
    rw [fl10, wgt_mk, size_mk, wgtL, sizeL, lng_app, lng_sg, lng_app, lng_sg, lng_nil]
    have := lng_part m 8 a iha; have := lng_row m l true ihl; simp <;> omega
  | cond ha hb hc na nb nc iha ihb ihc =>
    rename_i a b c
    rw [fl11, wgt_mk, size_mk, (wgt3 a b c).1, (wgt3 a b c).2, lng_ky, lng_bl, lng_app, lng_bl, lng_ky, lng_bl, lng_app, lng_bl, lng_ky, lng_bl]
    have := lng_part m 0 a iha; have := lng_part m 0 b ihb; have := lng_part m 0 c ihc; simp <;> omega
  | bnd hk h ha hb na nb iha ihb =>
    rename_i k s a b
    rw [fl12 m hk, wgt_mk, size_mk, (wgt2 a b).1, (wgt2 a b).2, lng_ky, lng_bl, lng_app, lng_nm, lng_bl, lng_ky, lng_bl, lng_app, lng_bl, lng_ky, lng_bl]
    have := lng_part m 0 a iha; have := lng_part m 0 b ihb; have := bnd_len k; simp <;> omega
  | func h ha na iha =>
    rename_i nm a
    rw [fl15, wgt_mk, size_mk, (wgt1 a).1, (wgt1 a).2, lng_ky, lng_sg, lng_app, lng_sg, lng_bl]
    have := lng_part m 0 a iha; have := lng_nam nm true; simp <;> omega
  | list hl nl ihl =>
    rename_i l
    rw [fl16, wgt_mk, size_mk, lng_sg, lng_app, lng_sg, lng_nil]
    have := lng_row m l true ihl; simp <;> omega
  | map h he hl nl ihl =>
    rename_i nm l
    rw [fl17, wgt_mk, size_mk, lng_sg, lng_app, lng_sg, lng_nil]
    have := lng_ent m nm l true ihl; simp <;> omega
  | span h ha hb na nb iha ihb =>
    rename_i s a b
    rw [fl18, wgt_mk, size_mk, (wgt2 a b).1, (wgt2 a b).2, lng_t4, lng_app, lng_t4, lng_app, lng_t4, lng_nil]
    have := lng_part m 0 a iha; have := lng_part m 0 b ihb
    obtain ⟨c, d, rfl, _⟩ := spans_facts s h
    simp <;> omega
  | test h ha na iha =>
    rename_i s a
    rw [fl19, wgt_mk, size_mk, (wgt1 a).1, (wgt1 a).2, lng_t4, lng_bl]
    have := lng_part m 4 a iha; simp <;> omega

theorem Rt.pos {e : Ex} (h : Rt e) (m : Nat) : 1 ≤ Fp.lng (flat m e) := by
  cases h with
  | num h =>
    rename_i s
    rw [fl0, lng_cons]; have := List.length_pos_iff.2 h.num.1; have e : (It.tk 2 s).txt.length = s.length := rfl; omega
  | str h =>
    rename_i s
    rw [fl1, lng_cons]; have := quote_len s; show 1 ≤ (quote s).length + _; omega
  | con h =>
    have hc : ∀ s ∈ consts, 1 ≤ s.length := by decide
    have := hc _ h
    rw [fl2, lng_ky]; omega
  | name h =>
    rw [fl3, lng_nm]
    obtain ⟨w, r, e1, hw⟩ := right_head h []
    have := congrArg List.length e1
    have h2 := List.length_pos_iff.2 (wordy_ne (word_wordy hw))
    simp only [List.append_nil, List.length_append] at this
    omega
  | neg ha na => rw [fl4, lng_sg]; omega
  | bin h ha hb na nb => rw [fl5, lng_app, lng_bl]; omega
  | btw ha hb hc na nb nc => rw [fl6, lng_app, lng_bl]; omega
  | inn ha hb na => rw [fl7, lng_app, lng_bl]; omega
  | path h ha na => rw [fl8, lng_app, lng_sg]; omega
  | filt ha hb na nb => rw [fl9, lng_app, lng_sg]; omega
  | call ha hl na nl => rw [fl10, lng_app, lng_sg]; omega
  | cond ha hb hc na nb nc => rw [fl11, lng_ky, lng_bl]; omega
  | bnd hk h ha hb na nb => rw [fl12 m hk, lng_ky, lng_bl]; omega
  | func h ha na => rw [fl15, lng_ky, lng_sg]; omega
  | list hl nl => rw [fl16, lng_sg]; omega
  | map h he hl nl => rw [fl17, lng_sg]; omega
  | span h ha hb na nb =>
    obtain ⟨c, d, rfl, _⟩ := spans_facts _ h
    rw [fl18, lng_t4]; simp
  | test h ha na => rw [fl19, lng_t4, lng_bl]; omega
theorem Rt.small {e : Ex} (h : Rt e) (m : Nat) (hm : e.mass ≤ 70000) : Fp.lng (flat m e) ≤ 2000000 := by
  have h1 := h.lng m
  have h2 := wgt_mass e
  omega

/-! ### Two signs between three numbers -/
end Go.Proofs.YtkmdclfkmmlloaaGreatDoor.Fp
namespace Go.Proofs.YtkmdclfkmmlloaaGreatDoor.Fp
open Go Go.Proofs.YtkmdclfkmmlloaaGreatDoor Go.Proofs.YtkmdclfkmmlloaaGreatDoor.Xp Go.RowKit
set_option maxRecDepth 100000

theorem bd1 (w : World) : Below w.heap.size w w.drew := ⟨rfl, rfl, rfl, Nat.le_refl _, fun _ _ => rfl⟩
/-- The writer's room. -/
structure Rm where
  W0 : World
  C : Nat
  b : Nat
  m : Nat
abbrev Rm.B (R : Rm) : Nat := R.W0.heap.size
abbrev Rm.wr (R : Rm) (l : List UInt8) (w : World) : Prop := Wr R.W0 R.B R.C R.b R.m l w
abbrev Rm.ptr (R : Rm) : Value := .pointer (some ⟨R.b, 0, none⟩)
/-- What a call writes, at an expression's place. -/
def Writes (R : Rm) (f : FuncId) (args : Array Value) (its : List It) : Prop :=
  ∀ (l : List UInt8) (w : World), R.wr l w → l.length + lng its ≤ 2000000 → Calls Tryz.prog f args w fun r w' => r = .returned (.tuple #[]) ∧ R.wr (l ++ txtL its) w'
def Whole (R : Rm) (e : Ex) (xb xo : Nat) : Prop := Writes R 33 #[R.ptr, .pointer (some ⟨xb, xo, none⟩)] (flat R.m e)
def Part (R : Rm) (e : Ex) (xb xo q : Nat) : Prop := Writes R 106 #[R.ptr, .pointer (some ⟨xb, xo, none⟩), .int .i64 q] (prt R.m q (pt R.m e))
theorem put_its (R : Rm) (its : List It) (x : List UInt8) (hx : txtL its = x) : Writes R 104 #[R.ptr, .string (text x)] its := by
  intro l w h hl
  have := put_any l x w h (by unfold lng at hl; rw [hx] at hl; omega)
  rw [hx]
  exact this
set_option maxHeartbeats 8000000 in
theorem part_any (R : Rm) (e : Ex) (he : Leveled e) (xb xo q : Nat) (nv pv : Value) (hx : ExAt R.W0 xb xo e nv pv) (hw : Whole R e xb xo) (hq : q ≤ 9) (hm : R.m ≤ 9) : Part R e xb xo q := by
  intro l w h hl
  have hlv := lev_lt e.kind e.s
  obtain ⟨c0, c1, c2, c3, _⟩ := hx.later h.old
  have LV := hid (fun W => Level_any e he nv pv W)
  have HS := hid (show ∀ X, Below w.heap.size w X → (Below w.heap.size w X ∧ X.cell? ⟨xb, xo, none⟩ = some (.int .i64 e.kind) ∧ X.cell? ⟨xb, xo + 1, none⟩ = some (.string (text e.s)) ∧ X.cell? ⟨xb, xo + 2, none⟩ = some nv ∧ X.cell? ⟨xb, xo + 3, none⟩ = some pv ∧ X.cell? ⟨R.b, 2, none⟩ = some (.int .i64 R.m)) from fun X hX => by
    obtain ⟨c0, c1, c2, c3, _⟩ := hx.later (h.later hX).old
    exact ⟨hX, c0, c1, c2, c3, (h.later hX).least⟩)
  have HS0 := HS.out w.drew (bd1 w)
  have HW := hid hw
  have HR := hid h
  unfold exV at LV
  have P40 := hid (put_its R [sg 40] [40] rfl)
  have P41 := hid (put_its R [sg 41] [41] rfl)
  have HT : Hid (prt R.m q (pt R.m e) = if max q R.m ≤ lev e.kind e.s then flat R.m e else sg 40 :: (flat R.m e ++ [sg 41])) := hid rfl
  generalize lev e.kind e.s = n at *
  have hmx : max (q : Int) (R.m : Int) = ((max q R.m : Nat) : Int) := by omega
  clear hx he c0 c1 c2 c3 h hw
  by_cases c : max q R.m ≤ n
  · have ci : max (q : Int) (R.m : Int) ≤ (n : Int) := by omega
    have HE := hid (HT.out.trans (if_pos c))
    rw [HE.out] at hl
    have HL := hid hl
    clear hmx c hl hlv hq hm
    go_enter Tryz.func106, Tryz.ntmps106
    go_wp2_with fail
    go_region_held3 (fun X => (Below w.heap.size w X ∧ X.cell? ⟨xb, xo, none⟩ = some (.int .i64 e.kind) ∧ X.cell? ⟨xb, xo + 1, none⟩ = some (.string (text e.s)) ∧ X.cell? ⟨xb, xo + 2, none⟩ = some nv ∧ X.cell? ⟨xb, xo + 3, none⟩ = some pv ∧ X.cell? ⟨R.b, 2, none⟩ = some (.int .i64 R.m))) (first | exact HSx | exact HS0) (first
        | (go_at_call 137
           with_reducible refine (LV.out _).mono ?_
           rintro ev wx ⟨rfl, hb⟩
           first | have HSx := HS.out _ (bt HSx.1 hb) | have HSx := HS.out _ (bt HS0.1 hb)))
    all_goals
      have HR2 := hid (HR.out.later HSx.1)
      clear HSx hb
      go_wp2_with fail
      refine (HW.out l _ HR2.out HL.out).mono ?_
      rintro r w2 ⟨rfl, h2⟩
      have H2 := hid h2
      clear h2
      go_wp2
      refine bodyPost_ret (results_none rfl _ _ _) rfl ?_
      exact ⟨rfl, by rw [HE.out]; exact H2.out⟩
  · have ci : ¬ max (q : Int) (R.m : Int) ≤ (n : Int) := by omega
    have HE := hid (HT.out.trans (if_neg c))
    rw [HE.out, lng_sg, lng_app, lng_sg, lng_nil] at hl
    have HL := hid hl
    clear hmx c hl hlv hq hm
    go_enter Tryz.func106, Tryz.ntmps106
    go_wp2_with fail
    go_region_held3 (fun X => (Below w.heap.size w X ∧ X.cell? ⟨xb, xo, none⟩ = some (.int .i64 e.kind) ∧ X.cell? ⟨xb, xo + 1, none⟩ = some (.string (text e.s)) ∧ X.cell? ⟨xb, xo + 2, none⟩ = some nv ∧ X.cell? ⟨xb, xo + 3, none⟩ = some pv ∧ X.cell? ⟨R.b, 2, none⟩ = some (.int .i64 R.m))) (first | exact HSx | exact HS0) (first
        | (go_at_call 137
           with_reducible refine (LV.out _).mono ?_
           rintro ev wx ⟨rfl, hb⟩
           first | have HSx := HS.out _ (bt HSx.1 hb) | have HSx := HS.out _ (bt HS0.1 hb)))
    all_goals
      have HR2 := hid (HR.out.later HSx.1)
      clear HSx hb
      go_wp2_with fail
      refine (P40.out l _ HR2.out (by have := HL.out; rw [lng_sg, lng_nil]; omega)).mono ?_
      rintro r w2 ⟨rfl, h2⟩
      have H2 := hid h2
      clear h2
      go_wp2_with fail
      refine (HW.out _ _ H2.out (by have := HL.out; rw [List.length_append]; show l.length + 1 + _ ≤ _; omega)).mono ?_
      rintro r w3 ⟨rfl, h3⟩
      have H3 := hid h3
      clear h3
      go_wp2_with fail
      refine (P41.out _ _ H3.out (by have := HL.out; rw [List.length_append, List.length_append, lng_sg, lng_nil]; show l.length + 1 + lng _ + 1 ≤ _; omega)).mono ?_
      rintro r w4 ⟨rfl, h4⟩
      have H4 := hid h4
      clear h4
      go_wp2
      go_end0
      exact ⟨rfl, by
        have := H4.out
        rw [HE.out, show sg 40 :: (flat R.m e ++ [sg 41]) = [sg 40] ++ flat R.m e ++ [sg 41] by simp, txtL_app, txtL_app, ← List.append_assoc, ← List.append_assoc]
        exact this⟩
end Go.Proofs.YtkmdclfkmmlloaaGreatDoor.Fp
namespace Go.Proofs.YtkmdclfkmmlloaaGreatDoor.Fp
open Go Go.Proofs.YtkmdclfkmmlloaaGreatDoor Go.Proofs.YtkmdclfkmmlloaaGreatDoor.Xp Go.RowKit
set_option maxRecDepth 100000

theorem lng_def (x : List It) : lng x = (txtL x).length := rfl
/-- All parts can be written. -/
def Kids (R : Rm) (l : List Ex) : Prop := ∀ p ∈ l, Leveled p ∧ ∀ xb xo nv pv, ExAt R.W0 xb xo p nv pv → Whole R p xb xo
theorem kid {R : Rm} {l : List Ex} (hk : Kids R l) {pv : Value} (hv : Exs R.W0 pv l) (hm : R.m ≤ 9) (i : Nat) (hi : i < l.length) (z : Int) (hz : z = i) :
    ∃ b o, (∀ k W, (Instr.indexAt 23 pv (.int k z)).run Tryz.prog W = .ok (.pointer (some ⟨b, o, none⟩)) W) ∧ (∀ q, q ≤ 9 → Part R l[i] b o q) ∧ Whole R l[i] b o ∧ ∀ w, Below R.B R.W0 w → w.cell? ⟨b, o, none⟩ = some (.int .i64 l[i].kind) := by
  subst hz
  obtain ⟨b, o, nv, qv, h1, h2⟩ := hv.at i hi
  obtain ⟨h3, h4⟩ := hk _ (List.getElem_mem hi)
  exact ⟨b, o, h1, fun q hq => part_any R _ h3 b o q nv qv h2 (h4 _ _ _ _ h2) hq hm, h4 _ _ _ _ h2, fun w hw => (h2.later hw).c0⟩
theorem sum3 (A B : Array UInt8) (s : List UInt8) (h : s.length ≤ 2000000000) (hA : A.size ≤ 1000) (hB : B.size ≤ 1000) :
    ∃ q0 q1, (⟨A⟩ : ByteArray) ++ text s = text q0 ∧ (⟨A⟩ : ByteArray).size + (text s).size ≤ 9223372036854775807 ∧ text q0 ++ (⟨B⟩ : ByteArray) = text q1 ∧ (text q0).size + (⟨B⟩ : ByteArray).size ≤ 9223372036854775807 ∧ q1 = A.toList ++ (s ++ B.toList) := by
  have eA : (⟨A⟩ : ByteArray) = text A.toList := by simp [text]
  have eB : (⟨B⟩ : ByteArray) = text B.toList := by simp [text]
  refine ⟨A.toList ++ s, A.toList ++ (s ++ B.toList), by rw [eA, Names.text_append], ?_, by rw [eB, Names.text_append, List.append_assoc], ?_, rfl⟩
  · have hA' : A.toList.length = A.size := rfl
    rw [eA, text_size, text_size]; omega
  · have hA' : A.toList.length = A.size := rfl
    have hB' : B.toList.length = B.size := rfl
    rw [eB, text_size, text_size, List.length_append]; omega
theorem sumL (A : Array UInt8) (s : List UInt8) (h : s.length ≤ 2000000000) (hA : A.size ≤ 1000) :
    ∃ q0, (⟨A⟩ : ByteArray) ++ text s = text q0 ∧ (⟨A⟩ : ByteArray).size + (text s).size ≤ 9223372036854775807 ∧ q0 = A.toList ++ s := by
  have eA : (⟨A⟩ : ByteArray) = text A.toList := by simp [text]
  refine ⟨A.toList ++ s, by rw [eA, Names.text_append], ?_, rfl⟩
  have hA' : A.toList.length = A.size := rfl
  rw [eA, text_size, text_size]; omega
theorem sumR (B : Array UInt8) (s : List UInt8) (h : s.length ≤ 2000000000) (hB : B.size ≤ 1000) :
    ∃ q0, text s ++ (⟨B⟩ : ByteArray) = text q0 ∧ (text s).size + (⟨B⟩ : ByteArray).size ≤ 9223372036854775807 ∧ q0 = s ++ B.toList := by
  have eB : (⟨B⟩ : ByteArray) = text B.toList := by simp [text]
  refine ⟨s ++ B.toList, by rw [eB, Names.text_append], ?_, rfl⟩
  have hB' : B.toList.length = B.size := rfl
  rw [eB, text_size, text_size]; omega
theorem sumS (a s : List UInt8) (B : Array UInt8) (h : s.length ≤ 2000000000) (ha : a.length ≤ 1000) (hB : B.size ≤ 1000) :
    ∃ q0 q1, text a ++ text s = text q0 ∧ (text a).size + (text s).size ≤ 9223372036854775807 ∧ text q0 ++ (⟨B⟩ : ByteArray) = text q1 ∧ (text q0).size + (⟨B⟩ : ByteArray).size ≤ 9223372036854775807 ∧ q1 = a ++ (s ++ B.toList) := by
  have eB : (⟨B⟩ : ByteArray) = text B.toList := by simp [text]
  refine ⟨a ++ s, a ++ (s ++ B.toList), by rw [Names.text_append], ?_, by rw [eB, Names.text_append, List.append_assoc], ?_, rfl⟩
  · rw [text_size, text_size]; omega
  · have hB' : B.toList.length = B.size := rfl
    rw [eB, text_size, text_size, List.length_append]; omega
set_option maxHeartbeats 8000000 in
theorem minus_any (R : Rm) (hm : R.m ≤ 9) (a : Ex) (xb xo : Nat) (nv pv : Value) (hx : ExAt R.W0 xb xo (.mk 4 [] [] [a]) nv pv) (hk : Kids R [a]) :
    Writes R 54 #[R.ptr, .pointer (some ⟨xb, xo, none⟩)] (flat R.m (.mk 4 [] [] [a])) := by
  intro l w h hl
  have hv : Exs R.W0 pv [a] := hx.is.parts.2
  obtain ⟨b0, o0, ix0, pt0, wh0, kd0⟩ := kid hk hv hm 0 (by simp) 0 rfl
  have HE : Hid ((flat R.m (.mk 4 [] [] [a])) = [sg 45] ++ ((prt R.m 7 (pt R.m a)))) := hid (fl4 R.m a)
  rw [HE.out] at hl
  simp only [lng_app] at hl
  have C0 : Hid (Writes R 104 #[R.ptr, .string ⟨#[45]⟩] [sg 45]) := hid (put_its R [sg 45] [45] rfl)
  have C1 : Hid (Writes R 106 #[R.ptr, .pointer (some ⟨b0, o0, none⟩), .int .i64 (7)] (prt R.m 7 (pt R.m a))) := hid (pt0 7 (by omega))
  have HL := hid hl
  have HX := hid hx
  have H0 := hid h
  have c1 := (hx.later h.old).c1
  have c3 := (hx.later h.old).c3
  simp only [Ex.s] at c1
  clear hl h hx hk hv pt0 wh0 kd0
  go_enter Tryz.func54, Tryz.ntmps54
  go_wp2_with fail
  refine (C0.out _ _ H0.out (by have := HL.out; (try simp only [List.length_append, ← lng_def]); omega)).mono ?_
  rintro r w1 ⟨rfl, h1⟩
  have H1 := hid h1
  clear h1 c1 c3
  have c1 := (HX.out.later H1.out.old).c1
  have c3 := (HX.out.later H1.out.old).c3
  simp only [Ex.s] at c1
  go_wp2_with fail
  refine (C1.out _ _ H1.out (by have := HL.out; (try simp only [List.length_append, ← lng_def]); omega)).mono ?_
  rintro r w2 ⟨rfl, h2⟩
  have H2 := hid h2
  clear h2 c1 c3
  have c1 := (HX.out.later H2.out.old).c1
  have c3 := (HX.out.later H2.out.old).c3
  simp only [Ex.s] at c1
  clear c1 c3
  go_wp2
  go_end0
  refine ⟨rfl, ?_⟩
  rw [HE.out]
  have := H2.out
  simp only [txtL_app, List.append_assoc] at this ⊢
  exact this
set_option maxHeartbeats 8000000 in
theorem between_any (R : Rm) (hm : R.m ≤ 9) (a b c : Ex) (xb xo : Nat) (nv pv : Value) (hx : ExAt R.W0 xb xo (.mk 6 [] [] [a, b, c]) nv pv) (hk : Kids R [a, b, c]) :
    Writes R 56 #[R.ptr, .pointer (some ⟨xb, xo, none⟩)] (flat R.m (.mk 6 [] [] [a, b, c])) := by
  intro l w h hl
  have hv : Exs R.W0 pv [a, b, c] := hx.is.parts.2
  obtain ⟨b0, o0, ix0, pt0, wh0, kd0⟩ := kid hk hv hm 0 (by simp) 0 rfl
  obtain ⟨b1, o1, ix1, pt1, wh1, kd1⟩ := kid hk hv hm 1 (by simp) 1 rfl
  obtain ⟨b2, o2, ix2, pt2, wh2, kd2⟩ := kid hk hv hm 2 (by simp) 2 rfl
  have HE : Hid ((flat R.m (.mk 6 [] [] [a, b, c])) = (prt R.m 4 (pt R.m a)) ++ ([.bl, ky kBetween, .bl] ++ ((prt R.m 4 (pt R.m b)) ++ ([.bl, ky kAnd, .bl] ++ ((prt R.m 4 (pt R.m c))))))) := hid (fl6 R.m a b c)
  rw [HE.out] at hl
  simp only [lng_app] at hl
  have C0 : Hid (Writes R 106 #[R.ptr, .pointer (some ⟨b0, o0, none⟩), .int .i64 (4)] (prt R.m 4 (pt R.m a))) := hid (pt0 4 (by omega))
  have C1 : Hid (Writes R 104 #[R.ptr, .string ⟨#[32, 98, 101, 116, 119, 101, 101, 110, 32]⟩] [.bl, ky kBetween, .bl]) := hid (put_its R [.bl, ky kBetween, .bl] [32, 98, 101, 116, 119, 101, 101, 110, 32] rfl)
  have C2 : Hid (Writes R 106 #[R.ptr, .pointer (some ⟨b1, o1, none⟩), .int .i64 (4)] (prt R.m 4 (pt R.m b))) := hid (pt1 4 (by omega))
  have C3 : Hid (Writes R 104 #[R.ptr, .string ⟨#[32, 97, 110, 100, 32]⟩] [.bl, ky kAnd, .bl]) := hid (put_its R [.bl, ky kAnd, .bl] [32, 97, 110, 100, 32] rfl)
  have C4 : Hid (Writes R 106 #[R.ptr, .pointer (some ⟨b2, o2, none⟩), .int .i64 (4)] (prt R.m 4 (pt R.m c))) := hid (pt2 4 (by omega))
  have HL := hid hl
  have HX := hid hx
  have H0 := hid h
  have c1 := (hx.later h.old).c1
  have c3 := (hx.later h.old).c3
  simp only [Ex.s] at c1
  clear hl h hx hk hv pt0 wh0 kd0 pt1 wh1 kd1 pt2 wh2 kd2
  go_enter Tryz.func56, Tryz.ntmps56
  go_wp2_with fail
  refine (C0.out _ _ H0.out (by have := HL.out; (try simp only [List.length_append, ← lng_def]); omega)).mono ?_
  rintro r w1 ⟨rfl, h1⟩
  have H1 := hid h1
  clear h1 c1 c3
  have c1 := (HX.out.later H1.out.old).c1
  have c3 := (HX.out.later H1.out.old).c3
  simp only [Ex.s] at c1
  go_wp2_with fail
  refine (C1.out _ _ H1.out (by have := HL.out; (try simp only [List.length_append, ← lng_def]); omega)).mono ?_
  rintro r w2 ⟨rfl, h2⟩
  have H2 := hid h2
  clear h2 c1 c3
  have c1 := (HX.out.later H2.out.old).c1
  have c3 := (HX.out.later H2.out.old).c3
  simp only [Ex.s] at c1
  go_wp2_with fail
  refine (C2.out _ _ H2.out (by have := HL.out; (try simp only [List.length_append, ← lng_def]); omega)).mono ?_
  rintro r w3 ⟨rfl, h3⟩
  have H3 := hid h3
  clear h3 c1 c3
  have c1 := (HX.out.later H3.out.old).c1
  have c3 := (HX.out.later H3.out.old).c3
  simp only [Ex.s] at c1
  go_wp2_with fail
  refine (C3.out _ _ H3.out (by have := HL.out; (try simp only [List.length_append, ← lng_def]); omega)).mono ?_
  rintro r w4 ⟨rfl, h4⟩
  have H4 := hid h4
  clear h4 c1 c3
  have c1 := (HX.out.later H4.out.old).c1
  have c3 := (HX.out.later H4.out.old).c3
  simp only [Ex.s] at c1
  go_wp2_with fail
  refine (C4.out _ _ H4.out (by have := HL.out; (try simp only [List.length_append, ← lng_def]); omega)).mono ?_
  rintro r w5 ⟨rfl, h5⟩
  have H5 := hid h5
  clear h5 c1 c3
  have c1 := (HX.out.later H5.out.old).c1
  have c3 := (HX.out.later H5.out.old).c3
  simp only [Ex.s] at c1
  clear c1 c3
  go_wp2
  go_end0
  refine ⟨rfl, ?_⟩
  rw [HE.out]
  have := H5.out
  simp only [txtL_app, List.append_assoc] at this ⊢
  exact this
set_option maxHeartbeats 8000000 in
theorem filter_any (R : Rm) (hm : R.m ≤ 9) (a b : Ex) (xb xo : Nat) (nv pv : Value) (hx : ExAt R.W0 xb xo (.mk 9 [] [] [a, b]) nv pv) (hk : Kids R [a, b]) :
    Writes R 59 #[R.ptr, .pointer (some ⟨xb, xo, none⟩)] (flat R.m (.mk 9 [] [] [a, b])) := by
  intro l w h hl
  have hv : Exs R.W0 pv [a, b] := hx.is.parts.2
  obtain ⟨b0, o0, ix0, pt0, wh0, kd0⟩ := kid hk hv hm 0 (by simp) 0 rfl
  obtain ⟨b1, o1, ix1, pt1, wh1, kd1⟩ := kid hk hv hm 1 (by simp) 1 rfl
  have HE : Hid ((flat R.m (.mk 9 [] [] [a, b])) = (prt R.m 8 (pt R.m a)) ++ ([sg 91] ++ ((prt R.m 0 (pt R.m b)) ++ ([sg 93])))) := hid (fl9 R.m a b)
  rw [HE.out] at hl
  simp only [lng_app] at hl
  have C0 : Hid (Writes R 106 #[R.ptr, .pointer (some ⟨b0, o0, none⟩), .int .i64 (8)] (prt R.m 8 (pt R.m a))) := hid (pt0 8 (by omega))
  have C1 : Hid (Writes R 104 #[R.ptr, .string ⟨#[91]⟩] [sg 91]) := hid (put_its R [sg 91] [91] rfl)
  have C2 : Hid (Writes R 106 #[R.ptr, .pointer (some ⟨b1, o1, none⟩), .int .i64 (0)] (prt R.m 0 (pt R.m b))) := hid (pt1 0 (by omega))
  have C3 : Hid (Writes R 104 #[R.ptr, .string ⟨#[93]⟩] [sg 93]) := hid (put_its R [sg 93] [93] rfl)
  have HL := hid hl
  have HX := hid hx
  have H0 := hid h
  have c1 := (hx.later h.old).c1
  have c3 := (hx.later h.old).c3
  simp only [Ex.s] at c1
  clear hl h hx hk hv pt0 wh0 kd0 pt1 wh1 kd1
  go_enter Tryz.func59, Tryz.ntmps59
  go_wp2_with fail
  refine (C0.out _ _ H0.out (by have := HL.out; (try simp only [List.length_append, ← lng_def]); omega)).mono ?_
  rintro r w1 ⟨rfl, h1⟩
  have H1 := hid h1
  clear h1 c1 c3
  have c1 := (HX.out.later H1.out.old).c1
  have c3 := (HX.out.later H1.out.old).c3
  simp only [Ex.s] at c1
  go_wp2_with fail
  refine (C1.out _ _ H1.out (by have := HL.out; (try simp only [List.length_append, ← lng_def]); omega)).mono ?_
  rintro r w2 ⟨rfl, h2⟩
  have H2 := hid h2
  clear h2 c1 c3
  have c1 := (HX.out.later H2.out.old).c1
  have c3 := (HX.out.later H2.out.old).c3
  simp only [Ex.s] at c1
  go_wp2_with fail
  refine (C2.out _ _ H2.out (by have := HL.out; (try simp only [List.length_append, ← lng_def]); omega)).mono ?_
  rintro r w3 ⟨rfl, h3⟩
  have H3 := hid h3
  clear h3 c1 c3
  have c1 := (HX.out.later H3.out.old).c1
  have c3 := (HX.out.later H3.out.old).c3
  simp only [Ex.s] at c1
  go_wp2_with fail
  refine (C3.out _ _ H3.out (by have := HL.out; (try simp only [List.length_append, ← lng_def]); omega)).mono ?_
  rintro r w4 ⟨rfl, h4⟩
  have H4 := hid h4
  clear h4 c1 c3
  have c1 := (HX.out.later H4.out.old).c1
  have c3 := (HX.out.later H4.out.old).c3
  simp only [Ex.s] at c1
  clear c1 c3
  go_wp2
  go_end0
  refine ⟨rfl, ?_⟩
  rw [HE.out]
  have := H4.out
  simp only [txtL_app, List.append_assoc] at this ⊢
  exact this
set_option maxHeartbeats 8000000 in
theorem choice_any (R : Rm) (hm : R.m ≤ 9) (a b c : Ex) (xb xo : Nat) (nv pv : Value) (hx : ExAt R.W0 xb xo (.mk 11 [] [] [a, b, c]) nv pv) (hk : Kids R [a, b, c]) :
    Writes R 61 #[R.ptr, .pointer (some ⟨xb, xo, none⟩)] (flat R.m (.mk 11 [] [] [a, b, c])) := by
  intro l w h hl
  have hv : Exs R.W0 pv [a, b, c] := hx.is.parts.2
  obtain ⟨b0, o0, ix0, pt0, wh0, kd0⟩ := kid hk hv hm 0 (by simp) 0 rfl
  obtain ⟨b1, o1, ix1, pt1, wh1, kd1⟩ := kid hk hv hm 1 (by simp) 1 rfl
  obtain ⟨b2, o2, ix2, pt2, wh2, kd2⟩ := kid hk hv hm 2 (by simp) 2 rfl
  have HE : Hid ((flat R.m (.mk 11 [] [] [a, b, c])) = [ky kIf, .bl] ++ ((prt R.m 0 (pt R.m a)) ++ ([.bl, ky kThen, .bl] ++ ((prt R.m 0 (pt R.m b)) ++ ([.bl, ky kElse, .bl] ++ ((prt R.m 0 (pt R.m c)))))))) := hid (fl11 R.m a b c)
  rw [HE.out] at hl
  simp only [lng_app] at hl
  have C0 : Hid (Writes R 104 #[R.ptr, .string ⟨#[105, 102, 32]⟩] [ky kIf, .bl]) := hid (put_its R [ky kIf, .bl] [105, 102, 32] rfl)
  have C1 : Hid (Writes R 106 #[R.ptr, .pointer (some ⟨b0, o0, none⟩), .int .i64 (0)] (prt R.m 0 (pt R.m a))) := hid (pt0 0 (by omega))
  have C2 : Hid (Writes R 104 #[R.ptr, .string ⟨#[32, 116, 104, 101, 110, 32]⟩] [.bl, ky kThen, .bl]) := hid (put_its R [.bl, ky kThen, .bl] [32, 116, 104, 101, 110, 32] rfl)
  have C3 : Hid (Writes R 106 #[R.ptr, .pointer (some ⟨b1, o1, none⟩), .int .i64 (0)] (prt R.m 0 (pt R.m b))) := hid (pt1 0 (by omega))
  have C4 : Hid (Writes R 104 #[R.ptr, .string ⟨#[32, 101, 108, 115, 101, 32]⟩] [.bl, ky kElse, .bl]) := hid (put_its R [.bl, ky kElse, .bl] [32, 101, 108, 115, 101, 32] rfl)
  have C5 : Hid (Writes R 106 #[R.ptr, .pointer (some ⟨b2, o2, none⟩), .int .i64 (0)] (prt R.m 0 (pt R.m c))) := hid (pt2 0 (by omega))
  have HL := hid hl
  have HX := hid hx
  have H0 := hid h
  have c1 := (hx.later h.old).c1
  have c3 := (hx.later h.old).c3
  simp only [Ex.s] at c1
  clear hl h hx hk hv pt0 wh0 kd0 pt1 wh1 kd1 pt2 wh2 kd2
  go_enter Tryz.func61, Tryz.ntmps61
  go_wp2_with fail
  refine (C0.out _ _ H0.out (by have := HL.out; (try simp only [List.length_append, ← lng_def]); omega)).mono ?_
  rintro r w1 ⟨rfl, h1⟩
  have H1 := hid h1
  clear h1 c1 c3
  have c1 := (HX.out.later H1.out.old).c1
  have c3 := (HX.out.later H1.out.old).c3
  simp only [Ex.s] at c1
  go_wp2_with fail
  refine (C1.out _ _ H1.out (by have := HL.out; (try simp only [List.length_append, ← lng_def]); omega)).mono ?_
  rintro r w2 ⟨rfl, h2⟩
  have H2 := hid h2
  clear h2 c1 c3
  have c1 := (HX.out.later H2.out.old).c1
  have c3 := (HX.out.later H2.out.old).c3
  simp only [Ex.s] at c1
  go_wp2_with fail
  refine (C2.out _ _ H2.out (by have := HL.out; (try simp only [List.length_append, ← lng_def]); omega)).mono ?_
  rintro r w3 ⟨rfl, h3⟩
  have H3 := hid h3
  clear h3 c1 c3
  have c1 := (HX.out.later H3.out.old).c1
  have c3 := (HX.out.later H3.out.old).c3
  simp only [Ex.s] at c1
  go_wp2_with fail
  refine (C3.out _ _ H3.out (by have := HL.out; (try simp only [List.length_append, ← lng_def]); omega)).mono ?_
  rintro r w4 ⟨rfl, h4⟩
  have H4 := hid h4
  clear h4 c1 c3
  have c1 := (HX.out.later H4.out.old).c1
  have c3 := (HX.out.later H4.out.old).c3
  simp only [Ex.s] at c1
  go_wp2_with fail
  refine (C4.out _ _ H4.out (by have := HL.out; (try simp only [List.length_append, ← lng_def]); omega)).mono ?_
  rintro r w5 ⟨rfl, h5⟩
  have H5 := hid h5
  clear h5 c1 c3
  have c1 := (HX.out.later H5.out.old).c1
  have c3 := (HX.out.later H5.out.old).c3
  simp only [Ex.s] at c1
  go_wp2_with fail
  refine (C5.out _ _ H5.out (by have := HL.out; (try simp only [List.length_append, ← lng_def]); omega)).mono ?_
  rintro r w6 ⟨rfl, h6⟩
  have H6 := hid h6
  clear h6 c1 c3
  have c1 := (HX.out.later H6.out.old).c1
  have c3 := (HX.out.later H6.out.old).c3
  simp only [Ex.s] at c1
  clear c1 c3
  go_wp2
  go_end0
  refine ⟨rfl, ?_⟩
  rw [HE.out]
  have := H6.out
  simp only [txtL_app, List.append_assoc] at this ⊢
  exact this
set_option maxHeartbeats 8000000 in
theorem path_any (R : Rm) (hm : R.m ≤ 9) (s : Nam) (a : Ex) (xb xo : Nat) (nv pv : Value) (hx : ExAt R.W0 xb xo (.mk 8 s [] [a]) nv pv) (hk : Kids R [a]) :
    Writes R 58 #[R.ptr, .pointer (some ⟨xb, xo, none⟩)] (flat R.m (.mk 8 s [] [a])) := by
  intro l w h hl
  have hv : Exs R.W0 pv [a] := hx.is.parts.2
  obtain ⟨b0, o0, ix0, pt0, wh0, kd0⟩ := kid hk hv hm 0 (by simp) 0 rfl
  have HE : Hid ((flat R.m (.mk 8 s [] [a])) = (prt R.m 8 (pt R.m a)) ++ ((sg 46 :: nmI s))) := hid (fl8 R.m s a)
  rw [HE.out] at hl
  simp only [lng_app] at hl
  have hs : s.length ≤ 2000000 := by rw [lng_sg, lng_nm] at hl; omega
  obtain ⟨q0, s0, s1, hq⟩ := sumL #[46] s (by omega) (by decide)
  have C0 : Hid (Writes R 106 #[R.ptr, .pointer (some ⟨b0, o0, none⟩), .int .i64 (8)] (prt R.m 8 (pt R.m a))) := hid (pt0 8 (by omega))
  have C1 : Hid (Writes R 104 #[R.ptr, .string (text q0)] (sg 46 :: nmI s)) := hid (put_its R (sg 46 :: nmI s) q0 (by rw [hq]; show 46 :: txtL (nmI s) = _; rw [nmI_txt]; rfl))
  have HL := hid hl
  have HX := hid hx
  have H0 := hid h
  have c1 := (hx.later h.old).c1
  have c3 := (hx.later h.old).c3
  simp only [Ex.s] at c1
  clear hl h hx hk hv pt0 wh0 kd0 hs hq
  go_enter Tryz.func58, Tryz.ntmps58
  go_wp2_with fail
  refine (C0.out _ _ H0.out (by have := HL.out; (try simp only [List.length_append, ← lng_def]); omega)).mono ?_
  rintro r w1 ⟨rfl, h1⟩
  have H1 := hid h1
  clear h1 c1 c3
  have c1 := (HX.out.later H1.out.old).c1
  have c3 := (HX.out.later H1.out.old).c3
  simp only [Ex.s] at c1
  go_wp2_with fail
  refine (C1.out _ _ H1.out (by have := HL.out; (try simp only [List.length_append, ← lng_def]); omega)).mono ?_
  rintro r w2 ⟨rfl, h2⟩
  have H2 := hid h2
  clear h2 c1 c3
  have c1 := (HX.out.later H2.out.old).c1
  have c3 := (HX.out.later H2.out.old).c3
  simp only [Ex.s] at c1
  clear c1 c3
  go_wp2
  go_end0
  refine ⟨rfl, ?_⟩
  rw [HE.out]
  have := H2.out
  simp only [txtL_app, List.append_assoc] at this ⊢
  exact this
set_option maxHeartbeats 8000000 in
theorem test_any (R : Rm) (hm : R.m ≤ 9) (s : Nam) (a : Ex) (xb xo : Nat) (nv pv : Value) (hx : ExAt R.W0 xb xo (.mk 19 s [] [a]) nv pv) (hk : Kids R [a]) :
    Writes R 69 #[R.ptr, .pointer (some ⟨xb, xo, none⟩)] (flat R.m (.mk 19 s [] [a])) := by
  intro l w h hl
  have hv : Exs R.W0 pv [a] := hx.is.parts.2
  obtain ⟨b0, o0, ix0, pt0, wh0, kd0⟩ := kid hk hv hm 0 (by simp) 0 rfl
  have HE : Hid ((flat R.m (.mk 19 s [] [a])) = [.tk 4 s, .bl] ++ ((prt R.m 4 (pt R.m a)))) := hid (fl19 R.m s a)
  rw [HE.out] at hl
  simp only [lng_app] at hl
  have hs : s.length ≤ 2000000 := by rw [lng_t4, lng_bl] at hl; omega
  obtain ⟨q0, s0, s1, hq⟩ := sumR #[32] s (by omega) (by decide)
  have C0 : Hid (Writes R 104 #[R.ptr, .string (text q0)] [.tk 4 s, .bl]) := hid (put_its R [.tk 4 s, .bl] q0 (by rw [hq]; show s ++ ([32] ++ []) = _; rfl))
  have C1 : Hid (Writes R 106 #[R.ptr, .pointer (some ⟨b0, o0, none⟩), .int .i64 (4)] (prt R.m 4 (pt R.m a))) := hid (pt0 4 (by omega))
  have HL := hid hl
  have HX := hid hx
  have H0 := hid h
  have c1 := (hx.later h.old).c1
  have c3 := (hx.later h.old).c3
  simp only [Ex.s] at c1
  clear hl h hx hk hv pt0 wh0 kd0 hs hq
  go_enter Tryz.func69, Tryz.ntmps69
  go_wp2_with fail
  refine (C0.out _ _ H0.out (by have := HL.out; (try simp only [List.length_append, ← lng_def]); omega)).mono ?_
  rintro r w1 ⟨rfl, h1⟩
  have H1 := hid h1
  clear h1 c1 c3
  have c1 := (HX.out.later H1.out.old).c1
  have c3 := (HX.out.later H1.out.old).c3
  simp only [Ex.s] at c1
  go_wp2_with fail
  refine (C1.out _ _ H1.out (by have := HL.out; (try simp only [List.length_append, ← lng_def]); omega)).mono ?_
  rintro r w2 ⟨rfl, h2⟩
  have H2 := hid h2
  clear h2 c1 c3
  have c1 := (HX.out.later H2.out.old).c1
  have c3 := (HX.out.later H2.out.old).c3
  simp only [Ex.s] at c1
  clear c1 c3
  go_wp2
  go_end0
  refine ⟨rfl, ?_⟩
  rw [HE.out]
  have := H2.out
  simp only [txtL_app, List.append_assoc] at this ⊢
  exact this
theorem opI_txt (s : Nam) (r : List It) : txtL (opI s :: r) = s ++ txtL r := by
  show (opI s).txt ++ _ = _
  unfold opI
  split <;> rfl
theorem nam_tail : ∀ r : List Nam, txtL (namF false r) = Lib.joinTail [44, 32] r ∧ r.length ≤ (txtL (namF false r)).length
  | [] => ⟨rfl, Nat.le_refl _⟩
  | n :: r => by
    obtain ⟨h1, h2⟩ := nam_tail r
    have e : txtL (namF false (n :: r)) = [44, 32] ++ (n ++ txtL (namF false r)) := by
      show txtL (sep false ++ (nmI n ++ namF false r)) = _
      rw [txtL_app, txtL_app, nmI_txt]; rfl
    rw [e]
    refine ⟨?_, by simp only [List.length_append, List.length_cons]; omega⟩
    rw [h1]
    simp [Lib.joinTail]
theorem nam_join (nm : List Nam) : txtL (namF true nm) = Lib.join nm [44, 32] ∧ nm.length ≤ (txtL (namF true nm)).length + 1 := by
  cases nm with
  | nil => exact ⟨rfl, Nat.zero_le _⟩
  | cons n r =>
    obtain ⟨h1, h2⟩ := nam_tail r
    have e : txtL (namF true (n :: r)) = n ++ txtL (namF false r) := by
      show txtL (sep true ++ (nmI n ++ namF false r)) = _
      rw [txtL_app, txtL_app, nmI_txt]; rfl
    rw [e, Lib.join_cons, h1]
    refine ⟨rfl, ?_⟩
    rw [h1] at h2
    simp only [List.length_append, List.length_cons]; omega
theorem Join_any (v : Value) (nm : List Nam) (w : World) (hv : Strs w v nm) (hl : lng (namF true nm) ≤ 2000000) :
    Calls Tryz.prog 110 #[v, .string ⟨#[44, 32]⟩] w fun e w' => e = .returned (.string (text (txtL (namF true nm)))) ∧ Below w.heap.size w w' := by
  obtain ⟨j1, j2⟩ := nam_join nm
  rw [lng_def] at hl
  obtain ⟨⟨a, c, rfl, h1, h2, h3, h4, h5⟩, h6⟩ := hv
  cases nm with
  | nil =>
    refine (Tryz.strings_Join_none a c ⟨#[44, 32]⟩ w).mono ?_
    rintro e w' ⟨rfl, rfl⟩
    exact ⟨rfl, b0 _⟩
  | cons n r =>
    obtain ⟨b, off, rfl, h8⟩ := h5 (by rw [h6]; simp)
    have em : ((n :: r).map text).map (·.data.toList) = n :: r := by
      rw [List.map_map]
      have : ((fun x : ByteArray => x.data.toList) ∘ text) = id := by funext x; simp [text_data]
      rw [this, List.map_id]
    have hsz : b < w.heap.size := World.block_lt_of_cell? _ _ (h8 0 (.string (text n)) (by simp [strsOf]))
    have := Tryz.strings_Join b off c ((n :: r).map text) (text [44, 32]) w (fun j x hx => h8 j _ (by
      rw [List.getElem?_map] at hx
      obtain ⟨y, hy, rfl⟩ := Option.map_eq_some_iff.1 hx
      simp only [strsOf, List.getElem?_map, hy]; rfl)) hsz (by rw [List.length_map]; omega) (by rw [List.length_map]; exact h1) (by rw [em, text_data]; rw [← j1]; omega)
    rw [List.length_map, em, text_data, ← j1] at this
    exact this
set_option maxHeartbeats 8000000 in
theorem binary_any (R : Rm) (hm : R.m ≤ 9) (s : Nam) (a b : Ex) (xb xo : Nat) (nv pv : Value) (hx : ExAt R.W0 xb xo (.mk 5 s [] [a, b]) nv pv) (hk : Kids R [a, b]) (hb : s ∈ bins) :
    Writes R 55 #[R.ptr, .pointer (some ⟨xb, xo, none⟩)] (flat R.m (.mk 5 s [] [a, b])) := by
  intro l w h hl
  have hv : Exs R.W0 pv [a, b] := hx.is.parts.2
  obtain ⟨b0, o0, ix0, pt0, wh0, kd0⟩ := kid hk hv hm 0 (by simp) 0 rfl
  obtain ⟨b1, o1, ix1, pt1, wh1, kd1⟩ := kid hk hv hm 1 (by simp) 1 rfl
  have HE : Hid ((flat R.m (.mk 5 s [] [a, b])) = (prt R.m (sideA s) (pt R.m a)) ++ ([.bl, opI s, .bl] ++ ((prt R.m (sideB s) (pt R.m b))))) := hid (fl5 R.m s a b)
  rw [HE.out] at hl
  simp only [lng_app] at hl
  have hs : s.length ≤ 2000000 := by have := bins_len s hb; omega
  have hlev : levS s ≤ 6 := (by decide +kernel : ∀ s ∈ bins, levS s ≤ 6) s hb
  obtain ⟨q0, q1, s0, s1, s2, s3, hq⟩ := sum3 #[32] #[32] s (by omega) (by decide) (by decide)
  have SD := hid (fun W => sides_any s hb W)
  have C0 : Hid (Writes R 106 #[R.ptr, .pointer (some ⟨b0, o0, none⟩), .int .i64 ((sideA s : Nat))] (prt R.m (sideA s) (pt R.m a))) := hid (pt0 (sideA s : Nat) (by unfold sideA; split <;> omega))
  have C1 : Hid (Writes R 104 #[R.ptr, .string (text q1)] [.bl, opI s, .bl]) := hid (put_its R [.bl, opI s, .bl] q1 (by rw [hq]; show 32 :: txtL (opI s :: [.bl]) = _; rw [opI_txt]; rfl))
  have C2 : Hid (Writes R 106 #[R.ptr, .pointer (some ⟨b1, o1, none⟩), .int .i64 ((sideB s : Nat))] (prt R.m (sideB s) (pt R.m b))) := hid (pt1 (sideB s : Nat) (by unfold sideB; omega))
  have HL := hid hl
  have HX := hid hx
  have H0 := hid h
  have c1 := (hx.later h.old).c1
  have c3 := (hx.later h.old).c3
  simp only [Ex.s] at c1
  clear hl h hx hk hv pt0 wh0 kd0 pt1 wh1 kd1 hs hq hlev hb
  go_enter Tryz.func55, Tryz.ntmps55
  go_wp2_with fail
  refine (SD.out _).mono ?_
  rintro r w0 ⟨rfl, rfl⟩
  go_wp2_with fail
  refine (C0.out _ _ H0.out (by have := HL.out; (try simp only [List.length_append, ← lng_def]); omega)).mono ?_
  rintro r w1 ⟨rfl, h1⟩
  have H1 := hid h1
  clear h1 c1 c3
  have c1 := (HX.out.later H1.out.old).c1
  have c3 := (HX.out.later H1.out.old).c3
  simp only [Ex.s] at c1
  go_wp2_with fail
  refine (C1.out _ _ H1.out (by have := HL.out; (try simp only [List.length_append, ← lng_def]); omega)).mono ?_
  rintro r w2 ⟨rfl, h2⟩
  have H2 := hid h2
  clear h2 c1 c3
  have c1 := (HX.out.later H2.out.old).c1
  have c3 := (HX.out.later H2.out.old).c3
  simp only [Ex.s] at c1
  go_wp2_with fail
  refine (C2.out _ _ H2.out (by have := HL.out; (try simp only [List.length_append, ← lng_def]); omega)).mono ?_
  rintro r w3 ⟨rfl, h3⟩
  have H3 := hid h3
  clear h3 c1 c3
  have c1 := (HX.out.later H3.out.old).c1
  have c3 := (HX.out.later H3.out.old).c3
  simp only [Ex.s] at c1
  clear c1 c3
  go_wp2
  go_end0
  refine ⟨rfl, ?_⟩
  rw [HE.out]
  have := H3.out
  simp only [txtL_app, List.append_assoc] at this ⊢
  exact this
set_option maxHeartbeats 8000000 in
theorem in_test_any (R : Rm) (hm : R.m ≤ 9) (a b : Ex) (xb xo : Nat) (nv pv : Value) (hx : ExAt R.W0 xb xo (.mk 7 [] [] [a, b]) nv pv) (hk : Kids R [a, b]) (hc : b.kind = 19) :
    Writes R 57 #[R.ptr, .pointer (some ⟨xb, xo, none⟩)] (flat R.m (.mk 7 [] [] [a, b])) := by
  intro l w h hl
  have hv : Exs R.W0 pv [a, b] := hx.is.parts.2
  obtain ⟨b0, o0, ix0, pt0, wh0, kd0⟩ := kid hk hv hm 0 (by simp) 0 rfl
  obtain ⟨b1, o1, ix1, pt1, wh1, kd1⟩ := kid hk hv hm 1 (by simp) 1 rfl
  have HE : Hid ((flat R.m (.mk 7 [] [] [a, b])) = (prt R.m 4 (pt R.m a)) ++ ([.bl, ky kIn, .bl] ++ (flat R.m b))) := hid (by rw [fl7, if_pos hc]; rfl)
  rw [HE.out] at hl
  simp only [lng_app] at hl
  have KD := hid kd1
  have C2 := hid (show Writes R 33 #[R.ptr, .pointer (some ⟨b1, o1, none⟩)] (flat R.m b) from wh1)
  have HC := hid hc
  have C0 : Hid (Writes R 106 #[R.ptr, .pointer (some ⟨b0, o0, none⟩), .int .i64 (4)] (prt R.m 4 (pt R.m a))) := hid (pt0 4 (by omega))
  have C1 : Hid (Writes R 104 #[R.ptr, .string ⟨#[32, 105, 110, 32]⟩] [.bl, ky kIn, .bl]) := hid (put_its R [.bl, ky kIn, .bl] [32, 105, 110, 32] rfl)
  have HL := hid hl
  have HX := hid hx
  have H0 := hid h
  have c1 := (hx.later h.old).c1
  have c3 := (hx.later h.old).c3
  simp only [Ex.s] at c1
  clear hl h hx hk hv pt0 wh0 kd0 pt1 wh1 kd1 hc
  go_enter Tryz.func57, Tryz.ntmps57
  go_wp2_with fail
  refine (C0.out _ _ H0.out (by have := HL.out; (try simp only [List.length_append, ← lng_def]); omega)).mono ?_
  rintro r w1 ⟨rfl, h1⟩
  have H1 := hid h1
  clear h1 c1 c3
  have c1 := (HX.out.later H1.out.old).c1
  have c3 := (HX.out.later H1.out.old).c3
  simp only [Ex.s] at c1
  go_wp2_with fail
  refine (C1.out _ _ H1.out (by have := HL.out; (try simp only [List.length_append, ← lng_def]); omega)).mono ?_
  rintro r w2 ⟨rfl, h2⟩
  have H2 := hid h2
  clear h2 c1 c3
  have c1 := (HX.out.later H2.out.old).c1
  have c3 := (HX.out.later H2.out.old).c3
  simp only [Ex.s] at c1
  have k1 : w2.cell? ⟨b1, o1, none⟩ = some (.int .i64 b.kind) := KD.out _ H2.out.old
  rw [HC.out] at k1
  go_wp2_with fail
  refine (C2.out _ _ H2.out (by have := HL.out; (try simp only [List.length_append, ← lng_def]); omega)).mono ?_
  rintro r w3 ⟨rfl, h3⟩
  have H3 := hid h3
  clear h3 c1 c3
  have c1 := (HX.out.later H3.out.old).c1
  have c3 := (HX.out.later H3.out.old).c3
  simp only [Ex.s] at c1
  clear c1 c3
  go_wp2
  refine bodyPost_ret (results_none rfl _ _ _) rfl ?_
  refine ⟨rfl, ?_⟩
  rw [HE.out]
  have := H3.out
  simp only [txtL_app, List.append_assoc] at this ⊢
  exact this
set_option maxHeartbeats 8000000 in
theorem in_any (R : Rm) (hm : R.m ≤ 9) (a b : Ex) (xb xo : Nat) (nv pv : Value) (hx : ExAt R.W0 xb xo (.mk 7 [] [] [a, b]) nv pv) (hk : Kids R [a, b]) (hc : b.kind ≠ 19) :
    Writes R 57 #[R.ptr, .pointer (some ⟨xb, xo, none⟩)] (flat R.m (.mk 7 [] [] [a, b])) := by
  intro l w h hl
  have hv : Exs R.W0 pv [a, b] := hx.is.parts.2
  obtain ⟨b0, o0, ix0, pt0, wh0, kd0⟩ := kid hk hv hm 0 (by simp) 0 rfl
  obtain ⟨b1, o1, ix1, pt1, wh1, kd1⟩ := kid hk hv hm 1 (by simp) 1 rfl
  have HE : Hid ((flat R.m (.mk 7 [] [] [a, b])) = (prt R.m 4 (pt R.m a)) ++ ([.bl, ky kIn, .bl] ++ ((prt R.m 4 (pt R.m b))))) := hid (by rw [fl7, if_neg hc]; rfl)
  rw [HE.out] at hl
  simp only [lng_app] at hl
  have KD := hid kd1
  have C0 : Hid (Writes R 106 #[R.ptr, .pointer (some ⟨b0, o0, none⟩), .int .i64 (4)] (prt R.m 4 (pt R.m a))) := hid (pt0 4 (by omega))
  have C1 : Hid (Writes R 104 #[R.ptr, .string ⟨#[32, 105, 110, 32]⟩] [.bl, ky kIn, .bl]) := hid (put_its R [.bl, ky kIn, .bl] [32, 105, 110, 32] rfl)
  have C2 : Hid (Writes R 106 #[R.ptr, .pointer (some ⟨b1, o1, none⟩), .int .i64 (4)] (prt R.m 4 (pt R.m b))) := hid (pt1 4 (by omega))
  have HL := hid hl
  have HX := hid hx
  have H0 := hid h
  have c1 := (hx.later h.old).c1
  have c3 := (hx.later h.old).c3
  simp only [Ex.s] at c1
  clear hl h hx hk hv pt0 wh0 kd0 pt1 wh1 kd1
  go_enter Tryz.func57, Tryz.ntmps57
  go_wp2_with fail
  refine (C0.out _ _ H0.out (by have := HL.out; (try simp only [List.length_append, ← lng_def]); omega)).mono ?_
  rintro r w1 ⟨rfl, h1⟩
  have H1 := hid h1
  clear h1 c1 c3
  have c1 := (HX.out.later H1.out.old).c1
  have c3 := (HX.out.later H1.out.old).c3
  simp only [Ex.s] at c1
  go_wp2_with fail
  refine (C1.out _ _ H1.out (by have := HL.out; (try simp only [List.length_append, ← lng_def]); omega)).mono ?_
  rintro r w2 ⟨rfl, h2⟩
  have H2 := hid h2
  clear h2 c1 c3
  have c1 := (HX.out.later H2.out.old).c1
  have c3 := (HX.out.later H2.out.old).c3
  simp only [Ex.s] at c1
  have k1 : w2.cell? ⟨b1, o1, none⟩ = some (.int .i64 b.kind) := KD.out _ H2.out.old
  go_wp2_with fail
  refine (C2.out _ _ H2.out (by have := HL.out; (try simp only [List.length_append, ← lng_def]); omega)).mono ?_
  rintro r w3 ⟨rfl, h3⟩
  have H3 := hid h3
  clear h3 c1 c3
  have c1 := (HX.out.later H3.out.old).c1
  have c3 := (HX.out.later H3.out.old).c3
  simp only [Ex.s] at c1
  clear c1 c3
  go_wp2
  go_end0
  refine ⟨rfl, ?_⟩
  rw [HE.out]
  have := H3.out
  simp only [txtL_app, List.append_assoc] at this ⊢
  exact this
set_option maxHeartbeats 8000000 in
theorem span_any (R : Rm) (hm : R.m ≤ 9) (x y : UInt8) (a b : Ex) (xb xo : Nat) (nv pv : Value) (hx : ExAt R.W0 xb xo (.mk 18 [x, y] [] [a, b]) nv pv) (hk : Kids R [a, b]) :
    Writes R 68 #[R.ptr, .pointer (some ⟨xb, xo, none⟩)] (flat R.m (.mk 18 [x, y] [] [a, b])) := by
  intro l w h hl
  have hv : Exs R.W0 pv [a, b] := hx.is.parts.2
  obtain ⟨b0, o0, ix0, pt0, wh0, kd0⟩ := kid hk hv hm 0 (by simp) 0 rfl
  obtain ⟨b1, o1, ix1, pt1, wh1, kd1⟩ := kid hk hv hm 1 (by simp) 1 rfl
  have HE : Hid ((flat R.m (.mk 18 [x, y] [] [a, b])) = [.tk 4 [x]] ++ ((prt R.m 0 (pt R.m a)) ++ ([.tk 4 [46, 46]] ++ ((prt R.m 0 (pt R.m b)) ++ ([.tk 4 [y]]))))) := hid (fl18 R.m [x, y] a b)
  rw [HE.out] at hl
  simp only [lng_app] at hl
  have s0 : (text [x, y]).extract 0 1 = text [x] := Names.text_one [x, y] 0 (by simp)
  have s1 : (text [x, y]).extract 1 2 = text [y] := Names.text_one [x, y] 1 (by simp)
  have s2 : (text [x, y]).size = 2 := text_size _
  have C0 : Hid (Writes R 104 #[R.ptr, .string (text [x])] [.tk 4 [x]]) := hid (put_its R [.tk 4 [x]] [x] (rfl))
  have C1 : Hid (Writes R 106 #[R.ptr, .pointer (some ⟨b0, o0, none⟩), .int .i64 (0)] (prt R.m 0 (pt R.m a))) := hid (pt0 0 (by omega))
  have C2 : Hid (Writes R 104 #[R.ptr, .string ⟨#[46, 46]⟩] [.tk 4 [46, 46]]) := hid (put_its R [.tk 4 [46, 46]] [46, 46] rfl)
  have C3 : Hid (Writes R 106 #[R.ptr, .pointer (some ⟨b1, o1, none⟩), .int .i64 (0)] (prt R.m 0 (pt R.m b))) := hid (pt1 0 (by omega))
  have C4 : Hid (Writes R 104 #[R.ptr, .string (text [y])] [.tk 4 [y]]) := hid (put_its R [.tk 4 [y]] [y] (rfl))
  have HL := hid hl
  have HX := hid hx
  have H0 := hid h
  have c1 := (hx.later h.old).c1
  have c3 := (hx.later h.old).c3
  simp only [Ex.s] at c1
  clear hl h hx hk hv pt0 wh0 kd0 pt1 wh1 kd1
  go_enter Tryz.func68, Tryz.ntmps68
  go_wp2_with fail
  refine (C0.out _ _ H0.out (by have := HL.out; (try simp only [List.length_append, ← lng_def]); omega)).mono ?_
  rintro r w1 ⟨rfl, h1⟩
  have H1 := hid h1
  clear h1 c1 c3
  have c1 := (HX.out.later H1.out.old).c1
  have c3 := (HX.out.later H1.out.old).c3
  simp only [Ex.s] at c1
  go_wp2_with fail
  refine (C1.out _ _ H1.out (by have := HL.out; (try simp only [List.length_append, ← lng_def]); omega)).mono ?_
  rintro r w2 ⟨rfl, h2⟩
  have H2 := hid h2
  clear h2 c1 c3
  have c1 := (HX.out.later H2.out.old).c1
  have c3 := (HX.out.later H2.out.old).c3
  simp only [Ex.s] at c1
  go_wp2_with fail
  refine (C2.out _ _ H2.out (by have := HL.out; (try simp only [List.length_append, ← lng_def]); omega)).mono ?_
  rintro r w3 ⟨rfl, h3⟩
  have H3 := hid h3
  clear h3 c1 c3
  have c1 := (HX.out.later H3.out.old).c1
  have c3 := (HX.out.later H3.out.old).c3
  simp only [Ex.s] at c1
  go_wp2_with fail
  refine (C3.out _ _ H3.out (by have := HL.out; (try simp only [List.length_append, ← lng_def]); omega)).mono ?_
  rintro r w4 ⟨rfl, h4⟩
  have H4 := hid h4
  clear h4 c1 c3
  have c1 := (HX.out.later H4.out.old).c1
  have c3 := (HX.out.later H4.out.old).c3
  simp only [Ex.s] at c1
  go_wp2_with fail
  refine (C4.out _ _ H4.out (by have := HL.out; (try simp only [List.length_append, ← lng_def]); omega)).mono ?_
  rintro r w5 ⟨rfl, h5⟩
  have H5 := hid h5
  clear h5 c1 c3
  have c1 := (HX.out.later H5.out.old).c1
  have c3 := (HX.out.later H5.out.old).c3
  simp only [Ex.s] at c1
  clear c1 c3
  go_wp2
  go_end0
  refine ⟨rfl, ?_⟩
  rw [HE.out]
  have := H5.out
  simp only [txtL_app, List.append_assoc] at this ⊢
  exact this
set_option maxHeartbeats 8000000 in
theorem bound_any (R : Rm) (hm : R.m ≤ 9) (k : Int) (hkk : k = 12 ∨ k = 13 ∨ k = 14) (s : Nam) (a b : Ex) (xb xo : Nat) (nv pv : Value) (hx : ExAt R.W0 xb xo (.mk k s [] [a, b]) nv pv) (hk : Kids R [a, b]) :
    Writes R 109 #[R.ptr, .string (text (bndA k ++ [32])), .pointer (some ⟨xb, xo, none⟩), .string (text (32 :: (bndB k ++ [32])))] (flat R.m (.mk k s [] [a, b])) := by
  intro l w h hl
  have hv : Exs R.W0 pv [a, b] := hx.is.parts.2
  obtain ⟨b0, o0, ix0, pt0, wh0, kd0⟩ := kid hk hv hm 0 (by simp) 0 rfl
  obtain ⟨b1, o1, ix1, pt1, wh1, kd1⟩ := kid hk hv hm 1 (by simp) 1 rfl
  have HE : Hid ((flat R.m (.mk k s [] [a, b])) = (ky (bndA k) :: .bl :: (nmI s ++ [.bl, ky kIn, .bl])) ++ ((prt R.m 0 (pt R.m a)) ++ ([.bl, ky (bndB k), .bl] ++ ((prt R.m 0 (pt R.m b)))))) := hid (by rw [fl12 R.m hkk]; simp)
  rw [HE.out] at hl
  simp only [lng_app] at hl
  have hs : s.length ≤ 2000000 := by simp only [lng_ky, lng_bl, lng_app, lng_nm] at hl; omega
  obtain ⟨q0, q1, s0, s1, s2, s3, hq⟩ := sumS (bndA k ++ [32]) s #[32, 105, 110, 32] (by omega) (by have := (bnd_len k).1; simp; omega) (by decide)
  have C0 : Hid (Writes R 104 #[R.ptr, .string (text q1)] (ky (bndA k) :: .bl :: (nmI s ++ [.bl, ky kIn, .bl]))) := hid (put_its R (ky (bndA k) :: .bl :: (nmI s ++ [.bl, ky kIn, .bl])) q1 (by rw [hq]; show bndA k ++ (32 :: txtL (nmI s ++ [.bl, ky kIn, .bl])) = _; rw [txtL_app, nmI_txt]; simp; rfl))
  have C1 : Hid (Writes R 106 #[R.ptr, .pointer (some ⟨b0, o0, none⟩), .int .i64 (0)] (prt R.m 0 (pt R.m a))) := hid (pt0 0 (by omega))
  have C2 : Hid (Writes R 104 #[R.ptr, .string (text (32 :: (bndB k ++ [32])))] [.bl, ky (bndB k), .bl]) := hid (put_its R [.bl, ky (bndB k), .bl] (32 :: (bndB k ++ [32])) (rfl))
  have C3 : Hid (Writes R 106 #[R.ptr, .pointer (some ⟨b1, o1, none⟩), .int .i64 (0)] (prt R.m 0 (pt R.m b))) := hid (pt1 0 (by omega))
  have HL := hid hl
  have HX := hid hx
  have H0 := hid h
  have c1 := (hx.later h.old).c1
  have c3 := (hx.later h.old).c3
  simp only [Ex.s] at c1
  clear hl h hx hk hv pt0 wh0 kd0 pt1 wh1 kd1 hs hq hkk
  go_enter Tryz.func109, Tryz.ntmps109
  go_wp2_with fail
  refine (C0.out _ _ H0.out (by have := HL.out; (try simp only [List.length_append, ← lng_def]); omega)).mono ?_
  rintro r w1 ⟨rfl, h1⟩
  have H1 := hid h1
  clear h1 c1 c3
  have c1 := (HX.out.later H1.out.old).c1
  have c3 := (HX.out.later H1.out.old).c3
  simp only [Ex.s] at c1
  go_wp2_with fail
  refine (C1.out _ _ H1.out (by have := HL.out; (try simp only [List.length_append, ← lng_def]); omega)).mono ?_
  rintro r w2 ⟨rfl, h2⟩
  have H2 := hid h2
  clear h2 c1 c3
  have c1 := (HX.out.later H2.out.old).c1
  have c3 := (HX.out.later H2.out.old).c3
  simp only [Ex.s] at c1
  go_wp2_with fail
  refine (C2.out _ _ H2.out (by have := HL.out; (try simp only [List.length_append, ← lng_def]); omega)).mono ?_
  rintro r w3 ⟨rfl, h3⟩
  have H3 := hid h3
  clear h3 c1 c3
  have c1 := (HX.out.later H3.out.old).c1
  have c3 := (HX.out.later H3.out.old).c3
  simp only [Ex.s] at c1
  go_wp2_with fail
  refine (C3.out _ _ H3.out (by have := HL.out; (try simp only [List.length_append, ← lng_def]); omega)).mono ?_
  rintro r w4 ⟨rfl, h4⟩
  have H4 := hid h4
  clear h4 c1 c3
  have c1 := (HX.out.later H4.out.old).c1
  have c3 := (HX.out.later H4.out.old).c3
  simp only [Ex.s] at c1
  clear c1 c3
  go_wp2
  go_end0
  refine ⟨rfl, ?_⟩
  rw [HE.out]
  have := H4.out
  simp only [txtL_app, List.append_assoc] at this ⊢
  exact this
set_option maxHeartbeats 4000000 in
theorem each_any (R : Rm) (hm : R.m ≤ 9) (s : Nam) (a b : Ex) (xb xo : Nat) (nv pv : Value) (hx : ExAt R.W0 xb xo (.mk 12 s [] [a, b]) nv pv) (hk : Kids R [a, b]) :
    Writes R 62 #[R.ptr, .pointer (some ⟨xb, xo, none⟩)] (flat R.m (.mk 12 s [] [a, b])) := by
  intro l w h hl
  have CC : Hid (Calls Tryz.prog 109 #[R.ptr, .string ⟨#[102, 111, 114, 32]⟩, .pointer (some ⟨xb, xo, none⟩), .string ⟨#[32, 114, 101, 116, 117, 114, 110, 32]⟩] w fun r w' => r = .returned (.tuple #[]) ∧ R.wr (l ++ txtL (flat R.m (.mk 12 s [] [a, b]))) w') := hid (bound_any R hm 12 (by omega) s a b xb xo nv pv hx hk l w h hl)
  clear h hl hx hk
  go_enter Tryz.func62, Tryz.ntmps62
  go_wp2_with fail
  refine CC.out.mono ?_
  rintro r w1 ⟨rfl, h1⟩
  have H1 := hid h1
  clear h1
  go_wp2
  go_end0
  exact ⟨rfl, H1.out⟩
set_option maxHeartbeats 4000000 in
theorem some_any (R : Rm) (hm : R.m ≤ 9) (s : Nam) (a b : Ex) (xb xo : Nat) (nv pv : Value) (hx : ExAt R.W0 xb xo (.mk 13 s [] [a, b]) nv pv) (hk : Kids R [a, b]) :
    Writes R 63 #[R.ptr, .pointer (some ⟨xb, xo, none⟩)] (flat R.m (.mk 13 s [] [a, b])) := by
  intro l w h hl
  have CC : Hid (Calls Tryz.prog 109 #[R.ptr, .string ⟨#[115, 111, 109, 101, 32]⟩, .pointer (some ⟨xb, xo, none⟩), .string ⟨#[32, 115, 97, 116, 105, 115, 102, 105, 101, 115, 32]⟩] w fun r w' => r = .returned (.tuple #[]) ∧ R.wr (l ++ txtL (flat R.m (.mk 13 s [] [a, b]))) w') := hid (bound_any R hm 13 (by omega) s a b xb xo nv pv hx hk l w h hl)
  clear h hl hx hk
  go_enter Tryz.func63, Tryz.ntmps63
  go_wp2_with fail
  refine CC.out.mono ?_
  rintro r w1 ⟨rfl, h1⟩
  have H1 := hid h1
  clear h1
  go_wp2
  go_end0
  exact ⟨rfl, H1.out⟩
set_option maxHeartbeats 4000000 in
theorem every_any (R : Rm) (hm : R.m ≤ 9) (s : Nam) (a b : Ex) (xb xo : Nat) (nv pv : Value) (hx : ExAt R.W0 xb xo (.mk 14 s [] [a, b]) nv pv) (hk : Kids R [a, b]) :
    Writes R 64 #[R.ptr, .pointer (some ⟨xb, xo, none⟩)] (flat R.m (.mk 14 s [] [a, b])) := by
  intro l w h hl
  have CC : Hid (Calls Tryz.prog 109 #[R.ptr, .string ⟨#[101, 118, 101, 114, 121, 32]⟩, .pointer (some ⟨xb, xo, none⟩), .string ⟨#[32, 115, 97, 116, 105, 115, 102, 105, 101, 115, 32]⟩] w fun r w' => r = .returned (.tuple #[]) ∧ R.wr (l ++ txtL (flat R.m (.mk 14 s [] [a, b]))) w') := hid (bound_any R hm 14 (by omega) s a b xb xo nv pv hx hk l w h hl)
  clear h hl hx hk
  go_enter Tryz.func64, Tryz.ntmps64
  go_wp2_with fail
  refine CC.out.mono ?_
  rintro r w1 ⟨rfl, h1⟩
  have H1 := hid h1
  clear h1
  go_wp2
  go_end0
  exact ⟨rfl, H1.out⟩
set_option maxHeartbeats 8000000 in
theorem function_any (R : Rm) (hm : R.m ≤ 9) (nm : List Nam) (a : Ex) (xb xo : Nat) (nv pv : Value) (hx : ExAt R.W0 xb xo (.mk 15 [] nm [a]) nv pv) (hk : Kids R [a]) :
    Writes R 65 #[R.ptr, .pointer (some ⟨xb, xo, none⟩)] (flat R.m (.mk 15 [] nm [a])) := by
  intro l w h hl
  have hv : Exs R.W0 pv [a] := hx.is.parts.2
  obtain ⟨b0, o0, ix0, pt0, wh0, kd0⟩ := kid hk hv hm 0 (by simp) 0 rfl
  have HE : Hid ((flat R.m (.mk 15 [] nm [a])) = (ky kFun :: sg 40 :: (namF true nm ++ [sg 41, .bl])) ++ ((prt R.m 0 (pt R.m a)))) := hid (by rw [fl15]; simp)
  rw [HE.out] at hl
  simp only [lng_app] at hl
  have hs : lng (namF true nm) ≤ 2000000 := by simp only [lng_ky, lng_sg, lng_app] at hl; omega
  obtain ⟨q0, q1, s0, s1, s2, s3, hq⟩ := sum3 #[102, 117, 110, 99, 116, 105, 111, 110, 40] #[41, 32] (txtL (namF true nm)) (by rw [← lng_def]; omega) (by decide) (by decide)
  have hj := Join_any nv nm w ((hx.later h.old).is.parts.1) hs
  have c2 := (hx.later h.old).c2
  have JO := hid hj
  obtain ⟨jt, hjt⟩ : ∃ jt, jt = txtL (namF true nm) := ⟨_, rfl⟩
  rw [← hjt] at hq s0 s1 hj JO
  have C0 : Hid (Writes R 104 #[R.ptr, .string (text q1)] (ky kFun :: sg 40 :: (namF true nm ++ [sg 41, .bl]))) := hid (put_its R (ky kFun :: sg 40 :: (namF true nm ++ [sg 41, .bl])) q1 (by rw [hq, hjt]; show kFun ++ (40 :: txtL (namF true nm ++ [sg 41, .bl])) = _; rw [txtL_app]; rfl))
  have C1 : Hid (Writes R 106 #[R.ptr, .pointer (some ⟨b0, o0, none⟩), .int .i64 (0)] (prt R.m 0 (pt R.m a))) := hid (pt0 0 (by omega))
  have HL := hid hl
  have HX := hid hx
  have H0 := hid h
  have c1 := (hx.later h.old).c1
  have c3 := (hx.later h.old).c3
  simp only [Ex.s] at c1
  clear hl h hx hk hv pt0 wh0 kd0 hs hq hj hjt
  go_enter Tryz.func65, Tryz.ntmps65
  go_wp2_with fail
  refine JO.out.mono ?_
  rintro r wj ⟨rfl, hbj⟩
  have H0 := hid (H0.out.later hbj)
  clear hbj c1 c3 c2 JO
  have c1 := (HX.out.later H0.out.old).c1
  have c3 := (HX.out.later H0.out.old).c3
  simp only [Ex.s] at c1
  go_wp2_with fail
  refine (C0.out _ _ H0.out (by have := HL.out; (try simp only [List.length_append, ← lng_def]); omega)).mono ?_
  rintro r w1 ⟨rfl, h1⟩
  have H1 := hid h1
  clear h1 c1 c3
  have c1 := (HX.out.later H1.out.old).c1
  have c3 := (HX.out.later H1.out.old).c3
  simp only [Ex.s] at c1
  go_wp2_with fail
  refine (C1.out _ _ H1.out (by have := HL.out; (try simp only [List.length_append, ← lng_def]); omega)).mono ?_
  rintro r w2 ⟨rfl, h2⟩
  have H2 := hid h2
  clear h2 c1 c3
  have c1 := (HX.out.later H2.out.old).c1
  have c3 := (HX.out.later H2.out.old).c3
  simp only [Ex.s] at c1
  clear c1 c3
  go_wp2
  go_end0
  refine ⟨rfl, ?_⟩
  rw [HE.out]
  have := H2.out
  simp only [txtL_app, List.append_assoc] at this ⊢
  exact this
set_option maxHeartbeats 4000000 in
theorem plain_any (R : Rm) (k : Int) (hk : k = 0 ∨ k = 2 ∨ k = 3) (s : Nam) (xb xo : Nat) (nv pv : Value) (hx : ExAt R.W0 xb xo (.mk k s [] []) nv pv) :
    Writes R 52 #[R.ptr, .pointer (some ⟨xb, xo, none⟩)] (flat R.m (.mk k s [] [])) := by
  intro l w h hl
  have HE : txtL (flat R.m (.mk k s [] [])) = s := by
    rcases hk with rfl | rfl | rfl
    · rw [fl0]; show s ++ [] = s; rw [List.append_nil]
    · rw [fl2]; show s ++ [] = s; rw [List.append_nil]
    · rw [fl3, nmI_txt]
  have CC := hid (put_its R _ s HE l w h hl)
  have c1 := (hx.later h.old).c1
  simp only [Ex.s] at c1
  clear h hl hx hk HE
  go_enter Tryz.func52, Tryz.ntmps52
  go_wp2_with fail
  refine CC.out.mono ?_
  rintro r w1 ⟨rfl, h1⟩
  have H1 := hid h1
  clear h1
  go_wp2
  go_end0
  exact ⟨rfl, H1.out⟩
set_option maxHeartbeats 4000000 in
theorem quoted_any (R : Rm) (s : Nam) (hs : Utf.check s = s.length) (xb xo : Nat) (nv pv : Value) (hx : ExAt R.W0 xb xo (.mk 1 s [] []) nv pv) :
    Writes R 53 #[R.ptr, .pointer (some ⟨xb, xo, none⟩)] (flat R.m (.mk 1 s [] [])) := by
  intro l w h hl
  have HE : txtL (flat R.m (.mk 1 s [] [])) = Fl.quote s := by
    rw [fl1]; show Fl.quote s ++ [] = _; rw [List.append_nil]
  have hle : s.length ≤ 2000000 := by
    rw [lng_def, HE, Fl.quote_len] at hl; have := (Fl.qs_len s).1; omega
  have HW := hid (fun W => put_its R _ (Fl.quote s) HE l W)
  have HQ := Fx.Quote_any s hle w
  unfold Fx.quoteV at HQ
  rw [if_pos hs] at HQ
  have CQ := hid HQ
  have c1 := (hx.later h.old).c1
  simp only [Ex.s] at c1
  have H0 := hid h
  have HL := hid hl
  clear h hl hx HE hle HQ hs
  go_enter Tryz.func53, Tryz.ntmps53
  go_wp2_with fail
  refine CQ.out.mono ?_
  rintro r w1 ⟨rfl, hb1⟩
  have H1 := hid (H0.out.later hb1)
  clear hb1 c1
  go_wp2_with fail
  refine (HW.out _ H1.out HL.out).mono ?_
  rintro r w2 ⟨rfl, h2⟩
  have H2 := hid h2
  clear h2
  go_wp2
  go_end0
  exact ⟨rfl, H2.out⟩
end Go.Proofs.YtkmdclfkmmlloaaGreatDoor.Fp
namespace Go.Proofs.YtkmdclfkmmlloaaGreatDoor.Fp
open Go Go.Proofs.YtkmdclfkmmlloaaGreatDoor Go.Proofs.YtkmdclfkmmlloaaGreatDoor.Xp Go.RowKit
set_option maxRecDepth 100000

theorem row_step (m : Nat) (f : Bool) (l : List Ex) (i : Nat) (hi : i < l.length) : txtL (rowF m f (flatL m (l.drop i))) = txtL (sep f) ++ (txtL (prt m 0 (pt m l[i])) ++ txtL (rowF m false (flatL m (l.drop (i + 1))))) := by
  rw [List.drop_eq_getElem_cons hi, flatL]
  show txtL (sep f ++ (prt m 0 (pt m l[i]) ++ rowF m false (flatL m (l.drop (i + 1))))) = _
  rw [txtL_app, txtL_app]
theorem row_done (m : Nat) (f : Bool) (l : List Ex) (i : Nat) (hi : ¬ i < l.length) : txtL (rowF m f (flatL m (l.drop i))) = [] := by
  rw [List.drop_eq_nil_of_le (by omega), flatL]; rfl
set_option maxHeartbeats 8000000 in
theorem row_any (R : Rm) (hm : R.m ≤ 9) (L : List Ex) (v : Value) (hv : Exs R.W0 v L) (hk : Kids R L) :
    Writes R 108 #[R.ptr, v] (rowF R.m true (flatL R.m L)) := by
  intro l w h hl
  have plen := fun X => hv.len 3 X
  have zl := hv.le
  have KD := hid (fun i hi => kid hk hv hm i hi (i : Int) rfl)
  have P44 := hid (put_its R [sg 44, .bl] [44, 32] rfl)
  have H0 := hid h
  have HB : Hid (l.length + (txtL (rowF R.m true (flatL R.m L))).length ≤ 2000000) := hid hl
  clear hk hv h hl
  go_enter Tryz.func108, Tryz.ntmps108
  go_wp2_with fail
  go_loopg [7] L.length (fun gk iv X => ∃ i : Nat, ∃ lw : List UInt8, iv = .int .i64 i ∧ i + gk = L.length ∧ Hid (R.wr lw X) ∧ Hid (lw ++ txtL (rowF R.m (decide (i = 0)) (flatL R.m (L.drop i))) = l ++ txtL (rowF R.m true (flatL R.m L))))
  case atStart => exact ⟨0, l, rfl, by omega, H0, hid rfl⟩
  case round =>
    rename World => X
    obtain ⟨i, lw, rfl, hig, HX, HE⟩ := hrel
    by_cases hi : i < L.length
    · obtain ⟨b, o, ix, hpt, _, _⟩ := KD.out i hi
      have PT : Hid (Writes R 106 #[R.ptr, .pointer (some ⟨b, o, none⟩), .int .i64 0] (prt R.m 0 (pt R.m L[i]))) := hid (hpt 0 (by omega))
      have HS := hid (row_step R.m (decide (i = 0)) L i hi)
      clear hpt
      have HL : Hid (lw.length + ((txtL (sep (decide (i = 0)))).length + (lng (prt R.m 0 (pt R.m L[i])) + 0)) ≤ 2000000) := hid (by
        have h1 := congrArg List.length HE.out
        rw [HS.out] at h1
        simp only [List.length_append] at h1
        have := HB.out
        rw [lng_def]; omega)
      by_cases h0 : i = 0
      · subst h0
        have ix0 : ∀ k W, (Instr.indexAt 23 v (.int k 0)).run Tryz.prog W = .ok (.pointer (some ⟨b, o, none⟩)) W := ix
        clear ix
        go_wp2_with fail
        refine (PT.out lw _ HX.out (by have := HL.out; omega)).mono ?_
        rintro r w2 ⟨rfl, h2⟩
        have H2 := hid h2
        clear h2
        go_wp2
        go_roundg (gk - 1)
        case measure => omega
        case rel => exact ⟨1, _, rfl, by omega, H2, hid (by
          have := HE.out
          rw [HS.out] at this
          rw [← this]
          simp [sep, txtL])⟩
      · have hi0 : 0 < i := by omega
        have HD := hid (show decide (i = 0) = false from by simpa using h0)
        rw [HD.out] at HS HL HE
        clear h0
        go_wp2_with fail
        refine (P44.out lw _ HX.out (by have := HL.out; show _ + (txtL (sep false)).length ≤ _; omega)).mono ?_
        rintro r w2 ⟨rfl, h2⟩
        have H2 := hid h2
        clear h2
        go_wp2_with fail
        refine (PT.out _ _ H2.out (by have := HL.out; rw [List.length_append]; show lw.length + (txtL (sep false)).length + _ ≤ _; omega)).mono ?_
        rintro r w3 ⟨rfl, h3⟩
        have H3 := hid h3
        clear h3
        go_wp2
        go_roundg (gk - 1)
        case measure => omega
        case rel => exact ⟨i + 1, _, rfl, by omega, H3, hid (by
          have := HE.out
          rw [HS.out] at this
          rw [← this, show decide (i + 1 = 0) = false from by simp]
          show (lw ++ txtL (sep false)) ++ _ ++ _ = _
          simp only [List.append_assoc])⟩
    · obtain rfl : i = L.length := by omega
      have HS := hid (row_done R.m (decide (L.length = 0)) L L.length (by omega))
      go_wp2
      go_end0
      refine ⟨rfl, ?_⟩
      have := HE.out
      rw [HS.out, List.append_nil] at this
      rw [← this]
      exact HX.out
set_option maxHeartbeats 8000000 in
theorem list_any (R : Rm) (hm : R.m ≤ 9) (L : List Ex) (xb xo : Nat) (nv pv : Value) (hx : ExAt R.W0 xb xo (.mk 16 [] [] L) nv pv) (hk : Kids R L) :
    Writes R 66 #[R.ptr, .pointer (some ⟨xb, xo, none⟩)] (flat R.m (.mk 16 [] [] L)) := by
  intro l w h hl
  have HE : Hid (flat R.m (.mk 16 [] [] L) = [sg 91] ++ (rowF R.m true (flatL R.m L) ++ [sg 93])) := hid (fl16 R.m L)
  rw [HE.out] at hl
  simp only [lng_app] at hl
  have C0 : Hid (Writes R 104 #[R.ptr, .string ⟨#[91]⟩] [sg 91]) := hid (put_its R [sg 91] [91] rfl)
  have C1 := hid (row_any R hm L pv hx.is.parts.2 hk)
  have C2 : Hid (Writes R 104 #[R.ptr, .string ⟨#[93]⟩] [sg 93]) := hid (put_its R [sg 93] [93] rfl)
  have HL := hid hl
  have HX := hid hx
  have H0 := hid h
  clear hl h hx hk
  go_enter Tryz.func66, Tryz.ntmps66
  go_wp2_with fail
  refine (C0.out _ _ H0.out (by have := HL.out; omega)).mono ?_
  rintro r w1 ⟨rfl, h1⟩
  have H1 := hid h1
  clear h1
  have c3 := (HX.out.later H1.out.old).c3
  go_wp2_with fail
  refine (C1.out _ _ H1.out (by have := HL.out; simp only [List.length_append, ← lng_def]; omega)).mono ?_
  rintro r w2 ⟨rfl, h2⟩
  have H2 := hid h2
  clear h2 c3
  go_wp2_with fail
  refine (C2.out _ _ H2.out (by have := HL.out; simp only [List.length_append, ← lng_def]; omega)).mono ?_
  rintro r w3 ⟨rfl, h3⟩
  have H3 := hid h3
  clear h3
  go_wp2
  go_end0
  refine ⟨rfl, ?_⟩
  rw [HE.out]
  have := H3.out
  simp only [txtL_app, List.append_assoc] at this ⊢
  exact this
set_option maxHeartbeats 8000000 in
theorem call_any (R : Rm) (hm : R.m ≤ 9) (a : Ex) (L : List Ex) (xb xo : Nat) (nv pv : Value) (hx : ExAt R.W0 xb xo (.mk 10 [] [] (a :: L)) nv pv) (hk : Kids R (a :: L)) :
    Writes R 60 #[R.ptr, .pointer (some ⟨xb, xo, none⟩)] (flat R.m (.mk 10 [] [] (a :: L))) := by
  intro l w h hl
  have hv : Exs R.W0 pv (a :: L) := hx.is.parts.2
  obtain ⟨b0, o0, ix0, pt0, _, _⟩ := kid hk hv hm 0 (by simp) 0 rfl
  obtain ⟨v', hsl, hv'⟩ := hv.drop 1 (by simp)
  have HE : Hid (flat R.m (.mk 10 [] [] (a :: L)) = prt R.m 8 (pt R.m a) ++ ([sg 40] ++ (rowF R.m true (flatL R.m L) ++ [sg 41]))) := hid (fl10 R.m a L)
  rw [HE.out] at hl
  simp only [lng_app] at hl
  have C0 : Hid (Writes R 106 #[R.ptr, .pointer (some ⟨b0, o0, none⟩), .int .i64 8] (prt R.m 8 (pt R.m a))) := hid (pt0 8 (by omega))
  have C1 : Hid (Writes R 104 #[R.ptr, .string ⟨#[40]⟩] [sg 40]) := hid (put_its R [sg 40] [40] rfl)
  have C2 := hid (row_any R hm L v' hv' (fun p hp => hk p (List.mem_cons_of_mem _ hp)))
  have C3 : Hid (Writes R 104 #[R.ptr, .string ⟨#[41]⟩] [sg 41]) := hid (put_its R [sg 41] [41] rfl)
  have sl : ∀ W k, (Instr.slice 23 pv (some (.int k 1)) none none).run Tryz.prog W = .ok v' W := hsl
  have HL := hid hl
  have HX := hid hx
  have H0 := hid h
  have c3 := (hx.later h.old).c3
  clear hl h hx hk hv pt0 hsl hv'
  go_enter Tryz.func60, Tryz.ntmps60
  go_wp2_with fail
  refine (C0.out _ _ H0.out (by have := HL.out; omega)).mono ?_
  rintro r w1 ⟨rfl, h1⟩
  have H1 := hid h1
  clear h1 c3
  go_wp2_with fail
  refine (C1.out _ _ H1.out (by have := HL.out; simp only [List.length_append, ← lng_def]; omega)).mono ?_
  rintro r w2 ⟨rfl, h2⟩
  have H2 := hid h2
  clear h2
  have c3 := (HX.out.later H2.out.old).c3
  go_wp2_with fail
  refine (C2.out _ _ H2.out (by have := HL.out; simp only [List.length_append, ← lng_def]; omega)).mono ?_
  rintro r w3 ⟨rfl, h3⟩
  have H3 := hid h3
  clear h3 c3
  go_wp2_with fail
  refine (C3.out _ _ H3.out (by have := HL.out; simp only [List.length_append, ← lng_def]; omega)).mono ?_
  rintro r w4 ⟨rfl, h4⟩
  have H4 := hid h4
  clear h4
  go_wp2
  go_end0
  refine ⟨rfl, ?_⟩
  rw [HE.out]
  have := H4.out
  simp only [txtL_app, List.append_assoc] at this ⊢
  exact this
theorem ent_step (m : Nat) (f : Bool) (nm : List Nam) (l : List Ex) (i : Nat) (hi : i < l.length) (hn : i < nm.length) : txtL (entF m f (nm.drop i) (flatL m (l.drop i))) = txtL (sep f) ++ ((nm[i] ++ [58, 32]) ++ (txtL (prt m 0 (pt m l[i])) ++ txtL (entF m false (nm.drop (i + 1)) (flatL m (l.drop (i + 1)))))) := by
  rw [List.drop_eq_getElem_cons hi, List.drop_eq_getElem_cons hn, flatL]
  show txtL (sep f ++ (nmI nm[i] ++ ([sg 58, .bl] ++ (prt m 0 (pt m l[i]) ++ entF m false (nm.drop (i + 1)) (flatL m (l.drop (i + 1))))))) = _
  rw [txtL_app, txtL_app, txtL_app, txtL_app, nmI_txt, List.append_assoc]
  rfl
theorem ent_done (m : Nat) (f : Bool) (nm : List Nam) (l : List Ex) (i : Nat) (hi : ¬ i < l.length) : txtL (entF m f (nm.drop i) (flatL m (l.drop i))) = [] := by
  have e : l.drop i = [] := List.drop_eq_nil_of_le (by omega)
  rw [e, flatL, ent_none _ _ _ _ (.inr rfl)]; rfl
set_option maxHeartbeats 8000000 in
theorem entries_any (R : Rm) (hm : R.m ≤ 9) (nm : List Nam) (L : List Ex) (hn : nm.length = L.length) (xb xo : Nat) (nv pv : Value) (hx : ExAt R.W0 xb xo (.mk 17 [] nm L) nv pv) (hk : Kids R L) :
    Writes R 67 #[R.ptr, .pointer (some ⟨xb, xo, none⟩)] (flat R.m (.mk 17 [] nm L)) := by
  intro l w h hl
  have hv : Exs R.W0 pv L := hx.is.parts.2
  have hs : Strs R.W0 nv nm := hx.is.parts.1
  have HE : Hid (flat R.m (.mk 17 [] nm L) = [sg 123] ++ (entF R.m true nm (flatL R.m L) ++ [sg 125])) := hid (fl17 R.m nm L)
  rw [HE.out] at hl
  simp only [lng_app] at hl
  have plen := fun X => hv.len 3 X
  have zl := hv.le
  have KD := hid (fun i hi => kid hk hv hm i hi (i : Int) rfl)
  have NM := hid (fun (W : World) (hW : Below R.B R.W0 W) (i : Nat) (hi : i < nm.length) => (hs.below hW (Nat.le_refl _)).at (P := Tryz.prog) i hi 22 9 undS sizS)
  have C0 : Hid (Writes R 104 #[R.ptr, .string ⟨#[123]⟩] [sg 123]) := hid (put_its R [sg 123] [123] rfl)
  have P44 := hid (put_its R [sg 44, .bl] [44, 32] rfl)
  have C2 : Hid (Writes R 104 #[R.ptr, .string ⟨#[125]⟩] [sg 125]) := hid (put_its R [sg 125] [125] rfl)
  have HL := hid hl
  have HX := hid hx
  have H0 := hid h
  clear hl h hx hk hv hs
  go_enter Tryz.func67, Tryz.ntmps67
  go_wp2_with fail
  refine (C0.out _ _ H0.out (by have := HL.out; omega)).mono ?_
  rintro r w1 ⟨rfl, h1⟩
  have H1 := hid h1
  clear h1
  have c3 := (HX.out.later H1.out.old).c3
  obtain ⟨l1, hl1⟩ : ∃ l1, l ++ txtL [sg 123] = l1 := ⟨_, rfl⟩
  rw [hl1] at H1
  have HB : Hid (l1.length + (txtL (entF R.m true nm (flatL R.m L))).length + 1 ≤ 2000000) := hid (by have := HL.out; rw [← hl1, List.length_append]; show l.length + 1 + lng _ + 1 ≤ _; have : lng [sg 123] = 1 := rfl; have : lng [sg 125] = 1 := rfl; omega)
  have HL1 := hid hl1
  clear hl1
  go_wp2_with fail
  clear c3
  go_loopg [12] L.length (fun gk iv X => ∃ i : Nat, ∃ lw : List UInt8, iv = .int .i64 i ∧ i + gk = L.length ∧ Hid (R.wr lw X) ∧ Hid (lw ++ txtL (entF R.m (decide (i = 0)) (nm.drop i) (flatL R.m (L.drop i))) = l1 ++ txtL (entF R.m true nm (flatL R.m L))))
  case atStart => exact ⟨0, l1, rfl, by omega, H1, hid rfl⟩
  case round =>
    rename World => X
    obtain ⟨i, lw, rfl, hig, HXw, HEq⟩ := hrel
    by_cases hi : i < L.length
    · obtain ⟨b, o, ix, hpt, _, _⟩ := KD.out i hi
      have PT : Hid (Writes R 106 #[R.ptr, .pointer (some ⟨b, o, none⟩), .int .i64 0] (prt R.m 0 (pt R.m L[i]))) := hid (hpt 0 (by omega))
      have hni : i < nm.length := by omega
      have HS := hid (ent_step R.m (decide (i = 0)) nm L i hi hni)
      clear hpt
      have HL2 : Hid (lw.length + ((txtL (sep (decide (i = 0)))).length + ((nm[i].length + 2) + lng (prt R.m 0 (pt R.m L[i])))) ≤ 2000000) := hid (by
        have h1 := congrArg List.length HEq.out
        rw [HS.out] at h1
        simp only [List.length_append, List.length_cons, List.length_nil] at h1
        have := HB.out
        rw [lng_def]; omega)
      obtain ⟨x, hxx⟩ : ∃ x, nm[i] = x := ⟨_, rfl⟩
      obtain ⟨q0, s0, s1, hq⟩ := sumR #[58, 32] x (by have := HL2.out; rw [hxx] at this; omega) (by decide)
      have PN : Hid (Writes R 104 #[R.ptr, .string (text q0)] (nmI x ++ [sg 58, .bl])) := hid (put_its R _ q0 (by rw [hq, txtL_app, nmI_txt]; rfl))
      have QL : Hid (lng (nmI x ++ [sg 58, .bl]) = x.length + 2) := hid (by rw [lng_app, lng_nm]; rfl)
      have QT : Hid (txtL (nmI x ++ [sg 58, .bl]) = x ++ [58, 32]) := hid (by rw [txtL_app, nmI_txt]; rfl)
      have NX : Hid (nm[i] = x) := hid hxx
      clear hq hxx
      by_cases h0 : i = 0
      · subst h0
        have ix0 : ∀ k W, (Instr.indexAt 23 pv (.int k 0)).run Tryz.prog W = .ok (.pointer (some ⟨b, o, none⟩)) W := ix
        obtain ⟨bn, on, jx, jc⟩ := NM.out X HXw.out.old 0 hni
        rw [NX.out] at jc
        have jx0 : ∀ k W, (Instr.indexAt 22 nv (.int k 0)).run Tryz.prog W = .ok (.pointer (some ⟨bn, on, none⟩)) W := jx
        have c2 := (HX.out.later HXw.out.old).c2
        clear ix jx
        go_wp2_with fail
        refine (PN.out lw _ HXw.out (by have := HL2.out; rw [NX.out] at this; rw [QL.out]; omega)).mono ?_
        rintro r w2 ⟨rfl, h2⟩
        have H2 := hid h2
        clear h2 c2 jc
        have c3 := (HX.out.later H2.out.old).c3
        go_wp2_with fail
        refine (PT.out _ _ H2.out (by have := HL2.out; rw [NX.out] at this; rw [List.length_append, ← lng_def, QL.out]; omega)).mono ?_
        rintro r w3 ⟨rfl, h3⟩
        have H3 := hid h3
        clear h3 c3
        go_wp2
        go_roundg (gk - 1)
        case measure => omega
        case rel => exact ⟨1, _, rfl, by omega, H3, hid (by
          have := HEq.out
          rw [HS.out, NX.out, ← QT.out] at this
          rw [← this]
          simp [sep, txtL])⟩
      · have hi0 : 0 < i := by omega
        have HD := hid (show decide (i = 0) = false from by simpa using h0)
        rw [HD.out] at HS HL2 HEq
        clear h0
        go_wp2_with fail
        refine (P44.out lw _ HXw.out (by have := HL2.out; show _ + (txtL (sep false)).length ≤ _; omega)).mono ?_
        rintro r w2 ⟨rfl, h2⟩
        have H2 := hid h2
        clear h2
        obtain ⟨bn, on, jx, jc⟩ := NM.out w2 H2.out.old i hni
        rw [NX.out] at jc
        have c2 := (HX.out.later H2.out.old).c2
        go_wp2_with fail
        refine (PN.out _ _ H2.out (by have := HL2.out; rw [NX.out] at this; rw [QL.out, List.length_append]; show lw.length + (txtL (sep false)).length + _ ≤ _; omega)).mono ?_
        rintro r w3 ⟨rfl, h3⟩
        have H3 := hid h3
        clear h3 c2 jc
        have c3 := (HX.out.later H3.out.old).c3
        go_wp2_with fail
        refine (PT.out _ _ H3.out (by have := HL2.out; rw [NX.out] at this; rw [List.length_append, List.length_append, ← lng_def (nmI x ++ _), QL.out]; show lw.length + (txtL (sep false)).length + _ + _ ≤ _; omega)).mono ?_
        rintro r w4 ⟨rfl, h4⟩
        have H4 := hid h4
        clear h4 c3
        go_wp2
        go_roundg (gk - 1)
        case measure => omega
        case rel => exact ⟨i + 1, _, rfl, by omega, H4, hid (by
          have := HEq.out
          rw [HS.out, NX.out, ← QT.out] at this
          rw [← this, show decide (i + 1 = 0) = false from by simp]
          show ((lw ++ txtL (sep false)) ++ _) ++ _ ++ _ = _
          simp only [List.append_assoc])⟩
    · obtain rfl : i = L.length := by omega
      have HS := hid (ent_done R.m (decide (L.length = 0)) nm L L.length (by omega))
      have HQ : Hid (lw = l1 ++ txtL (entF R.m true nm (flatL R.m L))) := hid (by have := HEq.out; rw [HS.out, List.append_nil] at this; exact this)
      go_wp2_with fail
      refine (C2.out _ _ HXw.out (by have := HB.out; rw [HQ.out, List.length_append]; show _ + 1 ≤ _; omega)).mono ?_
      rintro r w2 ⟨rfl, h2⟩
      have H2 := hid h2
      clear h2
      go_wp2
      go_end0
      refine ⟨rfl, ?_⟩
      have := H2.out
      rw [HQ.out, ← HL1.out] at this
      rw [HE.out]
      simp only [txtL_app, List.append_assoc] at this ⊢
      exact this
end Go.Proofs.YtkmdclfkmmlloaaGreatDoor.Fp
namespace Go.Proofs.YtkmdclfkmmlloaaGreatDoor.Fp
open Go Go.Proofs.YtkmdclfkmmlloaaGreatDoor Go.RowKit
set_option maxRecDepth 100000
theorem tabU : Tryz.prog.underlying 63 = some (.array 20 61) := Tryz.underlying63
theorem tabS : (Tryz.prog.info? 63).map (·.size) = some 20 := by kernel_rfl
theorem funs_one : funs.toArray.all (·.oneCell') = true := by kernel_rfl
theorem setRow_facts (w : World) (g B : Nat) (old c : Array Value) (t : TypeId) (h : w.heap[g]? = some (.cells old t (0, 0))) (hB : B ≤ g) : (w.setRow g c).heap[g]? = some (.cells c t (0, 0)) ∧ Below B w (w.setRow g c) := by
  constructor
  · simp [World.setRow, Array.getElem?_modify, h]
  · refine ⟨rfl, rfl, rfl, by simp [World.setRow], fun k hk => ?_⟩
    simp only [World.setRow, Array.getElem?_modify]
    rw [if_neg (by omega)]
set_option maxHeartbeats 8000000 in
theorem kinds_any (w : World) : Calls Tryz.prog 32 #[] w fun e w' => e = .returned (.agg funs.toArray) ∧ Below w.heap.size w w' := by
  obtain ⟨V, hV⟩ : ∃ V, w.alloc (.cells #[.nilFunc, .nilFunc, .nilFunc, .nilFunc, .nilFunc, .nilFunc, .nilFunc, .nilFunc, .nilFunc, .nilFunc, .nilFunc, .nilFunc, .nilFunc, .nilFunc, .nilFunc, .nilFunc, .nilFunc, .nilFunc, .nilFunc, .nilFunc] 63) = V := ⟨_, rfl⟩
  have hp : V.heap[w.heap.size]? = some (.cells #[.nilFunc, .nilFunc, .nilFunc, .nilFunc, .nilFunc, .nilFunc, .nilFunc, .nilFunc, .nilFunc, .nilFunc, .nilFunc, .nilFunc, .nilFunc, .nilFunc, .nilFunc, .nilFunc, .nilFunc, .nilFunc, .nilFunc, .nilFunc] 63 (0, 0)) := by rw [← hV]; exact heap_alloc_new w _
  have hb : Below w.heap.size w V := by rw [← hV]; exact ba (b0 w) _
  have HP := hid hp
  have HB := hid hb
  clear hp hb
  go_enter Tryz.func32, Tryz.ntmps32
  go_wp2_with (refine wpList_store_row rfl _ _ _ rfl w.heap.size funs.toArray rfl rfl _ _ HP.out tabS rfl funs_one ?_)
  obtain ⟨g1, g2⟩ := setRow_facts V w.heap.size w.heap.size _ funs.toArray _ HP.out (Nat.le_refl _)
  have G1 := hid g1
  have G2 := hid g2
  generalize V.setRow w.heap.size funs.toArray = V2 at *
  clear g1 g2
  go_wp2
  refine bodyPost_ret (results_cell_row rfl _ _ _ _ funs.toArray _ _ rfl G1.out tabU rfl tabS) rfl ?_
  exact ⟨rfl, HB.out.trans G2.out⟩
end Go.Proofs.YtkmdclfkmmlloaaGreatDoor.Fp
namespace Go.Proofs.YtkmdclfkmmlloaaGreatDoor.Fp
open Go Go.Proofs.YtkmdclfkmmlloaaGreatDoor Go.Proofs.YtkmdclfkmmlloaaGreatDoor.Xp Go.RowKit
set_option maxRecDepth 100000

set_option maxHeartbeats 4000000 in
theorem whole_0 (R : Rm) (e : Ex) (hk : e.kind = 0) (xb xo : Nat) (nv pv : Value) (hx : ExAt R.W0 xb xo e nv pv) (hc : Writes R 52 #[R.ptr, .pointer (some ⟨xb, xo, none⟩)] (flat R.m e)) : Whole R e xb xo := by
  intro l w h hl
  have c0 := (hx.later h.old).c0
  rw [hk] at c0
  have k0 := h.kind 0 _ rfl
  simp only [Nat.reduceAdd] at k0
  have d0 : w.drew.cell? ⟨xb, xo, none⟩ = some (.int .i64 0) := c0
  have d1 : w.drew.cell? ⟨R.b, 3, none⟩ = some (.func (.func 52) #[] #[]) := k0
  have CC := hid (hc l w.drew (h.later (bd1 w)) hl)
  clear h hx hc hk hl
  go_enter Tryz.func33, Tryz.ntmps33
  go_wp2_with fail
  go_region_with (go_at_call 52; refine CC.out.mono ?_; rintro r w1 ⟨rfl, h1⟩; have H1 := hid h1; clear h1)
  all_goals
    go_wp2
    go_end0
    exact ⟨rfl, H1.out⟩
set_option maxHeartbeats 4000000 in
theorem whole_1 (R : Rm) (e : Ex) (hk : e.kind = 1) (xb xo : Nat) (nv pv : Value) (hx : ExAt R.W0 xb xo e nv pv) (hc : Writes R 53 #[R.ptr, .pointer (some ⟨xb, xo, none⟩)] (flat R.m e)) : Whole R e xb xo := by
  intro l w h hl
  have c0 := (hx.later h.old).c0
  rw [hk] at c0
  have k0 := h.kind 1 _ rfl
  simp only [Nat.reduceAdd] at k0
  have d0 : w.drew.cell? ⟨xb, xo, none⟩ = some (.int .i64 1) := c0
  have d1 : w.drew.cell? ⟨R.b, 4, none⟩ = some (.func (.func 53) #[] #[]) := k0
  have CC := hid (hc l w.drew (h.later (bd1 w)) hl)
  clear h hx hc hk hl
  go_enter Tryz.func33, Tryz.ntmps33
  go_wp2_with fail
  go_region_with (go_at_call 53; refine CC.out.mono ?_; rintro r w1 ⟨rfl, h1⟩; have H1 := hid h1; clear h1)
  all_goals
    go_wp2
    go_end0
    exact ⟨rfl, H1.out⟩
set_option maxHeartbeats 4000000 in
theorem whole_2 (R : Rm) (e : Ex) (hk : e.kind = 2) (xb xo : Nat) (nv pv : Value) (hx : ExAt R.W0 xb xo e nv pv) (hc : Writes R 52 #[R.ptr, .pointer (some ⟨xb, xo, none⟩)] (flat R.m e)) : Whole R e xb xo := by
  intro l w h hl
  have c0 := (hx.later h.old).c0
  rw [hk] at c0
  have k0 := h.kind 2 _ rfl
  simp only [Nat.reduceAdd] at k0
  have d0 : w.drew.cell? ⟨xb, xo, none⟩ = some (.int .i64 2) := c0
  have d1 : w.drew.cell? ⟨R.b, 5, none⟩ = some (.func (.func 52) #[] #[]) := k0
  have CC := hid (hc l w.drew (h.later (bd1 w)) hl)
  clear h hx hc hk hl
  go_enter Tryz.func33, Tryz.ntmps33
  go_wp2_with fail
  go_region_with (go_at_call 52; refine CC.out.mono ?_; rintro r w1 ⟨rfl, h1⟩; have H1 := hid h1; clear h1)
  all_goals
    go_wp2
    go_end0
    exact ⟨rfl, H1.out⟩
set_option maxHeartbeats 4000000 in
theorem whole_3 (R : Rm) (e : Ex) (hk : e.kind = 3) (xb xo : Nat) (nv pv : Value) (hx : ExAt R.W0 xb xo e nv pv) (hc : Writes R 52 #[R.ptr, .pointer (some ⟨xb, xo, none⟩)] (flat R.m e)) : Whole R e xb xo := by
  intro l w h hl
  have c0 := (hx.later h.old).c0
  rw [hk] at c0
  have k0 := h.kind 3 _ rfl
  simp only [Nat.reduceAdd] at k0
  have d0 : w.drew.cell? ⟨xb, xo, none⟩ = some (.int .i64 3) := c0
  have d1 : w.drew.cell? ⟨R.b, 6, none⟩ = some (.func (.func 52) #[] #[]) := k0
  have CC := hid (hc l w.drew (h.later (bd1 w)) hl)
  clear h hx hc hk hl
  go_enter Tryz.func33, Tryz.ntmps33
  go_wp2_with fail
  go_region_with (go_at_call 52; refine CC.out.mono ?_; rintro r w1 ⟨rfl, h1⟩; have H1 := hid h1; clear h1)
  all_goals
    go_wp2
    go_end0
    exact ⟨rfl, H1.out⟩
set_option maxHeartbeats 4000000 in
theorem whole_4 (R : Rm) (e : Ex) (hk : e.kind = 4) (xb xo : Nat) (nv pv : Value) (hx : ExAt R.W0 xb xo e nv pv) (hc : Writes R 54 #[R.ptr, .pointer (some ⟨xb, xo, none⟩)] (flat R.m e)) : Whole R e xb xo := by
  intro l w h hl
  have c0 := (hx.later h.old).c0
  rw [hk] at c0
  have k0 := h.kind 4 _ rfl
  simp only [Nat.reduceAdd] at k0
  have d0 : w.drew.cell? ⟨xb, xo, none⟩ = some (.int .i64 4) := c0
  have d1 : w.drew.cell? ⟨R.b, 7, none⟩ = some (.func (.func 54) #[] #[]) := k0
  have CC := hid (hc l w.drew (h.later (bd1 w)) hl)
  clear h hx hc hk hl
  go_enter Tryz.func33, Tryz.ntmps33
  go_wp2_with fail
  go_region_with (go_at_call 54; refine CC.out.mono ?_; rintro r w1 ⟨rfl, h1⟩; have H1 := hid h1; clear h1)
  all_goals
    go_wp2
    go_end0
    exact ⟨rfl, H1.out⟩
set_option maxHeartbeats 4000000 in
theorem whole_5 (R : Rm) (e : Ex) (hk : e.kind = 5) (xb xo : Nat) (nv pv : Value) (hx : ExAt R.W0 xb xo e nv pv) (hc : Writes R 55 #[R.ptr, .pointer (some ⟨xb, xo, none⟩)] (flat R.m e)) : Whole R e xb xo := by
  intro l w h hl
  have c0 := (hx.later h.old).c0
  rw [hk] at c0
  have k0 := h.kind 5 _ rfl
  simp only [Nat.reduceAdd] at k0
  have d0 : w.drew.cell? ⟨xb, xo, none⟩ = some (.int .i64 5) := c0
  have d1 : w.drew.cell? ⟨R.b, 8, none⟩ = some (.func (.func 55) #[] #[]) := k0
  have CC := hid (hc l w.drew (h.later (bd1 w)) hl)
  clear h hx hc hk hl
  go_enter Tryz.func33, Tryz.ntmps33
  go_wp2_with fail
  go_region_with (go_at_call 55; refine CC.out.mono ?_; rintro r w1 ⟨rfl, h1⟩; have H1 := hid h1; clear h1)
  all_goals
    go_wp2
    go_end0
    exact ⟨rfl, H1.out⟩
set_option maxHeartbeats 4000000 in
theorem whole_6 (R : Rm) (e : Ex) (hk : e.kind = 6) (xb xo : Nat) (nv pv : Value) (hx : ExAt R.W0 xb xo e nv pv) (hc : Writes R 56 #[R.ptr, .pointer (some ⟨xb, xo, none⟩)] (flat R.m e)) : Whole R e xb xo := by
  intro l w h hl
  have c0 := (hx.later h.old).c0
  rw [hk] at c0
  have k0 := h.kind 6 _ rfl
  simp only [Nat.reduceAdd] at k0
  have d0 : w.drew.cell? ⟨xb, xo, none⟩ = some (.int .i64 6) := c0
  have d1 : w.drew.cell? ⟨R.b, 9, none⟩ = some (.func (.func 56) #[] #[]) := k0
  have CC := hid (hc l w.drew (h.later (bd1 w)) hl)
  clear h hx hc hk hl
  go_enter Tryz.func33, Tryz.ntmps33
  go_wp2_with fail
  go_region_with (go_at_call 56; refine CC.out.mono ?_; rintro r w1 ⟨rfl, h1⟩; have H1 := hid h1; clear h1)
  all_goals
    go_wp2
    go_end0
    exact ⟨rfl, H1.out⟩
set_option maxHeartbeats 4000000 in
theorem whole_7 (R : Rm) (e : Ex) (hk : e.kind = 7) (xb xo : Nat) (nv pv : Value) (hx : ExAt R.W0 xb xo e nv pv) (hc : Writes R 57 #[R.ptr, .pointer (some ⟨xb, xo, none⟩)] (flat R.m e)) : Whole R e xb xo := by
  intro l w h hl
  have c0 := (hx.later h.old).c0
  rw [hk] at c0
  have k0 := h.kind 7 _ rfl
  simp only [Nat.reduceAdd] at k0
  have d0 : w.drew.cell? ⟨xb, xo, none⟩ = some (.int .i64 7) := c0
  have d1 : w.drew.cell? ⟨R.b, 10, none⟩ = some (.func (.func 57) #[] #[]) := k0
  have CC := hid (hc l w.drew (h.later (bd1 w)) hl)
  clear h hx hc hk hl
  go_enter Tryz.func33, Tryz.ntmps33
  go_wp2_with fail
  go_region_with (go_at_call 57; refine CC.out.mono ?_; rintro r w1 ⟨rfl, h1⟩; have H1 := hid h1; clear h1)
  all_goals
    go_wp2
    go_end0
    exact ⟨rfl, H1.out⟩
set_option maxHeartbeats 4000000 in
theorem whole_8 (R : Rm) (e : Ex) (hk : e.kind = 8) (xb xo : Nat) (nv pv : Value) (hx : ExAt R.W0 xb xo e nv pv) (hc : Writes R 58 #[R.ptr, .pointer (some ⟨xb, xo, none⟩)] (flat R.m e)) : Whole R e xb xo := by
  intro l w h hl
  have c0 := (hx.later h.old).c0
  rw [hk] at c0
  have k0 := h.kind 8 _ rfl
  simp only [Nat.reduceAdd] at k0
  have d0 : w.drew.cell? ⟨xb, xo, none⟩ = some (.int .i64 8) := c0
  have d1 : w.drew.cell? ⟨R.b, 11, none⟩ = some (.func (.func 58) #[] #[]) := k0
  have CC := hid (hc l w.drew (h.later (bd1 w)) hl)
  clear h hx hc hk hl
  go_enter Tryz.func33, Tryz.ntmps33
  go_wp2_with fail
  go_region_with (go_at_call 58; refine CC.out.mono ?_; rintro r w1 ⟨rfl, h1⟩; have H1 := hid h1; clear h1)
  all_goals
    go_wp2
    go_end0
    exact ⟨rfl, H1.out⟩
set_option maxHeartbeats 4000000 in
theorem whole_9 (R : Rm) (e : Ex) (hk : e.kind = 9) (xb xo : Nat) (nv pv : Value) (hx : ExAt R.W0 xb xo e nv pv) (hc : Writes R 59 #[R.ptr, .pointer (some ⟨xb, xo, none⟩)] (flat R.m e)) : Whole R e xb xo := by
  intro l w h hl
  have c0 := (hx.later h.old).c0
  rw [hk] at c0
  have k0 := h.kind 9 _ rfl
  simp only [Nat.reduceAdd] at k0
  have d0 : w.drew.cell? ⟨xb, xo, none⟩ = some (.int .i64 9) := c0
  have d1 : w.drew.cell? ⟨R.b, 12, none⟩ = some (.func (.func 59) #[] #[]) := k0
  have CC := hid (hc l w.drew (h.later (bd1 w)) hl)
  clear h hx hc hk hl
  go_enter Tryz.func33, Tryz.ntmps33
  go_wp2_with fail
  go_region_with (go_at_call 59; refine CC.out.mono ?_; rintro r w1 ⟨rfl, h1⟩; have H1 := hid h1; clear h1)
  all_goals
    go_wp2
    go_end0
    exact ⟨rfl, H1.out⟩
set_option maxHeartbeats 4000000 in
theorem whole_10 (R : Rm) (e : Ex) (hk : e.kind = 10) (xb xo : Nat) (nv pv : Value) (hx : ExAt R.W0 xb xo e nv pv) (hc : Writes R 60 #[R.ptr, .pointer (some ⟨xb, xo, none⟩)] (flat R.m e)) : Whole R e xb xo := by
  intro l w h hl
  have c0 := (hx.later h.old).c0
  rw [hk] at c0
  have k0 := h.kind 10 _ rfl
  simp only [Nat.reduceAdd] at k0
  have d0 : w.drew.cell? ⟨xb, xo, none⟩ = some (.int .i64 10) := c0
  have d1 : w.drew.cell? ⟨R.b, 13, none⟩ = some (.func (.func 60) #[] #[]) := k0
  have CC := hid (hc l w.drew (h.later (bd1 w)) hl)
  clear h hx hc hk hl
  go_enter Tryz.func33, Tryz.ntmps33
  go_wp2_with fail
  go_region_with (go_at_call 60; refine CC.out.mono ?_; rintro r w1 ⟨rfl, h1⟩; have H1 := hid h1; clear h1)
  all_goals
    go_wp2
    go_end0
    exact ⟨rfl, H1.out⟩
set_option maxHeartbeats 4000000 in
theorem whole_11 (R : Rm) (e : Ex) (hk : e.kind = 11) (xb xo : Nat) (nv pv : Value) (hx : ExAt R.W0 xb xo e nv pv) (hc : Writes R 61 #[R.ptr, .pointer (some ⟨xb, xo, none⟩)] (flat R.m e)) : Whole R e xb xo := by
  intro l w h hl
  have c0 := (hx.later h.old).c0
  rw [hk] at c0
  have k0 := h.kind 11 _ rfl
  simp only [Nat.reduceAdd] at k0
  have d0 : w.drew.cell? ⟨xb, xo, none⟩ = some (.int .i64 11) := c0
  have d1 : w.drew.cell? ⟨R.b, 14, none⟩ = some (.func (.func 61) #[] #[]) := k0
  have CC := hid (hc l w.drew (h.later (bd1 w)) hl)
  clear h hx hc hk hl
  go_enter Tryz.func33, Tryz.ntmps33
  go_wp2_with fail
  go_region_with (go_at_call 61; refine CC.out.mono ?_; rintro r w1 ⟨rfl, h1⟩; have H1 := hid h1; clear h1)
  all_goals
    go_wp2
    go_end0
    exact ⟨rfl, H1.out⟩
set_option maxHeartbeats 4000000 in
theorem whole_12 (R : Rm) (e : Ex) (hk : e.kind = 12) (xb xo : Nat) (nv pv : Value) (hx : ExAt R.W0 xb xo e nv pv) (hc : Writes R 62 #[R.ptr, .pointer (some ⟨xb, xo, none⟩)] (flat R.m e)) : Whole R e xb xo := by
  intro l w h hl
  have c0 := (hx.later h.old).c0
  rw [hk] at c0
  have k0 := h.kind 12 _ rfl
  simp only [Nat.reduceAdd] at k0
  have d0 : w.drew.cell? ⟨xb, xo, none⟩ = some (.int .i64 12) := c0
  have d1 : w.drew.cell? ⟨R.b, 15, none⟩ = some (.func (.func 62) #[] #[]) := k0
  have CC := hid (hc l w.drew (h.later (bd1 w)) hl)
  clear h hx hc hk hl
  go_enter Tryz.func33, Tryz.ntmps33
  go_wp2_with fail
  go_region_with (go_at_call 62; refine CC.out.mono ?_; rintro r w1 ⟨rfl, h1⟩; have H1 := hid h1; clear h1)
  all_goals
    go_wp2
    go_end0
    exact ⟨rfl, H1.out⟩
set_option maxHeartbeats 4000000 in
theorem whole_13 (R : Rm) (e : Ex) (hk : e.kind = 13) (xb xo : Nat) (nv pv : Value) (hx : ExAt R.W0 xb xo e nv pv) (hc : Writes R 63 #[R.ptr, .pointer (some ⟨xb, xo, none⟩)] (flat R.m e)) : Whole R e xb xo := by
  intro l w h hl
  have c0 := (hx.later h.old).c0
  rw [hk] at c0
  have k0 := h.kind 13 _ rfl
  simp only [Nat.reduceAdd] at k0
  have d0 : w.drew.cell? ⟨xb, xo, none⟩ = some (.int .i64 13) := c0
  have d1 : w.drew.cell? ⟨R.b, 16, none⟩ = some (.func (.func 63) #[] #[]) := k0
  have CC := hid (hc l w.drew (h.later (bd1 w)) hl)
  clear h hx hc hk hl
  go_enter Tryz.func33, Tryz.ntmps33
  go_wp2_with fail
  go_region_with (go_at_call 63; refine CC.out.mono ?_; rintro r w1 ⟨rfl, h1⟩; have H1 := hid h1; clear h1)
  all_goals
    go_wp2
    go_end0
    exact ⟨rfl, H1.out⟩
set_option maxHeartbeats 4000000 in
theorem whole_14 (R : Rm) (e : Ex) (hk : e.kind = 14) (xb xo : Nat) (nv pv : Value) (hx : ExAt R.W0 xb xo e nv pv) (hc : Writes R 64 #[R.ptr, .pointer (some ⟨xb, xo, none⟩)] (flat R.m e)) : Whole R e xb xo := by
  intro l w h hl
  have c0 := (hx.later h.old).c0
  rw [hk] at c0
  have k0 := h.kind 14 _ rfl
  simp only [Nat.reduceAdd] at k0
  have d0 : w.drew.cell? ⟨xb, xo, none⟩ = some (.int .i64 14) := c0
  have d1 : w.drew.cell? ⟨R.b, 17, none⟩ = some (.func (.func 64) #[] #[]) := k0
  have CC := hid (hc l w.drew (h.later (bd1 w)) hl)
  clear h hx hc hk hl
  go_enter Tryz.func33, Tryz.ntmps33
  go_wp2_with fail
  go_region_with (go_at_call 64; refine CC.out.mono ?_; rintro r w1 ⟨rfl, h1⟩; have H1 := hid h1; clear h1)
  all_goals
    go_wp2
    go_end0
    exact ⟨rfl, H1.out⟩
set_option maxHeartbeats 4000000 in
theorem whole_15 (R : Rm) (e : Ex) (hk : e.kind = 15) (xb xo : Nat) (nv pv : Value) (hx : ExAt R.W0 xb xo e nv pv) (hc : Writes R 65 #[R.ptr, .pointer (some ⟨xb, xo, none⟩)] (flat R.m e)) : Whole R e xb xo := by
  intro l w h hl
  have c0 := (hx.later h.old).c0
  rw [hk] at c0
  have k0 := h.kind 15 _ rfl
  simp only [Nat.reduceAdd] at k0
  have d0 : w.drew.cell? ⟨xb, xo, none⟩ = some (.int .i64 15) := c0
  have d1 : w.drew.cell? ⟨R.b, 18, none⟩ = some (.func (.func 65) #[] #[]) := k0
  have CC := hid (hc l w.drew (h.later (bd1 w)) hl)
  clear h hx hc hk hl
  go_enter Tryz.func33, Tryz.ntmps33
  go_wp2_with fail
  go_region_with (go_at_call 65; refine CC.out.mono ?_; rintro r w1 ⟨rfl, h1⟩; have H1 := hid h1; clear h1)
  all_goals
    go_wp2
    go_end0
    exact ⟨rfl, H1.out⟩
set_option maxHeartbeats 4000000 in
theorem whole_16 (R : Rm) (e : Ex) (hk : e.kind = 16) (xb xo : Nat) (nv pv : Value) (hx : ExAt R.W0 xb xo e nv pv) (hc : Writes R 66 #[R.ptr, .pointer (some ⟨xb, xo, none⟩)] (flat R.m e)) : Whole R e xb xo := by
  intro l w h hl
  have c0 := (hx.later h.old).c0
  rw [hk] at c0
  have k0 := h.kind 16 _ rfl
  simp only [Nat.reduceAdd] at k0
  have d0 : w.drew.cell? ⟨xb, xo, none⟩ = some (.int .i64 16) := c0
  have d1 : w.drew.cell? ⟨R.b, 19, none⟩ = some (.func (.func 66) #[] #[]) := k0
  have CC := hid (hc l w.drew (h.later (bd1 w)) hl)
  clear h hx hc hk hl
  go_enter Tryz.func33, Tryz.ntmps33
  go_wp2_with fail
  go_region_with (go_at_call 66; refine CC.out.mono ?_; rintro r w1 ⟨rfl, h1⟩; have H1 := hid h1; clear h1)
  all_goals
    go_wp2
    go_end0
    exact ⟨rfl, H1.out⟩
set_option maxHeartbeats 4000000 in
theorem whole_17 (R : Rm) (e : Ex) (hk : e.kind = 17) (xb xo : Nat) (nv pv : Value) (hx : ExAt R.W0 xb xo e nv pv) (hc : Writes R 67 #[R.ptr, .pointer (some ⟨xb, xo, none⟩)] (flat R.m e)) : Whole R e xb xo := by
  intro l w h hl
  have c0 := (hx.later h.old).c0
  rw [hk] at c0
  have k0 := h.kind 17 _ rfl
  simp only [Nat.reduceAdd] at k0
  have d0 : w.drew.cell? ⟨xb, xo, none⟩ = some (.int .i64 17) := c0
  have d1 : w.drew.cell? ⟨R.b, 20, none⟩ = some (.func (.func 67) #[] #[]) := k0
  have CC := hid (hc l w.drew (h.later (bd1 w)) hl)
  clear h hx hc hk hl
  go_enter Tryz.func33, Tryz.ntmps33
  go_wp2_with fail
  go_region_with (go_at_call 67; refine CC.out.mono ?_; rintro r w1 ⟨rfl, h1⟩; have H1 := hid h1; clear h1)
  all_goals
    go_wp2
    go_end0
    exact ⟨rfl, H1.out⟩
set_option maxHeartbeats 4000000 in
theorem whole_18 (R : Rm) (e : Ex) (hk : e.kind = 18) (xb xo : Nat) (nv pv : Value) (hx : ExAt R.W0 xb xo e nv pv) (hc : Writes R 68 #[R.ptr, .pointer (some ⟨xb, xo, none⟩)] (flat R.m e)) : Whole R e xb xo := by
  intro l w h hl
  have c0 := (hx.later h.old).c0
  rw [hk] at c0
  have k0 := h.kind 18 _ rfl
  simp only [Nat.reduceAdd] at k0
  have d0 : w.drew.cell? ⟨xb, xo, none⟩ = some (.int .i64 18) := c0
  have d1 : w.drew.cell? ⟨R.b, 21, none⟩ = some (.func (.func 68) #[] #[]) := k0
  have CC := hid (hc l w.drew (h.later (bd1 w)) hl)
  clear h hx hc hk hl
  go_enter Tryz.func33, Tryz.ntmps33
  go_wp2_with fail
  go_region_with (go_at_call 68; refine CC.out.mono ?_; rintro r w1 ⟨rfl, h1⟩; have H1 := hid h1; clear h1)
  all_goals
    go_wp2
    go_end0
    exact ⟨rfl, H1.out⟩
set_option maxHeartbeats 4000000 in
theorem whole_19 (R : Rm) (e : Ex) (hk : e.kind = 19) (xb xo : Nat) (nv pv : Value) (hx : ExAt R.W0 xb xo e nv pv) (hc : Writes R 69 #[R.ptr, .pointer (some ⟨xb, xo, none⟩)] (flat R.m e)) : Whole R e xb xo := by
  intro l w h hl
  have c0 := (hx.later h.old).c0
  rw [hk] at c0
  have k0 := h.kind 19 _ rfl
  simp only [Nat.reduceAdd] at k0
  have d0 : w.drew.cell? ⟨xb, xo, none⟩ = some (.int .i64 19) := c0
  have d1 : w.drew.cell? ⟨R.b, 22, none⟩ = some (.func (.func 69) #[] #[]) := k0
  have CC := hid (hc l w.drew (h.later (bd1 w)) hl)
  clear h hx hc hk hl
  go_enter Tryz.func33, Tryz.ntmps33
  go_wp2_with fail
  go_region_with (go_at_call 69; refine CC.out.mono ?_; rintro r w1 ⟨rfl, h1⟩; have H1 := hid h1; clear h1)
  all_goals
    go_wp2
    go_end0
    exact ⟨rfl, H1.out⟩
/-- What is right can be written. -/
theorem whole_any (R : Rm) (hm : R.m ≤ 9) {e : Ex} (h : Rt e) : ∀ xb xo nv pv, ExAt R.W0 xb xo e nv pv → Whole R e xb xo := by
  induction h with
  | num h => intro xb xo nv pv hx; exact whole_0 R _ rfl xb xo nv pv hx (plain_any R 0 (by omega) _ xb xo nv pv hx)
  | str h => intro xb xo nv pv hx; exact whole_1 R _ rfl xb xo nv pv hx (quoted_any R _ h xb xo nv pv hx)
  | con h => intro xb xo nv pv hx; exact whole_2 R _ rfl xb xo nv pv hx (plain_any R 2 (by omega) _ xb xo nv pv hx)
  | name h => intro xb xo nv pv hx; exact whole_3 R _ rfl xb xo nv pv hx (plain_any R 3 (by omega) _ xb xo nv pv hx)
  | neg ha na iha => intro xb xo nv pv hx; exact whole_4 R _ rfl xb xo nv pv hx (minus_any R hm _ xb xo nv pv hx (by simp only [Kids, List.forall_mem_cons]; exact ⟨⟨ha.leveled, iha⟩, by simp⟩))
  | bin h ha hb na nb iha ihb => intro xb xo nv pv hx; exact whole_5 R _ rfl xb xo nv pv hx (binary_any R hm _ _ _ xb xo nv pv hx (by simp only [Kids, List.forall_mem_cons]; exact ⟨⟨ha.leveled, iha⟩, ⟨hb.leveled, ihb⟩, by simp⟩) h)
  | btw ha hb hc na nb nc iha ihb ihc => intro xb xo nv pv hx; exact whole_6 R _ rfl xb xo nv pv hx (between_any R hm _ _ _ xb xo nv pv hx (by simp only [Kids, List.forall_mem_cons]; exact ⟨⟨ha.leveled, iha⟩, ⟨hb.leveled, ihb⟩, ⟨hc.leveled, ihc⟩, by simp⟩))
  | inn ha hb na iha ihb =>
    rename_i a b
    intro xb xo nv pv hx
    have hk : Kids R [a, b] := by simp only [Kids, List.forall_mem_cons]; exact ⟨⟨ha.leveled, iha⟩, ⟨hb.leveled, ihb⟩, by simp⟩
    by_cases c : b.kind = 19
    · exact whole_7 R _ rfl xb xo nv pv hx (in_test_any R hm _ _ xb xo nv pv hx hk c)
    · exact whole_7 R _ rfl xb xo nv pv hx (in_any R hm _ _ xb xo nv pv hx hk c)
  | path h ha na iha => intro xb xo nv pv hx; exact whole_8 R _ rfl xb xo nv pv hx (path_any R hm _ _ xb xo nv pv hx (by simp only [Kids, List.forall_mem_cons]; exact ⟨⟨ha.leveled, iha⟩, by simp⟩))
  | filt ha hb na nb iha ihb => intro xb xo nv pv hx; exact whole_9 R _ rfl xb xo nv pv hx (filter_any R hm _ _ xb xo nv pv hx (by simp only [Kids, List.forall_mem_cons]; exact ⟨⟨ha.leveled, iha⟩, ⟨hb.leveled, ihb⟩, by simp⟩))
  | call ha hl na nl iha ihl => intro xb xo nv pv hx; exact whole_10 R _ rfl xb xo nv pv hx (call_any R hm _ _ xb xo nv pv hx (by simp only [Kids, List.forall_mem_cons]; exact ⟨⟨ha.leveled, iha⟩, fun p hp => ⟨(hl p hp).leveled, ihl p hp⟩⟩))
  | cond ha hb hc na nb nc iha ihb ihc => intro xb xo nv pv hx; exact whole_11 R _ rfl xb xo nv pv hx (choice_any R hm _ _ _ xb xo nv pv hx (by simp only [Kids, List.forall_mem_cons]; exact ⟨⟨ha.leveled, iha⟩, ⟨hb.leveled, ihb⟩, ⟨hc.leveled, ihc⟩, by simp⟩))
  | bnd hk h ha hb na nb iha ihb =>
    rename_i k s a b
    intro xb xo nv pv hx
    have hk2 : Kids R [a, b] := by simp only [Kids, List.forall_mem_cons]; exact ⟨⟨ha.leveled, iha⟩, ⟨hb.leveled, ihb⟩, by simp⟩
    rcases hk with rfl | rfl | rfl
    · exact whole_12 R _ rfl xb xo nv pv hx (each_any R hm _ _ _ xb xo nv pv hx hk2)
    · exact whole_13 R _ rfl xb xo nv pv hx (some_any R hm _ _ _ xb xo nv pv hx hk2)
    · exact whole_14 R _ rfl xb xo nv pv hx (every_any R hm _ _ _ xb xo nv pv hx hk2)
  | func h ha na iha => intro xb xo nv pv hx; exact whole_15 R _ rfl xb xo nv pv hx (function_any R hm _ _ xb xo nv pv hx (by simp only [Kids, List.forall_mem_cons]; exact ⟨⟨ha.leveled, iha⟩, by simp⟩))
  | list hl nl ihl => intro xb xo nv pv hx; exact whole_16 R _ rfl xb xo nv pv hx (list_any R hm _ xb xo nv pv hx (fun p hp => ⟨(hl p hp).leveled, ihl p hp⟩))
  | map h he hl nl ihl => intro xb xo nv pv hx; exact whole_17 R _ rfl xb xo nv pv hx (entries_any R hm _ _ he xb xo nv pv hx (fun p hp => ⟨(hl p hp).leveled, ihl p hp⟩))
  | span h ha hb na nb iha ihb =>
    rename_i s a b
    intro xb xo nv pv hx
    obtain ⟨x, y, rfl, _⟩ := spans_facts _ h
    exact whole_18 R _ rfl xb xo nv pv hx (span_any R hm x y _ _ xb xo nv pv hx (by simp only [Kids, List.forall_mem_cons]; exact ⟨⟨ha.leveled, iha⟩, ⟨hb.leveled, ihb⟩, by simp⟩))
  | test h ha na iha => intro xb xo nv pv hx; exact whole_19 R _ rfl xb xo nv pv hx (test_any R hm _ _ xb xo nv pv hx (by simp only [Kids, List.forall_mem_cons]; exact ⟨⟨ha.leveled, iha⟩, by simp⟩))
end Go.Proofs.YtkmdclfkmmlloaaGreatDoor.Fp
