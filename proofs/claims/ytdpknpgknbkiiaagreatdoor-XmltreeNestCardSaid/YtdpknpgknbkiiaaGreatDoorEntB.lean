/- A strings.Builder that a call has made, told by the bytes that it holds, beside other blocks that are kept: contracts of copyCheck, WriteRune, WriteString, String. -/
import Derived.Test.YtdpknpgknbkiiaaGreatDoorUtfL
import Derived.Test.YtdpknpgknbkiiaaGreatDoorApp
import Derived.Test.YtdpknpgknbkiiaaGreatDoorShelf
import Derived.Lib.Builder
import Derived.Lib.AppendStr
set_option linter.unusedVariables false
set_option linter.unusedSimpArgs false
namespace Go.Proofs.YtdpknpgknbkiiaaGreatDoor.Bld
open Go Go.Proofs.YtdpknpgknbkiiaaGreatDoor Go.Proofs.YtdpknpgknbkiiaaGreatDoor.Utf Go.RowKit
set_option maxRecDepth 100000

/-- All blocks below C but b are as they were. -/
structure But (C b : Nat) (w w' : World) : Prop where
  os : w'.os = w.os
  tape : w'.tape = w.tape
  output : w'.output = w.output
  size : w.heap.size ≤ w'.heap.size
  block : ∀ k, k < C → k ≠ b → w'.heap[k]? = w.heap[k]?
theorem But.refl (C b : Nat) (w : World) : But C b w w := ⟨rfl, rfl, rfl, Nat.le_refl _, fun _ _ _ => rfl⟩
theorem But.trans {C b : Nat} {x y z : World} (h : But C b x y) (k : But C b y z) : But C b x z :=
  ⟨k.os.trans h.os, k.tape.trans h.tape, k.output.trans h.output, Nat.le_trans h.size k.size, fun i hi hb => (k.block i hi hb).trans (h.block i hi hb)⟩
theorem But.below {C b B : Nat} {w w' : World} (h : But C b w w') (h1 : B ≤ b) (h2 : B ≤ C) : Below B w w' :=
  ⟨h.os, h.tape, h.output, h.size, fun k hk => h.block k (by omega) (by omega)⟩
theorem But.of {C b : Nat} {w w' : World} (h : Below w.heap.size w w') (hC : C ≤ w.heap.size) : But C b w w' :=
  ⟨h.os, h.tape, h.output, h.size, fun k hk _ => h.block k (by omega)⟩
theorem But.setCell (C b j : Nat) (w : World) (u : Value) : But C b w (w.setCell ⟨b, j, none⟩ u) :=
  ⟨rfl, rfl, rfl, by simp [World.setCell], fun k _ hk => Below.heap_setCell w ⟨b, j, none⟩ u k hk⟩
theorem But.grown {C b : Nat} {w w' : World} {row : Option Nat} (h : w.grownBy w' row) (hC : C ≤ w.heap.size) (hr : ∀ k, row = some k → C ≤ k) : But C b w w' :=
  ⟨h.os, h.tape, h.output, h.size, fun k hk _ => h.block k (by omega) (fun e => by have := hr k e.symm; omega)⟩
theorem But.alloc {C b : Nat} (w : World) (o : Obj) (hC : C ≤ w.heap.size) : But C b w (w.alloc o) := But.of ((Below.refl _ _).alloc (Nat.le_refl _) o) hC

/-- The builder at b, its address p, holds the bytes l; its buffer lies in no block below C. -/
def At (C b : Nat) (p : Value) (l : List UInt8) (w : World) : Prop :=
  b < C ∧ ∃ v, w.heap[b]? = some (.cells #[p, v] 48 (0, 0)) ∧ w.ownsRow C 5 1 v l.length (cellsOf l)
def Is (C b : Nat) (l : List UInt8) (w : World) : Prop := At C b (.pointer none) l w ∨ At C b (.pointer (some ⟨b, 0, none⟩)) l w

theorem At.lt {C b : Nat} {p : Value} {l : List UInt8} {w : World} (h : At C b p l w) : b < w.heap.size := by
  obtain ⟨_, v, hb, _⟩ := h
  rcases Nat.lt_or_ge b w.heap.size with h' | h'
  · exact h'
  · simp [Array.getElem?_eq_none h'] at hb
theorem At.later {C b : Nat} {p : Value} {l : List UInt8} {w w' : World} (h : At C b p l w) (hb : Below w.heap.size w w') : At C b p l w' := by
  have hlt := h.lt
  obtain ⟨h1, v, h2, h3⟩ := h
  exact ⟨h1, v, (hb.block b hlt).trans h2, owns_later h3 hb⟩
theorem Is.later {C b : Nat} {l : List UInt8} {w w' : World} (h : Is C b l w) (hb : Below w.heap.size w w') : Is C b l w' := h.elim (fun k => .inl (k.later hb)) (fun k => .inr (k.later hb))
/-- A block of a world, alive. -/
theorem block_lt {w : World} {k : Nat} {o : Obj} (h : w.heap[k]? = some o) : k < w.heap.size := by
  rcases Nat.lt_or_ge k w.heap.size with h' | h'
  · exact h'
  · simp [Array.getElem?_eq_none h'] at h
theorem Is.fresh (C : Nat) (w : World) (hC : w.heap.size < C) : Is C w.heap.size [] (w.alloc (.cells #[.pointer none, .slice none 0 0] 48)) :=
  .inl ⟨hC, _, heap_alloc_new w _, World.ownsRow_nil _ _ _ _⟩
theorem owns_but {C b : Nat} {e : TypeId} {v : Value} {n : Nat} {xs : List Value} {w : World} (h : w.ownsRow C e 1 v n xs) (hb : b < C) (j : Nat) (u : Value) : (w.setCell ⟨b, j, none⟩ u).ownsRow C e 1 v n xs := ownsRow_setCell_below h hb u
theorem At.put {C b : Nat} {p v v' : Value} {l : List UInt8} {w : World} (hC : b < C) (hb : w.heap[b]? = some (.cells #[p, v] 48 (0, 0))) (hown : w.ownsRow C 5 1 v' l.length (cellsOf l)) :
    At C b p l (w.setCell ⟨b, 1, none⟩ v') :=
  ⟨hC, v', by simp [World.setCell, Array.getElem?_modify, hb], owns_but hown hC _ _⟩
theorem At.used {C b : Nat} {p : Value} {l : List UInt8} {w : World} (h : At C b p l w) (q : Value) : At C b q l (w.setCell ⟨b, 0, none⟩ q) := by
  obtain ⟨hC, v, hb, hown⟩ := h
  exact ⟨hC, v, by simp [World.setCell, Array.getElem?_modify, hb], owns_but hown hC _ _⟩

theorem underB72 : Tryz.prog.underlying 46 = some (.pointer 48) := Tryz.underlying46
theorem sizeBld : (Tryz.prog.info? 48).map (·.size) = some 2 := by kernel_rfl
theorem liesBld : liesAt Tryz.prog Tryz.prog.depth 48 (2 / Tryz.prog.cellsOf 48) 0 48 1 = true := by kernel_rfl
theorem infoU8 : (Tryz.prog.info? 5).map (fun i => (i.zero, i.size, i.bytes)) = some (some (.int .u8 0), 1, 1) := by kernel_rfl
theorem underP : Tryz.prog.underlying 83 = some .unsafePointer := Tryz.underlying83

set_option maxHeartbeats 1000000 in
theorem copyCheck_used (b : Nat) (w : World) (h0 : w.cell? ⟨b, 0, none⟩ = some (.pointer (some ⟨b, 0, none⟩))) :
    Calls Tryz.prog 20 #[.pointer (some ⟨b, 0, none⟩)] w fun e w' => e = .returned (.tuple #[]) ∧ w = w' := by
  obtain ⟨j, hj, _⟩ := Option.map_eq_some_iff.1 sizeBld
  go_enter Tryz.func20, Tryz.ntmps20
  go_wp2
  rw [Lib.run_neq_ptr_same w _ underB72 hj]
  go_wp2
  go_end0
  exact ⟨rfl, rfl⟩

set_option maxHeartbeats 1000000 in
theorem copyCheck_fresh (b : Nat) (w : World) (h0 : w.cell? ⟨b, 0, none⟩ = some (.pointer none)) (hsh : w.shape? b = some (48, 2)) (hfz : w.frozen? ⟨b, 0, none⟩ = false) :
    Calls Tryz.prog 20 #[.pointer (some ⟨b, 0, none⟩)] w fun e w' => e = .returned (.tuple #[]) ∧ w' = w.setCell ⟨b, 0, none⟩ (.pointer (some ⟨b, 0, none⟩)) := by
  obtain ⟨j, hj, hjs⟩ := Option.map_eq_some_iff.1 sizeBld
  go_enter Tryz.func20, Tryz.ntmps20
  go_wp2
  rw [Lib.run_to_unsafe w ⟨b, 0, none⟩ underB72 underP hj (by rw [hjs]; decide) hsh (Nat.zero_lt_succ 1)]
  simp only [Result.andThen]
  rw [Oper.upon_value]
  go_wp2
  rw [run_callFunc_extern Tryz.func35 (by kernel_rfl) (by kernel_rfl) (by kernel_rfl) (e := Extern.AbiNoEscape.same) (by kernel_rfl)]
  rw [Lib.run_noEscape]
  simp only [Result.andThen]
  rw [Oper.upon_value]
  go_wp2
  rw [Lib.run_from_unsafe w ⟨b, 0, none⟩ underP underB72 hj hsh liesBld]
  simp only [Result.andThen]
  rw [Oper.upon_value]
  go_wp2
  go_end0
  exact ⟨rfl, rfl⟩

theorem copyCheck_any (C b : Nat) (l : List UInt8) (w : World) (h : Is C b l w) :
    Calls Tryz.prog 20 #[.pointer (some ⟨b, 0, none⟩)] w fun e w' => e = .returned (.tuple #[]) ∧ At C b (.pointer (some ⟨b, 0, none⟩)) l w' ∧ But C b w w' := by
  rcases h with h | h
  · have hu := h.used (.pointer (some ⟨b, 0, none⟩))
    obtain ⟨_, v, hb, _⟩ := h
    refine (copyCheck_fresh b w (by rw [Lib.cell_of_heap hb]; rfl) (by simp [World.shape?, hb]) (Lib.frozen_of_heap hb 0)).mono ?_
    rintro e w' ⟨rfl, rfl⟩
    exact ⟨rfl, hu, But.setCell _ _ _ _ _⟩
  · have h2 := h
    obtain ⟨_, v, hb, _⟩ := h
    refine (copyCheck_used b w (by rw [Lib.cell_of_heap hb]; rfl)).mono ?_
    rintro e w' ⟨rfl, rfl⟩
    exact ⟨rfl, h2, But.refl _ _ _⟩

set_option maxHeartbeats 2000000 in
theorem WriteRune_any (C b : Nat) (l : List UInt8) (c : Int) (h0 : 0 ≤ c) (h1 : c ≤ 1114111) (w : World) (h : Is C b l w) (hlen : l.length + 4 ≤ 140737488355328) (hC : C ≤ w.heap.size) :
    Calls Tryz.prog 97 #[.pointer (some ⟨b, 0, none⟩), .int .i32 c] w fun e w' => e = .returned (.tuple #[.int .i64 (enc c).length, .nilIface]) ∧ Is C b (l ++ enc c) w' ∧ But C b w w' := by
  have hk4 := enc_len c
  go_enter Tryz.func97, Tryz.ntmps97
  go_wp2_with fail
  refine (copyCheck_any C b l _ h).mono ?_
  rintro e w1 ⟨rfl, hA, hb1⟩
  have hlt := hA.lt
  obtain ⟨hbC, v, hbk, hown⟩ := hA
  have hz := hb1.size
  obtain ⟨ao, cap, rfl⟩ : ∃ ao cap, v = .slice ao l.length cap := by
    rcases hown.2 with ⟨hv, h0⟩ | ⟨g, cap, cur, hv, _⟩
    · exact ⟨none, 0, by rw [hv, h0]⟩
    · exact ⟨_, _, hv⟩
  have c0 : w1.cell? ⟨b, 0, none⟩ = some (.pointer (some ⟨b, 0, none⟩)) := by rw [Lib.cell_of_heap hbk]; rfl
  have c1 : w1.cell? ⟨b, 1, none⟩ = some (.slice ao l.length cap) := by rw [Lib.cell_of_heap hbk]; rfl
  have hap := Tryz.utf8_AppendRune_plain C (.slice ao l.length cap) l.length (cellsOf l) c (by omega) (by omega) w1 hown hlen (by omega)
  rw [cells_enc, cellsOf_length, ← cellsOf_append] at hap
  have HA := hid hap
  have HO := hid hown
  have HK := hid hbk
  clear hap hown hbk
  go_wp2_with fail
  refine HA.out.mono ?_
  rintro e w2 ⟨v', rfl, hown', o, hgrow⟩
  have hne : (Value.slice ao l.length cap).ownBlock ≠ some b := fun e => by have := (HO.out.lt b e).1; omega
  have hb2 : w2.heap[b]? = some (.cells #[.pointer (some ⟨b, 0, none⟩), .slice ao l.length cap] 48 (0, 0)) := by
    rw [hgrow.block b (by simp; omega) (fun e => hne e.symm), Below.heap_alloc w1 o b hlt]
    exact HK.out
  have d0 : w2.cell? ⟨b, 0, none⟩ = some (.pointer (some ⟨b, 0, none⟩)) := by rw [Lib.cell_of_heap hb2]; rfl
  have d1 : w2.cell? ⟨b, 1, none⟩ = some (.slice ao l.length cap) := by rw [Lib.cell_of_heap hb2]; rfl
  have f1 : w2.frozen? ⟨b, 1, none⟩ = false := Lib.frozen_of_heap hb2 1
  obtain ⟨g, cap', rfl⟩ : ∃ g cap', v' = .slice (some ⟨g, 0, none⟩) (l.length + (enc c).length) cap' := by
    rcases hown'.2 with ⟨_, h0⟩ | ⟨g, cap', cur, hv, _⟩
    · omega
    · exact ⟨g, cap', hv⟩
  have HB2 := hid hb2
  have HO' := hid hown'
  clear hb2 hown'
  go_wp2
  go_ret2
  refine ⟨?_, .inr ?_, ?_⟩
  · have e : ((l.length : Int) + ((enc c).length : Int) - (l.length : Int)) = ((enc c).length : Int) := by omega
    simp [e]
  · exact At.put hbC HB2.out (by simpa using HO'.out)
  · exact (hb1.trans ((But.alloc w1 o (by omega)).trans (But.grown hgrow (by simp; omega) (fun k hk => (HO.out.lt k hk).1)))).trans (But.setCell _ _ _ _ _)

theorem strCells_text (m : List UInt8) : Lib.strCells (text m) = cellsOf m := by unfold Lib.strCells cellsOf; rw [text_data]

set_option maxHeartbeats 2000000 in
theorem WriteString_any (C b : Nat) (l m : List UInt8) (w : World) (h : Is C b l w) (hlen : l.length + m.length ≤ 140737488355328) (hC : C ≤ w.heap.size) :
    Calls Tryz.prog 12 #[.pointer (some ⟨b, 0, none⟩), .string (text m)] w fun e w' => e = .returned (.tuple #[.int .i64 m.length, .nilIface]) ∧ Is C b (l ++ m) w' ∧ But C b w w' := by
  obtain ⟨i0, hi, hz0, hz1, hz2⟩ := info_parts infoU8
  go_enter Tryz.func12, Tryz.ntmps12
  go_wp2_with fail
  refine (copyCheck_any C b l _ h).mono ?_
  rintro e w1 ⟨rfl, hA, hb1⟩
  have hlt := hA.lt
  obtain ⟨hbC, v, hbk, hown⟩ := hA
  have hz := hb1.size
  have c0 : w1.cell? ⟨b, 0, none⟩ = some (.pointer (some ⟨b, 0, none⟩)) := by rw [Lib.cell_of_heap hbk]; rfl
  have c1 : w1.cell? ⟨b, 1, none⟩ = some v := by rw [Lib.cell_of_heap hbk]; rfl
  have hsz : (text m).size = m.length := text_size m
  have HO := hid hown
  have HK := hid hbk
  have HS := hid hsz
  clear hown hbk hsz
  go_wp2_with (at_builtin; refine Lib.wpList_append_own_string _ rfl _ _ 22 9 rfl C 5 i0 underB under9 hi hz0 hz1 hz2 _ _ _ rfl HO.out (text m) rfl ?c3 ?c4 ?c5 ?_)
  case c3 => rw [HS.out]; unfold maxLen; omega
  case c4 => rw [HS.out]; omega
  case c5 => omega
  intro v' w2 hown' hgrow _
  rw [HS.out, strCells_text, ← cellsOf_append] at hown'
  have hne : v.ownBlock ≠ some b := fun e => by have := (HO.out.lt b e).1; omega
  have hb2 : w2.heap[b]? = some (.cells #[.pointer (some ⟨b, 0, none⟩), v] 48 (0, 0)) := by
    rw [hgrow.block b hlt (fun e => hne e.symm)]
    exact HK.out
  have d0 : w2.cell? ⟨b, 0, none⟩ = some (.pointer (some ⟨b, 0, none⟩)) := by rw [Lib.cell_of_heap hb2]; rfl
  have d1 : w2.cell? ⟨b, 1, none⟩ = some v := by rw [Lib.cell_of_heap hb2]; rfl
  have f1 : w2.frozen? ⟨b, 1, none⟩ = false := Lib.frozen_of_heap hb2 1
  obtain ⟨ao, n', cap, rfl⟩ : ∃ ao n' cap, v' = .slice ao n' cap := by
    rcases hown'.2 with ⟨hv, _⟩ | ⟨g, cap, cur, hv, _⟩
    · exact ⟨_, _, _, hv⟩
    · exact ⟨_, _, _, hv⟩
  have HB2 := hid hb2
  have HO' := hid hown'
  clear hb2 hown'
  go_wp2
  go_ret2
  refine ⟨by rw [HS.out]; rfl, .inr ?_, ?_⟩
  · exact At.put hbC HB2.out (by simpa using HO'.out)
  · exact (hb1.trans (But.grown hgrow (by omega) (fun k hk => (HO.out.lt k hk).1))).trans (But.setCell _ _ _ _ _)

theorem At.lib {C b : Nat} {p : Value} {l : List UInt8} {w : World} (h : At C b p l w) : Lib.BuilderAt 48 5 b b p (cellsOf l) w := by
  obtain ⟨hC, v, hb, hown⟩ := h
  have hl : (cellsOf l).length = l.length := cellsOf_length l
  refine ⟨Nat.le_refl _, v, hb, ?_, fun e => by have := (hown.lt b e).1; omega⟩
  rw [hl]
  obtain ⟨h1, h2⟩ := hown
  refine ⟨h1, ?_⟩
  rcases h2 with h2 | ⟨g, cap, cur, hv, hg, r⟩
  · exact .inl h2
  · exact .inr ⟨g, cap, cur, hv, by omega, r⟩
/-- What a builder holds, as a text. -/
theorem String_any (C b : Nat) (l : List UInt8) (w : World) (h : Is C b l w) :
    Calls Tryz.prog 14 #[.pointer (some ⟨b, 0, none⟩)] w fun e w' => e = .returned (.string (text l)) ∧ Below b w w' := by
  have hlt : b < w.heap.size := h.elim At.lt At.lt
  have hI : Lib.IsBuilder 48 5 b b (Lib.byteCells l) w := h.elim (fun k => .inl k.lib) (fun k => .inr k.lib)
  exact Tryz.Builder_String_any b b l w hI (by omega)
end Go.Proofs.YtdpknpgknbkiiaaGreatDoor.Bld
