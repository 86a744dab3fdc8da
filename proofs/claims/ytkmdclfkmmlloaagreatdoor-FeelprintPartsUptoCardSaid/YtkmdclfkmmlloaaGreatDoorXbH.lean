/- Layer 8: contracts of strings.IndexRune at the five characters, of Builder's WriteByte, of the code's Quote. | Layer 8: Builder's WriteByte and WriteRune, with the word that what is no cells stays; the code's Quote. -/
import Derived.Test.YtkmdclfkmmlloaaGreatDoorXbG
import Derived.Laws.Runes
import Derived.Test.YtkmdclfkmmlloaaGreatDoorXbE
set_option linter.unusedVariables false
set_option linter.unusedSimpArgs false
namespace Go.Proofs.YtkmdclfkmmlloaaGreatDoor.Fx
open Go Go.Proofs.YtkmdclfkmmlloaaGreatDoor Go.Proofs.YtkmdclfkmmlloaaGreatDoor.Utf Go.Proofs.YtkmdclfkmmlloaaGreatDoor.Names Go.Proofs.YtkmdclfkmmlloaaGreatDoor.Ent Go.Proofs.YtkmdclfkmmlloaaGreatDoor.Fl Go.RowKit
set_option maxRecDepth 100000

/-- Which of the five characters it is; -1: none. -/
def runeIx (c : Nat) : Int := if c < 128 then Lib.indexByte [34, 92, 10, 13, 9] (UInt8.ofNat c) else -1

theorem five_low (pos : Nat) (h : pos < 5) : ∃ b : Nat, Utf8.decode (⟨#[34, 92, 10, 13, 9]⟩ : ByteArray) pos = (b, 1) ∧ b < 128 := by
  have h1 := (dec_low [34, 92, 10, 13, 9] pos h).1
  rcases (by omega : pos = 0 ∨ pos = 1 ∨ pos = 2 ∨ pos = 3 ∨ pos = 4) with rfl | rfl | rfl | rfl | rfl
  · exact ⟨34, h1 (show (34 : UInt8).toNat < 128 by decide), by omega⟩
  · exact ⟨92, h1 (show (92 : UInt8).toNat < 128 by decide), by omega⟩
  · exact ⟨10, h1 (show (10 : UInt8).toNat < 128 by decide), by omega⟩
  · exact ⟨13, h1 (show (13 : UInt8).toNat < 128 by decide), by omega⟩
  · exact ⟨9, h1 (show (9 : UInt8).toNat < 128 by decide), by omega⟩

theorem none_behind (a e : Nat) (B : Nat) (hB : 128 ≤ B) (hB2 : B < 256) (w : World) :
    Calls Tryz.prog 117 #[.string ((⟨#[34, 92, 10, 13, 9]⟩ : ByteArray).extract a e), .int .u8 B] w fun e w' => e = .returned (.int .i64 (-1)) ∧ w' = w := by
  refine (Tryz.strings_IndexByte ((⟨#[34, 92, 10, 13, 9]⟩ : ByteArray).extract a e) B w).mono ?_
  rintro e' w' ⟨rfl, rfl⟩
  refine ⟨?_, rfl⟩
  have key : ∀ (l : List UInt8) (c : UInt8), (∀ b ∈ l, b.toNat < 128) → 128 ≤ c.toNat → Lib.indexByte l c = -1 := by
    intro l c
    induction l with
    | nil => intro _ _; rfl
    | cons b r ih =>
      intro h1 h2
      have hb := h1 b (List.mem_cons_self ..)
      have e1 : (b == c) = false := by rw [beq_eq_false_iff_ne]; intro e; rw [e] at hb; omega
      have e2 := ih (fun x hx => h1 x (List.mem_cons_of_mem _ hx)) h2
      unfold Lib.indexByte
      rw [e1, e2]; rfl
  rw [key]
  · intro b hb
    have := mem_extract hb
    simp only [List.mem_cons, List.mem_nil_iff, or_false] at this
    rcases this with rfl | rfl | rfl | rfl | rfl <;> decide
  · have : ((B : Int).toNat.toUInt8).toNat = B := by
      rw [Int.toNat_natCast]
      show B % 256 = B
      omega
    omega

set_option maxHeartbeats 4000000 in
theorem IndexRune_any (c : Nat) (hf : fine (c : Int) = true) (w : World) :
    Calls Tryz.prog 136 #[.string ⟨#[34, 92, 10, 13, 9]⟩, .int .i32 c] w fun e w' => e = .returned (.int .i64 (runeIx c)) ∧ Below w.heap.size w w' := by
  have hfi := (nfine_iff c).1 hf
  by_cases hlow : c < 128
  · refine (Tryz.strings_IndexRune_ascii ⟨#[34, 92, 10, 13, 9]⟩ c w (by omega) (by omega)).mono ?_
    rintro e w' ⟨rfl, rfl⟩
    refine ⟨?_, b0 _⟩
    unfold runeIx
    rw [if_pos hlow]
    rfl
  have R : Hid (runeIx c = -1) := hid (by unfold runeIx; rw [if_neg hlow])
  have hge : (0 : Int) ≤ (c : Int) := by omega
  have hn128 : ¬ ((c : Int) < 128) := by omega
  by_cases hrep : c = 65533
  · have zr : ((c : Int) == 65533) = true := by rw [beq_iff_eq]; omega
    clear hf hfi hlow hrep
    go_enter Tryz.func136, Tryz.ntmps136
    go_wp2_with fail
    go_loopw [5] (fun _ wr => ∃ pos : Nat, wr.heap[w.heap.size]? = some (.stringIter (⟨#[34, 92, 10, 13, 9]⟩ : ByteArray) pos) ∧ Below w.heap.size w wr ∧ w.heap.size + 1 ≤ wr.heap.size) (fun _ wr => 5 - wr.iterPos w.heap.size)
    case atStart => exact ⟨0, heap_alloc_new w _, ba (b0 w) _, by
      show w.heap.size + 1 ≤ (w.alloc (.stringIter (⟨#[34, 92, 10, 13, 9]⟩ : ByteArray) 0)).heap.size
      simp⟩
    case round =>
      rename World => wr
      obtain ⟨pos, hit, hbr, hzr⟩ := hrel
      have hsz : (⟨#[34, 92, 10, 13, 9]⟩ : ByteArray).size = 5 := rfl
      by_cases hp : pos < 5
      · have hnx : ∀ ty, (Instr.next (.pointer (some ⟨w.heap.size, 0, none⟩)) true ty).run Tryz.prog wr = _ := fun ty => Lib.run_next_any_at wr w.heap.size ⟨#[34, 92, 10, 13, 9]⟩ pos ty hit (by rw [hsz]; exact hp)
        obtain ⟨b, hb, hbl⟩ := five_low pos hp
        rw [hb] at hnx
        have hnew := Lib.iterAt_heap wr w.heap.size ⟨#[34, 92, 10, 13, 9]⟩ pos (pos + 1) hit
        have hnb := Lib.below_iterAt hbr (k := w.heap.size) (by omega) ⟨#[34, 92, 10, 13, 9]⟩ (pos + 1)
        have hnz := Lib.iterAt_size wr w.heap.size ⟨#[34, 92, 10, 13, 9]⟩ (pos + 1)
        have hmeas := iter_is hit
        have HN := hid hnew
        have HNB := hid hnb
        have HM := hid hmeas
        have zb : ((b : Int) == 65533) = false := by rw [beq_eq_false_iff_ne]; omega
        clear hit hbr hnew hnb hmeas hb
        dsimp only at hnx
        generalize wr.iterAt w.heap.size ⟨#[34, 92, 10, 13, 9]⟩ (pos + 1) = w4 at *
        go_wp2_with fail
        go_roundw
        case rel => exact ⟨pos + 1, HN.out, HNB.out, by omega⟩
        case measure => rw [HM.out, iter_is HN.out]; omega
      · have hnx : ∀ ty, (Instr.next (.pointer (some ⟨w.heap.size, 0, none⟩)) true ty).run Tryz.prog wr = _ := fun ty => Lib.run_next_end_at wr w.heap.size ⟨#[34, 92, 10, 13, 9]⟩ pos ty hit (by rw [hsz]; exact hp)
        have HBR := hid hbr
        clear hit hbr
        go_wp2
        go_ret
        exact ⟨by rw [R.out]; rfl, HBR.out⟩
  · have zr : ((c : Int) == 65533) = false := by rw [beq_eq_false_iff_ne]; omega
    have hv : Lib.validRune (c : Int) = true := by unfold Lib.validRune; exact decide_eq_true (by omega)
    have hv2 : Utf8.valid (c : Int) = true := by rw [validRune_eq]; unfold validRune; exact decide_eq_true (by omega)
    obtain ⟨f1, f2, f3⟩ := encode_facts (c : Int) hv2 (by omega)
    have HV := hid (fun w => (show Calls Tryz.prog 159 #[.int .i32 c] w fun e w' => e = .returned (.bool true) ∧ w' = w by
      have := Tryz.utf8_ValidRune (c : Int) w
      rw [hv] at this
      exact this))
    have hcv := run_convert_int_string (P := Tryz.prog) w 21 9 .i32 (c : Int) (by kernel_rfl) under9
    clear hf hfi hlow hrep hv hv2
    generalize Utf8.encode (c : Int) = E at *
    have fE : ∃ (k : Nat) (hk : k < E.size), E.size = k + 1 ∧ (k = 1 ∨ k = 2 ∨ k = 3) ∧ 128 ≤ (E[k]'hk).toNat := ⟨E.size - 1, by omega, by omega, by omega, f3 (by omega)⟩
    obtain ⟨k, hk, hEs, hk3, hbig⟩ := fE
    have hB2 : (E[k]'hk).toNat < 256 := UInt8.toNat_lt _
    clear f1 f2 f3
    have HI := hid (fun a e w => none_behind a e (E[k]'hk).toNat hbig hB2 w)
    rcases hk3 with rfl | rfl | rfl
    · have n1 : (((92 : Nat) : Int) == ((E[1]'hk).toNat : Int)) = false := by rw [beq_eq_false_iff_ne]; omega
      have n2 : (((((⟨#[34, 92, 10, 13, 9]⟩ : ByteArray)[1]'(by decide)).toNat : Nat) : Int) != ((E[1]'hk).toNat : Int)) = true := by
        show (((92 : Nat) : Int) != ((E[1]'hk).toNat : Int)) = true
        rw [bne, n1]; rfl
      have hw2 : IntKind.i64.wrap 2 = 2 := by decide
      have hE2 : (E.size : Int) = 2 := by omega
      go_enter Tryz.func136, Tryz.ntmps136
      go_wp2_with fail
      refine (HV.out _).mono ?_
      rintro e w1 ⟨rfl, rfl⟩
      go_wp2_with fail
      go_step3
      go_wp2_with fail
      go_loop [9, 10] (fun i f => i = .int .i64 1 ∧ f = .int .i64 0) (fun _ _ => 0)
      case atStart => exact ⟨rfl, rfl⟩
      case round =>
        obtain ⟨rfl, rfl⟩ := hrel
        go_wp2_with fail
        go_step3
        go_wp2_with fail
        go_quiet (fail)
        have hb2 := below_drewN (b0 w1) nq
        have HB2 := hid hb2
        clear hb2
        generalize w1.drewN nq = w2 at *
        go_wp2_with fail
        go_quiet (first | (go_at_call 117; exact Calls.quiet_of_same (HI.out _ _ _)))
        have HB3 := hid (below_drewN HB2.out nq)
        generalize w2.drewN nq = w3 at *
        go_wp2_with fail
        show Exit.noGoto (Exit.inBlock 0 _) Exit.ret _ _
        rw [Exit.noGoto_ret]
        unfold Exit.inBlock
        dsimp only
        unfold Exit.then
        dsimp only
        rw [Exit.noGoto_ret]
        dsimp only
        go_ret
        exact ⟨by rw [R.out]; rfl, HB3.out⟩
    · have n1 : (((10 : Nat) : Int) == ((E[2]'hk).toNat : Int)) = false := by rw [beq_eq_false_iff_ne]; omega
      have n2 : (((((⟨#[34, 92, 10, 13, 9]⟩ : ByteArray)[2]'(by decide)).toNat : Nat) : Int) != ((E[2]'hk).toNat : Int)) = true := by
        show (((10 : Nat) : Int) != ((E[2]'hk).toNat : Int)) = true
        rw [bne, n1]; rfl
      have hw2 : IntKind.i64.wrap 3 = 3 := by decide
      have hE2 : (E.size : Int) = 3 := by omega
      go_enter Tryz.func136, Tryz.ntmps136
      go_wp2_with fail
      refine (HV.out _).mono ?_
      rintro e w1 ⟨rfl, rfl⟩
      go_wp2_with fail
      go_step3
      go_wp2_with fail
      go_loop [9, 10] (fun i f => i = .int .i64 2 ∧ f = .int .i64 0) (fun _ _ => 0)
      case atStart => exact ⟨rfl, rfl⟩
      case round =>
        obtain ⟨rfl, rfl⟩ := hrel
        go_wp2_with fail
        go_step3
        go_wp2_with fail
        go_quiet (fail)
        have hb2 := below_drewN (b0 w1) nq
        have HB2 := hid hb2
        clear hb2
        generalize w1.drewN nq = w2 at *
        go_wp2_with fail
        go_quiet (first | (go_at_call 117; exact Calls.quiet_of_same (HI.out _ _ _)))
        have HB3 := hid (below_drewN HB2.out nq)
        generalize w2.drewN nq = w3 at *
        go_wp2_with fail
        show Exit.noGoto (Exit.inBlock 0 _) Exit.ret _ _
        rw [Exit.noGoto_ret]
        unfold Exit.inBlock
        dsimp only
        unfold Exit.then
        dsimp only
        rw [Exit.noGoto_ret]
        dsimp only
        go_ret
        exact ⟨by rw [R.out]; rfl, HB3.out⟩
    · have n1 : (((13 : Nat) : Int) == ((E[3]'hk).toNat : Int)) = false := by rw [beq_eq_false_iff_ne]; omega
      have n2 : (((((⟨#[34, 92, 10, 13, 9]⟩ : ByteArray)[3]'(by decide)).toNat : Nat) : Int) != ((E[3]'hk).toNat : Int)) = true := by
        show (((13 : Nat) : Int) != ((E[3]'hk).toNat : Int)) = true
        rw [bne, n1]; rfl
      have hw2 : IntKind.i64.wrap 4 = 4 := by decide
      have hE2 : (E.size : Int) = 4 := by omega
      go_enter Tryz.func136, Tryz.ntmps136
      go_wp2_with fail
      refine (HV.out _).mono ?_
      rintro e w1 ⟨rfl, rfl⟩
      go_wp2_with fail
      go_step3
      go_wp2_with fail
      go_loop [9, 10] (fun i f => i = .int .i64 3 ∧ f = .int .i64 0) (fun _ _ => 0)
      case atStart => exact ⟨rfl, rfl⟩
      case round =>
        obtain ⟨rfl, rfl⟩ := hrel
        go_wp2_with fail
        go_step3
        go_wp2_with fail
        go_quiet (fail)
        have hb2 := below_drewN (b0 w1) nq
        have HB2 := hid hb2
        clear hb2
        generalize w1.drewN nq = w2 at *
        go_wp2_with fail
        go_quiet (first | (go_at_call 117; exact Calls.quiet_of_same (HI.out _ _ _)))
        have HB3 := hid (below_drewN HB2.out nq)
        generalize w2.drewN nq = w3 at *
        go_wp2_with fail
        show Exit.noGoto (Exit.inBlock 0 _) Exit.ret _ _
        rw [Exit.noGoto_ret]
        unfold Exit.inBlock
        dsimp only
        unfold Exit.then
        dsimp only
        rw [Exit.noGoto_ret]
        dsimp only
        go_ret
        exact ⟨by rw [R.out]; rfl, HB3.out⟩
end Go.Proofs.YtkmdclfkmmlloaaGreatDoor.Fx
namespace Go.Proofs.YtkmdclfkmmlloaaGreatDoor.Bld
open Go Go.Proofs.YtkmdclfkmmlloaaGreatDoor Go.Proofs.YtkmdclfkmmlloaaGreatDoor.Utf Go.RowKit
set_option maxRecDepth 100000

theorem own_cells {w : World} {B n sz : Nat} {e : TypeId} {v : Value} {xs : List Value} (h : w.ownsRow B e sz v n xs) : ∀ j o, v.ownBlock = some j → w.heap[j]? = some o → o.isCells = true := by
  intro j o ej hj
  rcases h.2 with ⟨rfl, _⟩ | ⟨g, cap, cur, rfl, _, hgb, _⟩
  · simp [Value.ownBlock] at ej
  · obtain rfl : g = j := by simpa [Value.ownBlock] using ej
    rw [hgb] at hj; cases hj; rfl
theorem copyCheck_only (C b : Nat) (l : List UInt8) (w : World) (h : Is C b l w) :
    Calls Tryz.prog 118 #[.pointer (some ⟨b, 0, none⟩)] w fun e w' => e = .returned (.tuple #[]) ∧ At C b (.pointer (some ⟨b, 0, none⟩)) l w' ∧ But C b w w' ∧ KeepsOthers w w' := by
  rcases h with h | h
  · have hu := h.used (.pointer (some ⟨b, 0, none⟩))
    obtain ⟨_, v, hb, _⟩ := h
    refine (copyCheck_fresh b w (by rw [Lib.cell_of_heap hb]; rfl) (by simp [World.shape?, hb]) (Lib.frozen_of_heap hb 0)).mono ?_
    rintro e w' ⟨rfl, rfl⟩
    exact ⟨rfl, hu, But.setCell _ _ _ _ _, KeepsOthers.setCell _ _ _⟩
  · have h2 := h
    obtain ⟨_, v, hb, _⟩ := h
    refine (copyCheck_used b w (by rw [Lib.cell_of_heap hb]; rfl)).mono ?_
    rintro e w' ⟨rfl, rfl⟩
    exact ⟨rfl, h2, But.refl _ _ _, KeepsOthers.refl _⟩

set_option maxHeartbeats 2000000 in
theorem WriteRune_only (C b : Nat) (l : List UInt8) (c : Int) (h0 : 0 ≤ c) (h1 : c ≤ 1114111) (w : World) (h : Is C b l w) (hlen : l.length + 4 ≤ 140737488355328) (hC : C ≤ w.heap.size) :
    Calls Tryz.prog 79 #[.pointer (some ⟨b, 0, none⟩), .int .i32 c] w fun e w' => e = .returned (.tuple #[.int .i64 (enc c).length, .nilIface]) ∧ Is C b (l ++ enc c) w' ∧ But C b w w' ∧ KeepsOthers w w' := by
  have hk4 := enc_len c
  go_enter Tryz.func79, Tryz.ntmps79
  go_wp2_with fail
  refine (copyCheck_only C b l _ h).mono ?_
  rintro e w1 ⟨rfl, hA, hb1, hK1⟩
  have hlt := hA.lt
  obtain ⟨hbC, v, hbk, hown⟩ := hA
  have hz := hb1.size
  obtain ⟨ao, cap, rfl⟩ : ∃ ao cap, v = .slice ao l.length cap := by
    rcases hown.2 with ⟨hv, h0⟩ | ⟨g, cap, cur, hv, _⟩
    · exact ⟨none, 0, by rw [hv, h0]⟩
    · exact ⟨_, _, hv⟩
  have c0 : w1.cell? ⟨b, 0, none⟩ = some (.pointer (some ⟨b, 0, none⟩)) := by rw [Lib.cell_of_heap hbk]; rfl
  have c1 : w1.cell? ⟨b, 1, none⟩ = some (.slice ao l.length cap) := by rw [Lib.cell_of_heap hbk]; rfl
  have hap := Tryz.utf8_AppendRune_plain C (.slice ao l.length cap) l.length (cellsOf l) c (by omega) (by omega) w1 hown hlen (by omega)
  rw [cells_enc, cellsOf_length, ← cellsOf_append] at hap
  have HA := hid hap
  have HO := hid hown
  have HK := hid hbk
  clear hap hown hbk
  go_wp2_with fail
  refine HA.out.mono ?_
  rintro e w2 ⟨v', rfl, hown', o, hgrow⟩
  have hne : (Value.slice ao l.length cap).ownBlock ≠ some b := fun e => by have := (HO.out.lt b e).1; omega
  have hb2 : w2.heap[b]? = some (.cells #[.pointer (some ⟨b, 0, none⟩), .slice ao l.length cap] 67 (0, 0)) := by
    rw [hgrow.block b (by simp; omega) (fun e => hne e.symm), Below.heap_alloc w1 o b hlt]
    exact HK.out
  have d0 : w2.cell? ⟨b, 0, none⟩ = some (.pointer (some ⟨b, 0, none⟩)) := by rw [Lib.cell_of_heap hb2]; rfl
  have d1 : w2.cell? ⟨b, 1, none⟩ = some (.slice ao l.length cap) := by rw [Lib.cell_of_heap hb2]; rfl
  have f1 : w2.frozen? ⟨b, 1, none⟩ = false := Lib.frozen_of_heap hb2 1
  obtain ⟨g, cap', rfl⟩ : ∃ g cap', v' = .slice (some ⟨g, 0, none⟩) (l.length + (enc c).length) cap' := by
    rcases hown'.2 with ⟨_, h0⟩ | ⟨g, cap', cur, hv, _⟩
    · omega
    · exact ⟨g, cap', hv⟩
  have HB2 := hid hb2
  have HO' := hid hown'
  have HKO := hid ((hK1.trans (KeepsOthers.alloc w1 o)).trans (KeepsOthers.of_grownBy hgrow (own_cells (HO.out.alloc _))))
  clear hb2 hown' hK1
  go_wp2
  go_ret2
  refine ⟨?_, .inr ?_, ?_, HKO.out.trans (KeepsOthers.setCell _ _ _)⟩
  · have e : ((l.length : Int) + ((enc c).length : Int) - (l.length : Int)) = ((enc c).length : Int) := by omega
    simp [e]
  · exact At.put hbC HB2.out (by simpa using HO'.out)
  · exact (hb1.trans ((But.alloc w1 o (by omega)).trans (But.grown hgrow (by simp; omega) (fun k hk => (HO.out.lt k hk).1)))).trans (But.setCell _ _ _ _ _)

set_option maxHeartbeats 2000000 in
theorem WriteByte_only (C b : Nat) (l : List UInt8) (c : UInt8) (w : World) (h : Is C b l w) (hlen : l.length + 1 ≤ 140737488355328) (hC : C ≤ w.heap.size) :
    Calls Tryz.prog 135 #[.pointer (some ⟨b, 0, none⟩), .int .u8 c.toNat] w fun e w' => e = .returned .nilIface ∧ Is C b (l ++ [c]) w' ∧ But C b w w' ∧ KeepsOthers w w' := by
  obtain ⟨i0, hi, hz0, hz1, hz2⟩ := info_parts infoU8
  have hcl := UInt8.toNat_lt c
  go_enter Tryz.func135, Tryz.ntmps135
  go_wp2_with fail
  refine (copyCheck_only C b l _ h).mono ?_
  rintro e w1 ⟨rfl, hA, hb1, hK1⟩
  have hlt := hA.lt
  obtain ⟨hbC, v, hbk, hown⟩ := hA
  have hz := hb1.size
  have c0 : w1.cell? ⟨b, 0, none⟩ = some (.pointer (some ⟨b, 0, none⟩)) := by rw [Lib.cell_of_heap hbk]; rfl
  have c1 : w1.cell? ⟨b, 1, none⟩ = some v := by rw [Lib.cell_of_heap hbk]; rfl
  have HO := hid hown
  have HK := hid hbk
  clear hown hbk
  go_wp2_with (at_builtin; refine wpList_append_row rfl _ _ 53 rfl C 5 i0 (.int .u8 0) 1 1 underB hi hz0 hz1 hz2 rfl (by decide) _ _ _ rfl (HO.out.alloc _) _ 1 [.int .u8 c.toNat] rfl (Row.ofBuild w1 #[.int .u8 c.toNat] _ 1 rfl (by omega)) ?c2 ?c3 ?c4 ?c5 ?_)
  case c2 => first | rfl | exact cellsOf_one [c]
  case c3 => omega
  case c4 => unfold maxLen; omega
  case c5 => first | omega | (simp; omega)
  intro v' w2 hown' hgrow
  have hown2 : w2.ownsRow C 5 1 v' (l ++ [c]).length (cellsOf (l ++ [c])) := by
    rw [List.length_append, cellsOf_append]
    exact hown'
  have hne : v.ownBlock ≠ some b := fun e => by have := (HO.out.lt b e).1; omega
  have hb2 : w2.heap[b]? = some (.cells #[.pointer (some ⟨b, 0, none⟩), v] 67 (0, 0)) := by
    rw [hgrow.block b (by simp; omega) (fun e => hne e.symm), Below.heap_alloc w1 _ b hlt]
    exact HK.out
  have d0 : w2.cell? ⟨b, 0, none⟩ = some (.pointer (some ⟨b, 0, none⟩)) := by rw [Lib.cell_of_heap hb2]; rfl
  have d1 : w2.cell? ⟨b, 1, none⟩ = some v := by rw [Lib.cell_of_heap hb2]; rfl
  have f1 : w2.frozen? ⟨b, 1, none⟩ = false := Lib.frozen_of_heap hb2 1
  obtain ⟨ao, n', cap, rfl⟩ : ∃ ao n' cap, v' = .slice ao n' cap := by
    rcases hown2.2 with ⟨hv, _⟩ | ⟨g, cap, cur, hv, _⟩
    · exact ⟨_, _, _, hv⟩
    · exact ⟨_, _, _, hv⟩
  have HB2 := hid hb2
  have HO' := hid hown2
  have HG := hid hgrow
  have HKO := hid ((hK1.trans (KeepsOthers.alloc w1 _)).trans (KeepsOthers.of_grownBy hgrow (own_cells (HO.out.alloc _))))
  clear hb2 hown' hown2 hK1 hgrow
  go_wp2
  go_ret
  refine ⟨rfl, .inr ?_, ?_, HKO.out.trans (KeepsOthers.setCell _ _ _)⟩
  · exact At.put hbC HB2.out HO'.out
  · exact (hb1.trans ((But.alloc w1 _ (by omega)).trans (But.grown HG.out (by simp; omega) (fun k hk => (HO.out.lt k hk).1)))).trans (But.setCell _ _ _ _ _)
end Go.Proofs.YtkmdclfkmmlloaaGreatDoor.Bld

namespace Go.Proofs.YtkmdclfkmmlloaaGreatDoor.Fx
open Go Go.Proofs.YtkmdclfkmmlloaaGreatDoor Go.Proofs.YtkmdclfkmmlloaaGreatDoor.Utf Go.Proofs.YtkmdclfkmmlloaaGreatDoor.Names Go.Proofs.YtkmdclfkmmlloaaGreatDoor.Ent Go.Proofs.YtkmdclfkmmlloaaGreatDoor.Fl Go.RowKit
set_option maxRecDepth 100000

theorem qs_app (a b : List UInt8) : qs (a ++ b) = qs a ++ qs b := by unfold qs; rw [List.flatMap_append]
/-- The five characters behind a backslash. -/
def five : List UInt8 := [34, 92, 110, 114, 116]
theorem low_all : ((List.range 128).all fun n => if runeIx n < 0 then qb (UInt8.ofNat n) == [UInt8.ofNat n] else decide (runeIx n ≤ 4) && (qb (UInt8.ofNat n) == [92, five.getD (runeIx n).toNat 0])) = true := by decide +kernel
theorem enc_high {c : Nat} (hf : fine (c : Int) = true) (h : ¬ c < 128) : ∀ b ∈ enc (c : Int), 128 ≤ b.toNat := by
  intro b hb
  obtain ⟨j, hj, rfl⟩ := List.mem_iff_getElem.1 hb
  refine Classical.byContradiction fun hlow => ?_
  have hr := rune_enc c hf []
  rw [List.append_nil] at hr
  have hn : nth (enc (c : Int)) j < 128 := by rw [← nth_get hj]; omega
  have h2 : (rune (enc (c : Int))).2 ≠ 0 := by rw [hr]; show (enc (c : Int)).length ≠ 0; omega
  have := rune_low h2 (j := j) (by rw [hr]; exact hj) hn
  rw [hr] at this
  obtain ⟨e1, e2⟩ := Prod.mk.inj this
  have hj0 : j = 0 := by omega
  subst hj0
  omega
theorem qs_self : ∀ l : List UInt8, (∀ b ∈ l, 128 ≤ b.toNat) → qs l = l
  | [], _ => rfl
  | b :: r, h => by
    have hb := h b (List.mem_cons_self ..)
    have n : ∀ x : UInt8, x.toNat < 128 → b ≠ x := fun x hx e => by rw [e] at hb; omega
    rw [qs_cons, qs_self r (fun c hc => h c (List.mem_cons_of_mem _ hc))]
    unfold qb
    rw [if_neg (n 34 (by decide)), if_neg (n 92 (by decide)), if_neg (n 10 (by decide)), if_neg (n 13 (by decide)), if_neg (n 9 (by decide))]
    rfl
theorem qs_enc {c : Nat} (hf : fine (c : Int) = true) : (runeIx c < 0 → qs (enc (c : Int)) = enc (c : Int)) ∧ (¬ runeIx c < 0 → ∃ i : Nat, runeIx c = i ∧ i < 5 ∧ qs (enc (c : Int)) = [92, five.getD i 0]) := by
  by_cases h : c < 128
  · have h1 := List.all_eq_true.1 low_all c (List.mem_range.2 h)
    rw [enc_low h]
    by_cases hn : runeIx c < 0
    · rw [if_pos hn] at h1
      refine ⟨fun _ => ?_, fun x => absurd hn x⟩
      rw [qs_cons, beq_iff_eq.1 h1]; rfl
    · rw [if_neg hn, Bool.and_eq_true, decide_eq_true_eq] at h1
      refine ⟨fun x => absurd x hn, fun _ => ⟨(runeIx c).toNat, by omega, by omega, ?_⟩⟩
      rw [qs_cons, beq_iff_eq.1 h1.2]; rfl
  · have hn : runeIx c = -1 := by unfold runeIx; rw [if_neg h]
    refine ⟨fun _ => qs_self _ (enc_high hf h), fun x => ?_⟩
    rw [hn] at x; omega
theorem escape_at (i : Nat) (h : i < 5) (W : World) : (Instr.index 9 (.string ⟨#[34, 92, 110, 114, 116]⟩) (.int .i64 i)).run Tryz.prog W = .ok (.int .u8 (five.getD i 0).toNat) W := by
  rcases (by omega : i = 0 ∨ i = 1 ∨ i = 2 ∨ i = 3 ∨ i = 4) with rfl | rfl | rfl | rfl | rfl
  all_goals kernel_rfl

/-- A text in quotes, as values; or that it may not be. -/
def quoteV (l : List UInt8) : Value := if check l = l.length then .tuple #[.string (text (quote l)), .int .i64 0] else .tuple #[.string (text []), .int .i64 4]

set_option maxHeartbeats 4000000 in
theorem Quote_any (l : List UInt8) (hl : l.length ≤ 2000000) (w : World) :
    Calls Tryz.prog 105 #[.string (text l)] w fun e w' => e = .returned (quoteV l) ∧ Below w.heap.size w w' := by
  obtain ⟨vb, w1, hcv, hvb, hb1, _⟩ := conv_at (P := Tryz.prog) l (by omega) 9 53 5 under9 underB under8 w
  have hck := Check_any vb l w1 (hvb w1 rfl)
  have HCK := hid hck
  have HB1 := hid hb1
  clear hck hvb hb1
  by_cases hc : check l = l.length
  · have he := checkE_ok hc
    rw [he] at HCK
    have hev : quoteV l = .tuple #[.string (text (quote l)), .int .i64 0] := by unfold quoteV; rw [if_pos hc]
    have HR := hid (Edge.start hc)
    have HEV := hid hev
    have s1 : (text l).size = l.length := text_size l
    have hql := qs_len l
    clear he hc hev
    go_enter Tryz.func105, Tryz.ntmps105
    go_wp2_with fail
    refine HCK.out.mono ?_
    rintro e w2 ⟨rfl, hb2⟩
    have HB2 := hid (bt HB1.out hb2)
    have hz2 : w.heap.size ≤ w2.heap.size := HB2.out.size
    clear hb2 hcv
    have hI0 := Bld.Is.fresh (w2.heap.size + 1) w2 (by omega)
    have hB0 := ba (b0 w2) (.cells #[.pointer none, .slice none 0 0] 67)
    go_wp2_with fail
    refine (Bld.WriteByte_only (w2.heap.size + 1) w2.heap.size [] 34 _ hI0 (by decide) (by simp)).mono ?_
    rintro e w3 ⟨rfl, hI3, hB3, hK3⟩
    have hz3 : w2.heap.size + 1 ≤ w3.heap.size := by have := hB3.size; simp at this; omega
    have hb3 : Below w2.heap.size w2 w3 := hB0.trans (hB3.below (Nat.le_refl _) (by omega))
    have HI3 := hid hI3
    have HB3 := hid hb3
    clear hI0 hB0 hI3 hB3 hK3 hb3
    go_wp2_with fail
    go_loopw [8] (fun _ wr => ∃ pos : Nat, wr.heap[w3.heap.size]? = some (.stringIter (text l) pos) ∧ Hid (Edge l pos) ∧ Bld.Is (w2.heap.size + 1) w2.heap.size (34 :: qs (l.take pos)) wr ∧ Below w2.heap.size w2 wr ∧ w3.heap.size + 1 ≤ wr.heap.size) (fun _ wr => l.length - wr.iterPos w3.heap.size)
    case atStart =>
      refine ⟨0, heap_alloc_new w3 _, HR, ?_, HB3.out.alloc (by omega) _, by
        show w3.heap.size + 1 ≤ (w3.alloc (.stringIter (text l) 0)).heap.size
        simp⟩
      exact HI3.out.later (ba (b0 w3) _)
    case round =>
      rename World => wr
      obtain ⟨pos, hit, HST, hIs, hbr, hzr⟩ := hrel
      have hol := (qs_len (l.take pos)).2
      rw [List.length_take] at hol
      by_cases hp : pos < l.length
      · have hps : pos < (text l).size := by rw [s1]; exact hp
        have hnx : ∀ ty, (Instr.next (.pointer (some ⟨w3.heap.size, 0, none⟩)) true ty).run Tryz.prog wr = _ := fun ty => Lib.run_next_any_at wr w3.heap.size (text l) pos ty hit hps
        obtain ⟨hne, hfi, hE2, hdec⟩ := HST.out.step hp
        rw [hdec] at hnx
        have htk : qs (l.take (pos + (rune (l.drop pos)).2)) = qs (l.take pos) ++ qs (enc ((rune (l.drop pos)).1 : Int)) := by
          rw [List.take_add, qs_app, Ent.rune_take _ hne]
        obtain ⟨q1, q2⟩ := qs_enc hfi
        have hix := fun w => IndexRune_any (rune (l.drop pos)).1 hfi w
        have hk1 : 1 ≤ (rune (l.drop pos)).2 := by omega
        have hfl : ((rune (l.drop pos)).1 : Int) ≤ 1114111 := by have := (nfine_iff _).1 hfi; omega
        have hnew := Lib.iterAt_heap wr w3.heap.size (text l) pos (pos + (rune (l.drop pos)).2) hit
        have hnb := Lib.below_iterAt hbr (k := w3.heap.size) (by omega) (text l) (pos + (rune (l.drop pos)).2)
        have hni : Bld.Is (w2.heap.size + 1) w2.heap.size (34 :: qs (l.take pos)) (wr.iterAt w3.heap.size (text l) (pos + (rune (l.drop pos)).2)) := by
          have key : ∀ p, Bld.At (w2.heap.size + 1) w2.heap.size p (34 :: qs (l.take pos)) wr → Bld.At (w2.heap.size + 1) w2.heap.size p (34 :: qs (l.take pos)) (wr.iterAt w3.heap.size (text l) (pos + (rune (l.drop pos)).2)) := by
            rintro p ⟨k1, v, k2, k3⟩
            refine ⟨k1, v, by rw [Lib.iterAt_other wr w3.heap.size w2.heap.size _ _ (by omega)]; exact k2, ?_⟩
            refine k3.kept (row := some w3.heap.size) ⟨rfl, rfl, rfl, by rw [Lib.iterAt_size]; exact Nat.le_refl _, fun j _ hj => Lib.iterAt_other wr w3.heap.size j _ _ (fun e => hj (by rw [e]))⟩ (.inr (fun e => ?_))
            have := Bld.own_cells k3 w3.heap.size _ e hit
            cases this
          exact hIs.elim (fun x => .inl (key _ x)) (fun x => .inr (key _ x))
        have hnz := Lib.iterAt_size wr w3.heap.size (text l) (pos + (rune (l.drop pos)).2)
        have hmeas := iter_is hit
        have HN := hid hnew
        have HNB := hid hnb
        have HNI := hid hni
        have HM := hid hmeas
        have HE2 := hid hE2
        have HTK := hid htk
        have Q1 := hid q1
        have Q2 := hid q2
        have HIX := hid hix
        clear hit hIs hbr hnew hnb hni hmeas hps hne hfi hdec hE2 htk q1 q2 hix
        generalize rune (l.drop pos) = q at *
        obtain ⟨c, k⟩ := q
        dsimp only at hnx hk1 hfl HN HNB HNI hnz HE2 HTK Q1 Q2 HIX
        generalize wr.iterAt w3.heap.size (text l) (pos + k) = w4 at *
        have hz4 : w3.heap.size + 1 ≤ w4.heap.size := by omega
        have hc0 : 0 ≤ (c : Int) := by omega
        have hlen4 : (34 :: qs (l.take pos)).length ≤ 2 * pos + 1 := by rw [List.length_cons]; omega
        generalize hrx : runeIx c = ix at *
        clear hrx
        go_wp2_with fail
        refine (HIX.out _).mono ?_
        rintro e w5 ⟨rfl, hb5⟩
        have HIT5 := hid ((hb5.block w3.heap.size (by omega)).trans HN.out)
        have HI5 := hid (HNI.out.later hb5)
        have HB5 := hid (HNB.out.trans (hb5.mono (by omega)))
        have hz5 := hb5.size
        clear hb5
        by_cases hneg : ix < 0
        · have hge : ¬ (0 : Int) ≤ ix := by omega
          have HQ := hid (Q1.out hneg)
          go_wp2_with fail
          refine (Bld.WriteRune_only (w2.heap.size + 1) w2.heap.size _ (c : Int) hc0 hfl _ HI5.out (by omega) (by omega)).mono ?_
          rintro e w6 ⟨rfl, hI6, hB6, hK6⟩
          have HI6 := hid hI6
          have HB6 := hid hB6
          have HIT6 := hid (hK6.same _ _ HIT5.out rfl)
          have hz6 := hB6.size
          clear hI6 hB6 hK6
          go_wp2_with fail
          go_roundw
          case rel => exact ⟨pos + k, HIT6.out, HE2, by rw [HTK.out, HQ.out]; exact HI6.out, HB5.out.trans (HB6.out.below (Nat.le_refl _) (by omega)), by omega⟩
          case measure => rw [HM.out, iter_is HIT6.out]; omega
        · obtain ⟨i, rfl, hi5, hq⟩ := Q2.out (by omega)
          have hge : (0 : Int) ≤ (i : Int) := by omega
          have hat := fun W => escape_at i hi5 W
          have HQ := hid hq
          clear hq
          have hbyte : (five.getD i 0).toNat < 256 := UInt8.toNat_lt _
          generalize five.getD i 0 = y at *
          go_wp2_with fail
          refine (Bld.WriteByte_only (w2.heap.size + 1) w2.heap.size _ 92 _ HI5.out (by omega) (by omega)).mono ?_
          rintro e w6 ⟨rfl, hI6, hB6, hK6⟩
          have HI6 := hid hI6
          have HB6 := hid (HB5.out.trans (hB6.below (Nat.le_refl _) (by omega)))
          have HIT6 := hid (hK6.same _ _ HIT5.out rfl)
          have hz6 := hB6.size
          clear hI6 hB6 hK6
          go_wp2_with fail
          refine (Bld.WriteByte_only (w2.heap.size + 1) w2.heap.size _ y _ HI6.out (by rw [List.length_append]; simp only [List.length_singleton]; omega) (by omega)).mono ?_
          rintro e w7 ⟨rfl, hI7, hB7, hK7⟩
          have HI7 := hid hI7
          have HB7 := hid hB7
          have HIT7 := hid (hK7.same _ _ HIT6.out rfl)
          have hz7 := hB7.size
          clear hI7 hB7 hK7
          go_wp2_with fail
          go_roundw
          case rel => exact ⟨pos + k, HIT7.out, HE2, by rw [HTK.out, HQ.out]; simpa using HI7.out, HB6.out.trans (HB7.out.below (Nat.le_refl _) (by omega)), by omega⟩
          case measure => rw [HM.out, iter_is HIT7.out]; omega
      · have hps : ¬ pos < (text l).size := by rw [s1]; exact hp
        have hnx : ∀ ty, (Instr.next (.pointer (some ⟨w3.heap.size, 0, none⟩)) true ty).run Tryz.prog wr = _ := fun ty => Lib.run_next_end_at wr w3.heap.size (text l) pos ty hit hps
        have htk : l.take pos = l := List.take_of_length_le (by omega)
        rw [htk] at hIs
        have HIs := hid hIs
        have HBR := hid hbr
        clear hit hIs hbr htk
        go_wp2_with fail
        refine (Bld.WriteByte_only (w2.heap.size + 1) w2.heap.size _ 34 _ HIs.out (by rw [List.length_cons]; omega) (by omega)).mono ?_
        rintro e w6 ⟨rfl, hI6, hB6, hK6⟩
        have HB6 := hid (HBR.out.trans (hB6.below (Nat.le_refl _) (by omega)))
        have hstr := Bld.String_any (w2.heap.size + 1) w2.heap.size _ w6 hI6
        have HSR := hid hstr
        clear hI6 hB6 hK6 hstr
        go_wp2_with fail
        refine HSR.out.mono ?_
        rintro e w7 ⟨rfl, hb7⟩
        go_wp2
        go_ret2
        exact ⟨by rw [HEV.out]; rfl, HB2.out.trans ((HB6.out.trans hb7).mono hz2)⟩
  · have he := checkE_no hc
    rw [he] at HCK
    have hev : quoteV l = .tuple #[.string (text []), .int .i64 4] := by unfold quoteV; rw [if_neg hc]
    have HEV := hid hev
    clear he hc hev
    go_enter Tryz.func105, Tryz.ntmps105
    go_wp2_with fail
    refine HCK.out.mono ?_
    rintro e w2 ⟨rfl, hb2⟩
    go_wp2
    go_ret2
    exact ⟨by rw [HEV.out]; rfl, bt HB1.out hb2⟩
end Go.Proofs.YtkmdclfkmmlloaaGreatDoor.Fx
