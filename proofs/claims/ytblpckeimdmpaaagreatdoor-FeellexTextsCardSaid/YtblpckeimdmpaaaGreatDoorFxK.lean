/- Layer 8: contracts of strings.IndexRune at the five characters, of Builder's WriteByte, of the code's Quote. -/
import Derived.Test.YtblpckeimdmpaaaGreatDoorFxY
import Derived.Laws.Runes
set_option linter.unusedVariables false
set_option linter.unusedSimpArgs false
namespace Go.Proofs.YtblpckeimdmpaaaGreatDoor.Fx
open Go Go.Proofs.YtblpckeimdmpaaaGreatDoor Go.Proofs.YtblpckeimdmpaaaGreatDoor.Utf Go.Proofs.YtblpckeimdmpaaaGreatDoor.Names Go.Proofs.YtblpckeimdmpaaaGreatDoor.Ent Go.Proofs.YtblpckeimdmpaaaGreatDoor.Fl Go.RowKit
set_option maxRecDepth 100000

/-- Which of the five characters it is; -1: none. -/
def runeIx (c : Nat) : Int := if c < 128 then Lib.indexByte [34, 92, 10, 13, 9] (UInt8.ofNat c) else -1

theorem five_low (pos : Nat) (h : pos < 5) : ∃ b : Nat, Utf8.decode (⟨#[34, 92, 10, 13, 9]⟩ : ByteArray) pos = (b, 1) ∧ b < 128 := by
  have h1 := (dec_low [34, 92, 10, 13, 9] pos h).1
  rcases (by omega : pos = 0 ∨ pos = 1 ∨ pos = 2 ∨ pos = 3 ∨ pos = 4) with rfl | rfl | rfl | rfl | rfl
  · exact ⟨34, h1 (show (34 : UInt8).toNat < 128 by decide), by omega⟩
  · exact ⟨92, h1 (show (92 : UInt8).toNat < 128 by decide), by omega⟩
  · exact ⟨10, h1 (show (10 : UInt8).toNat < 128 by decide), by omega⟩
  · exact ⟨13, h1 (show (13 : UInt8).toNat < 128 by decide), by omega⟩
  · exact ⟨9, h1 (show (9 : UInt8).toNat < 128 by decide), by omega⟩

theorem none_behind (a e : Nat) (B : Nat) (hB : 128 ≤ B) (hB2 : B < 256) (w : World) :
    Calls Tryz.prog 55 #[.string ((⟨#[34, 92, 10, 13, 9]⟩ : ByteArray).extract a e), .int .u8 B] w fun e w' => e = .returned (.int .i64 (-1)) ∧ w' = w := by
  refine (Tryz.strings_IndexByte ((⟨#[34, 92, 10, 13, 9]⟩ : ByteArray).extract a e) B w).mono ?_
  rintro e' w' ⟨rfl, rfl⟩
  refine ⟨?_, rfl⟩
  have key : ∀ (l : List UInt8) (c : UInt8), (∀ b ∈ l, b.toNat < 128) → 128 ≤ c.toNat → Lib.indexByte l c = -1 := by
    intro l c
    induction l with
    | nil => intro _ _; rfl
    | cons b r ih =>
      intro h1 h2
      have hb := h1 b (List.mem_cons_self ..)
      have e1 : (b == c) = false := by rw [beq_eq_false_iff_ne]; intro e; rw [e] at hb; omega
      have e2 := ih (fun x hx => h1 x (List.mem_cons_of_mem _ hx)) h2
      unfold Lib.indexByte
      rw [e1, e2]; rfl
  rw [key]
  · intro b hb
    have := mem_extract hb
    simp only [List.mem_cons, List.mem_nil_iff, or_false] at this
    rcases this with rfl | rfl | rfl | rfl | rfl <;> decide
  · have : ((B : Int).toNat.toUInt8).toNat = B := by
      rw [Int.toNat_natCast]
      show B % 256 = B
      omega
    omega

set_option maxHeartbeats 4000000 in
theorem IndexRune_any (c : Nat) (hf : fine (c : Int) = true) (w : World) :
    Calls Tryz.prog 32 #[.string ⟨#[34, 92, 10, 13, 9]⟩, .int .i32 c] w fun e w' => e = .returned (.int .i64 (runeIx c)) ∧ Below w.heap.size w w' := by
  have hfi := (nfine_iff c).1 hf
  by_cases hlow : c < 128
  · refine (Tryz.strings_IndexRune_ascii ⟨#[34, 92, 10, 13, 9]⟩ c w (by omega) (by omega)).mono ?_
    rintro e w' ⟨rfl, rfl⟩
    refine ⟨?_, b0 _⟩
    unfold runeIx
    rw [if_pos hlow]
    rfl
  have R : Hid (runeIx c = -1) := hid (by unfold runeIx; rw [if_neg hlow])
  have hge : (0 : Int) ≤ (c : Int) := by omega
  have hn128 : ¬ ((c : Int) < 128) := by omega
  by_cases hrep : c = 65533
  · have zr : ((c : Int) == 65533) = true := by rw [beq_iff_eq]; omega
    clear hf hfi hlow hrep
    go_enter Tryz.func32, Tryz.ntmps32
    go_wp2_with fail
    go_loopw [5] (fun _ wr => ∃ pos : Nat, wr.heap[w.heap.size]? = some (.stringIter (⟨#[34, 92, 10, 13, 9]⟩ : ByteArray) pos) ∧ Below w.heap.size w wr ∧ w.heap.size + 1 ≤ wr.heap.size) (fun _ wr => 5 - wr.iterPos w.heap.size)
    case atStart => exact ⟨0, heap_alloc_new w _, ba (b0 w) _, by
      show w.heap.size + 1 ≤ (w.alloc (.stringIter (⟨#[34, 92, 10, 13, 9]⟩ : ByteArray) 0)).heap.size
      simp⟩
    case round =>
      rename World => wr
      obtain ⟨pos, hit, hbr, hzr⟩ := hrel
      have hsz : (⟨#[34, 92, 10, 13, 9]⟩ : ByteArray).size = 5 := rfl
      by_cases hp : pos < 5
      · have hnx : ∀ ty, (Instr.next (.pointer (some ⟨w.heap.size, 0, none⟩)) true ty).run Tryz.prog wr = _ := fun ty => Lib.run_next_any_at wr w.heap.size ⟨#[34, 92, 10, 13, 9]⟩ pos ty hit (by rw [hsz]; exact hp)
        obtain ⟨b, hb, hbl⟩ := five_low pos hp
        rw [hb] at hnx
        have hnew := Lib.iterAt_heap wr w.heap.size ⟨#[34, 92, 10, 13, 9]⟩ pos (pos + 1) hit
        have hnb := Lib.below_iterAt hbr (k := w.heap.size) (by omega) ⟨#[34, 92, 10, 13, 9]⟩ (pos + 1)
        have hnz := Lib.iterAt_size wr w.heap.size ⟨#[34, 92, 10, 13, 9]⟩ (pos + 1)
        have hmeas := iter_is hit
        have HN := hid hnew
        have HNB := hid hnb
        have HM := hid hmeas
        have zb : ((b : Int) == 65533) = false := by rw [beq_eq_false_iff_ne]; omega
        clear hit hbr hnew hnb hmeas hb
        dsimp only at hnx
        generalize wr.iterAt w.heap.size ⟨#[34, 92, 10, 13, 9]⟩ (pos + 1) = w4 at *
        go_wp2_with fail
        go_roundw
        case rel => exact ⟨pos + 1, HN.out, HNB.out, by omega⟩
        case measure => rw [HM.out, iter_is HN.out]; omega
      · have hnx : ∀ ty, (Instr.next (.pointer (some ⟨w.heap.size, 0, none⟩)) true ty).run Tryz.prog wr = _ := fun ty => Lib.run_next_end_at wr w.heap.size ⟨#[34, 92, 10, 13, 9]⟩ pos ty hit (by rw [hsz]; exact hp)
        have HBR := hid hbr
        clear hit hbr
        go_wp2
        go_ret
        exact ⟨by rw [R.out]; rfl, HBR.out⟩
  · have zr : ((c : Int) == 65533) = false := by rw [beq_eq_false_iff_ne]; omega
    have hv : Lib.validRune (c : Int) = true := by unfold Lib.validRune; exact decide_eq_true (by omega)
    have hv2 : Utf8.valid (c : Int) = true := by rw [validRune_eq]; unfold validRune; exact decide_eq_true (by omega)
    obtain ⟨f1, f2, f3⟩ := encode_facts (c : Int) hv2 (by omega)
    have HV := hid (fun w => (show Calls Tryz.prog 56 #[.int .i32 c] w fun e w' => e = .returned (.bool true) ∧ w' = w by
      have := Tryz.utf8_ValidRune (c : Int) w
      rw [hv] at this
      exact this))
    have hcv := run_convert_int_string (P := Tryz.prog) w 21 9 .i32 (c : Int) (by kernel_rfl) under9
    clear hf hfi hlow hrep hv hv2
    generalize Utf8.encode (c : Int) = E at *
    have fE : ∃ (k : Nat) (hk : k < E.size), E.size = k + 1 ∧ (k = 1 ∨ k = 2 ∨ k = 3) ∧ 128 ≤ (E[k]'hk).toNat := ⟨E.size - 1, by omega, by omega, by omega, f3 (by omega)⟩
    obtain ⟨k, hk, hEs, hk3, hbig⟩ := fE
    have hB2 : (E[k]'hk).toNat < 256 := UInt8.toNat_lt _
    clear f1 f2 f3
    have HI := hid (fun a e w => none_behind a e (E[k]'hk).toNat hbig hB2 w)
    rcases hk3 with rfl | rfl | rfl
    · have n1 : (((92 : Nat) : Int) == ((E[1]'hk).toNat : Int)) = false := by rw [beq_eq_false_iff_ne]; omega
      have n2 : (((((⟨#[34, 92, 10, 13, 9]⟩ : ByteArray)[1]'(by decide)).toNat : Nat) : Int) != ((E[1]'hk).toNat : Int)) = true := by
        show (((92 : Nat) : Int) != ((E[1]'hk).toNat : Int)) = true
        rw [bne, n1]; rfl
      have hw2 : IntKind.i64.wrap 2 = 2 := by decide
      have hE2 : (E.size : Int) = 2 := by omega
      go_enter Tryz.func32, Tryz.ntmps32
      go_wp2_with fail
      refine (HV.out _).mono ?_
      rintro e w1 ⟨rfl, rfl⟩
      go_wp2_with fail
      go_step3
      go_wp2_with fail
      go_loop [9, 10] (fun i f => i = .int .i64 1 ∧ f = .int .i64 0) (fun _ _ => 0)
      case atStart => exact ⟨rfl, rfl⟩
      case round =>
        obtain ⟨rfl, rfl⟩ := hrel
        go_wp2_with fail
        go_step3
        go_wp2_with fail
        go_quiet (fail)
        have hb2 := below_drewN (b0 w1) nq
        have HB2 := hid hb2
        clear hb2
        generalize w1.drewN nq = w2 at *
        go_wp2_with fail
        go_quiet (first | (go_at_call 55; exact Calls.quiet_of_same (HI.out _ _ _)))
        have HB3 := hid (below_drewN HB2.out nq)
        generalize w2.drewN nq = w3 at *
        go_wp2_with fail
        show Exit.noGoto (Exit.inBlock 0 _) Exit.ret _ _
        rw [Exit.noGoto_ret]
        unfold Exit.inBlock
        dsimp only
        unfold Exit.then
        dsimp only
        rw [Exit.noGoto_ret]
        dsimp only
        go_ret
        exact ⟨by rw [R.out]; rfl, HB3.out⟩
    · have n1 : (((10 : Nat) : Int) == ((E[2]'hk).toNat : Int)) = false := by rw [beq_eq_false_iff_ne]; omega
      have n2 : (((((⟨#[34, 92, 10, 13, 9]⟩ : ByteArray)[2]'(by decide)).toNat : Nat) : Int) != ((E[2]'hk).toNat : Int)) = true := by
        show (((10 : Nat) : Int) != ((E[2]'hk).toNat : Int)) = true
        rw [bne, n1]; rfl
      have hw2 : IntKind.i64.wrap 3 = 3 := by decide
      have hE2 : (E.size : Int) = 3 := by omega
      go_enter Tryz.func32, Tryz.ntmps32
      go_wp2_with fail
      refine (HV.out _).mono ?_
      rintro e w1 ⟨rfl, rfl⟩
      go_wp2_with fail
      go_step3
      go_wp2_with fail
      go_loop [9, 10] (fun i f => i = .int .i64 2 ∧ f = .int .i64 0) (fun _ _ => 0)
      case atStart => exact ⟨rfl, rfl⟩
      case round =>
        obtain ⟨rfl, rfl⟩ := hrel
        go_wp2_with fail
        go_step3
        go_wp2_with fail
        go_quiet (fail)
        have hb2 := below_drewN (b0 w1) nq
        have HB2 := hid hb2
        clear hb2
        generalize w1.drewN nq = w2 at *
        go_wp2_with fail
        go_quiet (first | (go_at_call 55; exact Calls.quiet_of_same (HI.out _ _ _)))
        have HB3 := hid (below_drewN HB2.out nq)
        generalize w2.drewN nq = w3 at *
        go_wp2_with fail
        show Exit.noGoto (Exit.inBlock 0 _) Exit.ret _ _
        rw [Exit.noGoto_ret]
        unfold Exit.inBlock
        dsimp only
        unfold Exit.then
        dsimp only
        rw [Exit.noGoto_ret]
        dsimp only
        go_ret
        exact ⟨by rw [R.out]; rfl, HB3.out⟩
    · have n1 : (((13 : Nat) : Int) == ((E[3]'hk).toNat : Int)) = false := by rw [beq_eq_false_iff_ne]; omega
      have n2 : (((((⟨#[34, 92, 10, 13, 9]⟩ : ByteArray)[3]'(by decide)).toNat : Nat) : Int) != ((E[3]'hk).toNat : Int)) = true := by
        show (((13 : Nat) : Int) != ((E[3]'hk).toNat : Int)) = true
        rw [bne, n1]; rfl
      have hw2 : IntKind.i64.wrap 4 = 4 := by decide
      have hE2 : (E.size : Int) = 4 := by omega
      go_enter Tryz.func32, Tryz.ntmps32
      go_wp2_with fail
      refine (HV.out _).mono ?_
      rintro e w1 ⟨rfl, rfl⟩
      go_wp2_with fail
      go_step3
      go_wp2_with fail
      go_loop [9, 10] (fun i f => i = .int .i64 3 ∧ f = .int .i64 0) (fun _ _ => 0)
      case atStart => exact ⟨rfl, rfl⟩
      case round =>
        obtain ⟨rfl, rfl⟩ := hrel
        go_wp2_with fail
        go_step3
        go_wp2_with fail
        go_quiet (fail)
        have hb2 := below_drewN (b0 w1) nq
        have HB2 := hid hb2
        clear hb2
        generalize w1.drewN nq = w2 at *
        go_wp2_with fail
        go_quiet (first | (go_at_call 55; exact Calls.quiet_of_same (HI.out _ _ _)))
        have HB3 := hid (below_drewN HB2.out nq)
        generalize w2.drewN nq = w3 at *
        go_wp2_with fail
        show Exit.noGoto (Exit.inBlock 0 _) Exit.ret _ _
        rw [Exit.noGoto_ret]
        unfold Exit.inBlock
        dsimp only
        unfold Exit.then
        dsimp only
        rw [Exit.noGoto_ret]
        dsimp only
        go_ret
        exact ⟨by rw [R.out]; rfl, HB3.out⟩
end Go.Proofs.YtblpckeimdmpaaaGreatDoor.Fx
