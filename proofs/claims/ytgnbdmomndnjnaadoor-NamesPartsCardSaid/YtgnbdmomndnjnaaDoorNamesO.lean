/- Layer 2: the walk of the statement NamesParts. -/
import Derived.Test.YtgnbdmomndnjnaaDoorNamesP
import Derived.Lib.OthersKept
set_option linter.unusedVariables false
set_option linter.unusedSimpArgs false
namespace Go.Proofs.YtgnbdmomndnjnaaDoor.Names
open Go Go.Proofs.YtgnbdmomndnjnaaDoor Go.Proofs.YtgnbdmomndnjnaaDoor.Utf Go.RowKit
set_option maxRecDepth 100000

/-- Where the language's range stands, if the text is a plain name: between characters. -/
def Between (l : List UInt8) (pos : Nat) : Prop := plainB l = true → pos = 0 ∨ (plainB (l.take pos) = true ∧ allq Utf.part (l.drop pos) = true)
theorem Between.next {l : List UInt8} {pos : Nat} (h : Between l pos) (hp : pos < l.length) (hq : plainB l = true) : Utf8.decode (text l) pos = rune (l.drop pos) ∧ Between l (pos + (rune (l.drop pos)).2) := by
  obtain ⟨h1, h2, h3⟩ := shp_begin hq hp (h hq)
  exact ⟨decode_right hp h1, fun _ => .inr ⟨h2, h3⟩⟩

theorem byte_add (a : List UInt8) (c : UInt8) : (⟨#[c]⟩ : ByteArray) ++ text a = text (c :: a) := by rw [byte_text, text_append]; rfl

set_option maxHeartbeats 4000000 in
/-- What stands behind the loop. -/
theorem decode_pos (l : List UInt8) (pos : Nat) : 1 ≤ (Utf8.decode (text l) pos).2 := by
  rw [Lib.decode_at]
  simp only [nth_data, text_data, text_size]
  unfold Lib.decodeN
  repeat' split
  all_goals simp

theorem iterPos_at {W : World} {k : Nat} {s : ByteArray} {pos : Nat} (h : W.heap[k]? = some (.stringIter s pos)) : W.iterPos k = pos := by
  unfold World.iterPos; rw [h]
set_option maxHeartbeats 8000000 in
theorem NamesParts_walk (s : ByteArray) (hs : s.size ≤ 140737488351232) (w : World) :
    Calls Tryd.prog 8 #[.string s] w fun e w' => e = .returned (.bool true) ∧ Below w.heap.size w w' := by
  obtain ⟨l, rfl, hl⟩ := text_of s
  rw [← hl] at hs
  have AL := hid alive_any
  by_cases hb : 500 < l.length
  · have hbb : (500 : Int) < ((text l).size : Int) := by omega
    clear hl
    go_enter Tryd.func8, Tryd.ntmps8
    go_wp2_with (go_at_call 9; refine (AL.out _).mono ?_; rintro e w' ⟨rfl, hb⟩)
    go_ret
    exact ⟨rfl, hb⟩
  · have hbb : ¬ (500 : Int) < ((text l).size : Int) := by omega
    have p1 := fun w => Plain_any l (by omega) w
    have p7 := fun w => Plain_any (l ++ [55]) (by simp; omega) w
    have p8 := fun w => Plain_any (55 :: l) (by simp; omega) w
    have p9 := fun w => Plain_any (l ++ [32]) (by simp; omega) w
    have p0 := fun w => Plain_any [] (by simp) w
    have q1 := fun w => Word_any l (by omega) w
    have q7 := fun w => Word_any (l ++ [55]) (by simp; omega) w
    have q8 := fun w => Word_any (55 :: l) (by simp; omega) w
    have q9 := fun w => Right_any l (by omega) w
    rw [seven_plain] at p8
    rw [seven_word] at q8
    rw [show plainB [] = false from rfl] at p0
    have P8 := hid p8
    have P0 := hid p0
    have Q8 := hid q8
    have e1 : text l ++ (⟨#[55]⟩ : ByteArray) = text (l ++ [55]) := add_byte l 55
    have e2 : (⟨#[55]⟩ : ByteArray) ++ text l = text (55 :: l) := byte_add l 55
    have e3 : text l ++ (⟨#[32]⟩ : ByteArray) = text (l ++ [32]) := add_byte l 32
    have z1 : (text l).size + (⟨#[55]⟩ : ByteArray).size ≤ 9223372036854775807 := by rw [text_size]; simp [ByteArray.size]; omega
    have z2 : (⟨#[55]⟩ : ByteArray).size + (text l).size ≤ 9223372036854775807 := by rw [text_size]; simp [ByteArray.size]; omega
    have z3 : (text l).size + (⟨#[32]⟩ : ByteArray).size ≤ 9223372036854775807 := by rw [text_size]; simp [ByteArray.size]; omega
    have HSZ := hid (text_size l)
    have HPT := hid (fun (h : plainB l = true) (pos : Nat) (hq : Between l pos) (hp : 0 < pos) => show plainB (l.take pos) = true from by
      rcases hq h with h0 | ⟨h1, _⟩
      · omega
      · exact h1)
    have WP := hid (fun (h : wordB l = true) => wordy_plain (word_wordy h))
    clear p0 p8 q8 hl hs
    cases hp1 : plainB l
    · have hw : wordB l = false := by
        cases h : wordB l
        · rfl
        · have := WP.out h; rw [hp1] at this; cases this
      rw [hp1] at p1
      rw [hw] at q1
      have P1 := hid p1
      have Q1 := hid q1
      have HPF := hid hp1
      clear p1 p7 p9 q1 q7 q9 hw hp1
      go_enter Tryd.func8, Tryd.ntmps8
      go_wp2_with fail
      go_loopw [3] (fun _ wr => ∃ pos : Nat, wr.heap[w.heap.size]? = some (.stringIter (text l) pos) ∧ Between l pos ∧ Below w.heap.size w wr) (fun _ wr => l.length - wr.iterPos w.heap.size)
      case atStart => exact ⟨0, World.alloc_heap_new w _, fun _ => .inl rfl, ba (b0 w) _⟩
      case round =>
        obtain ⟨pos, hit, hbt, hbr⟩ := hrel
        by_cases hp : pos < l.length
        · have hps : pos < (text l).size := by rw [HSZ.out]; exact hp
          have hnx : ∀ ty, (Instr.next (.pointer (some ⟨w.heap.size, 0, none⟩)) true ty).run Tryd.prog wr = _ := fun ty => Lib.run_next_any_at wr w.heap.size (text l) pos ty hit hps
          have hd1 := decode_pos l pos
          have hd2 := decode_le (text l) pos
          have hnext : Between l (pos + (Utf8.decode (text l) pos).2) := fun h => (by rw [HPF.out] at h; cases h)
          obtain ⟨d, hdd⟩ : ∃ d, Utf8.decode (text l) pos = d := ⟨_, rfl⟩
          rw [hdd] at hnx hd1 hd2 hnext
          have hnew := Lib.iterAt_heap wr w.heap.size (text l) pos (pos + d.2) hit
          have hnb := Lib.below_iterAt hbr (Nat.le_refl w.heap.size) (text l) (pos + d.2)
          have hmeas := iterPos_at hit
          have HN := hid hnew
          have HB := hid hnb
          have HX := hid hnext
          have HM := hid hmeas
          have HBT := hid hbt
          clear hdd hnew hnb hnext hmeas hit hbr hbt
          have hltw := (Array.getElem?_eq_some_iff.1 HN.out).1
          generalize wr.iterAt w.heap.size (text l) (pos + d.2) = w1 at *
          by_cases hz : pos = 0
          · subst hz
            go_wp2_with fail
            go_roundw
            case rel => exact ⟨_, HN.out, HX.out, HB.out⟩
            case measure => rw [HM.out, iterPos_at HN.out]; omega
          · have hz2 : (0 : Int) < (pos : Int) := by omega
            go_wp2_with (go_at_call 12; refine (P1.out _).mono ?_; rintro e w2 ⟨rfl, hb2⟩)
            go_roundw
            case rel => exact ⟨_, (hb2.block _ hltw).trans HN.out, HX.out, bt HB.out hb2⟩
            case measure => rw [HM.out, iterPos_at ((hb2.block _ hltw).trans HN.out)]; omega
        · have hps : ¬ pos < (text l).size := by rw [HSZ.out]; exact hp
          have hnx : ∀ ty, (Instr.next (.pointer (some ⟨w.heap.size, 0, none⟩)) true ty).run Tryd.prog wr = _ := fun ty => Lib.run_next_end_at wr w.heap.size (text l) pos ty hit hps
          have HB := hid hbr
          clear hit hbt hbr
          go_wp2_with fail
          refine (P1.out _).mono ?_
          rintro e w10 ⟨rfl, hb10⟩
          go_wp2_with fail
          refine (Q1.out _).mono ?_
          rintro e w11 ⟨rfl, hb11⟩
          go_wp2_with fail
          refine (AL.out _).mono ?_
          rintro e w12 ⟨rfl, hb12⟩
          go_wp2
          go_ret
          exact ⟨rfl, bt (bt (bt (HB.out) hb10) hb11) hb12⟩
    · rw [hp1] at p1
      rw [plain_seven hp1] at p7
      rw [plain_blank hp1] at p9
      have P1 := hid p1
      have P7 := hid p7
      have P9 := hid p9
      have HPT1 := hid hp1
      clear p1 p7 p9 hp1
      cases hw : wordB l
      · rw [hw] at q1
        have Q1 := hid q1
        clear q1 q7 q9 hw
        go_enter Tryd.func8, Tryd.ntmps8
        go_wp2_with fail
        go_loopw [3] (fun _ wr => ∃ pos : Nat, wr.heap[w.heap.size]? = some (.stringIter (text l) pos) ∧ Between l pos ∧ Below w.heap.size w wr) (fun _ wr => l.length - wr.iterPos w.heap.size)
        case atStart => exact ⟨0, World.alloc_heap_new w _, fun _ => .inl rfl, ba (b0 w) _⟩
        case round =>
          obtain ⟨pos, hit, hbt, hbr⟩ := hrel
          by_cases hp : pos < l.length
          · have hps : pos < (text l).size := by rw [HSZ.out]; exact hp
            have hnx : ∀ ty, (Instr.next (.pointer (some ⟨w.heap.size, 0, none⟩)) true ty).run Tryd.prog wr = _ := fun ty => Lib.run_next_any_at wr w.heap.size (text l) pos ty hit hps
            have hd1 := decode_pos l pos
            have hd2 := decode_le (text l) pos
            have hnext : Between l (pos + (Utf8.decode (text l) pos).2) := by
              have h9 := hbt.next hp HPT1.out
              rw [h9.1]; exact h9.2
            obtain ⟨d, hdd⟩ : ∃ d, Utf8.decode (text l) pos = d := ⟨_, rfl⟩
            rw [hdd] at hnx hd1 hd2 hnext
            have hnew := Lib.iterAt_heap wr w.heap.size (text l) pos (pos + d.2) hit
            have hnb := Lib.below_iterAt hbr (Nat.le_refl w.heap.size) (text l) (pos + d.2)
            have hmeas := iterPos_at hit
            have HN := hid hnew
            have HB := hid hnb
            have HX := hid hnext
            have HM := hid hmeas
            have HBT := hid hbt
            clear hdd hnew hnb hnext hmeas hit hbr hbt
            have hltw := (Array.getElem?_eq_some_iff.1 HN.out).1
            generalize wr.iterAt w.heap.size (text l) (pos + d.2) = w1 at *
            by_cases hz : pos = 0
            · subst hz
              go_wp2_with fail
              go_roundw
              case rel => exact ⟨_, HN.out, HX.out, HB.out⟩
              case measure => rw [HM.out, iterPos_at HN.out]; omega
            · have hz2 : (0 : Int) < (pos : Int) := by omega
              have htk := HPT.out HPT1.out pos HBT.out (by omega)
              have pt := fun w => Plain_any (l.take pos) (by simp; omega) w
              rw [htk] at pt
              have PT := hid pt
              have ex0 := text_zero l pos
              have hi1 : (pos : Int) ≤ ((text l).size : Int) := by omega
              clear htk pt
              go_wp2_with fail
              refine (P1.out _).mono ?_
              rintro e w2 ⟨rfl, hb2⟩
              go_wp2_with (go_at_call 12; refine (PT.out _).mono ?_; rintro e w3 ⟨rfl, hb3⟩)
              have hb23 := bt hb2 hb3
              go_roundw
              case rel => exact ⟨_, (hb23.block _ hltw).trans HN.out, HX.out, bt HB.out hb23⟩
              case measure => rw [HM.out, iterPos_at ((hb23.block _ hltw).trans HN.out)]; omega
          · have hps : ¬ pos < (text l).size := by rw [HSZ.out]; exact hp
            have hnx : ∀ ty, (Instr.next (.pointer (some ⟨w.heap.size, 0, none⟩)) true ty).run Tryd.prog wr = _ := fun ty => Lib.run_next_end_at wr w.heap.size (text l) pos ty hit hps
            have HB := hid hbr
            clear hit hbt hbr
            go_wp2_with fail
            refine (P1.out _).mono ?_
            rintro e w10 ⟨rfl, hb10⟩
            go_wp2_with fail
            refine (P7.out _).mono ?_
            rintro e w11 ⟨rfl, hb11⟩
            go_wp2_with fail
            refine (P8.out _).mono ?_
            rintro e w12 ⟨rfl, hb12⟩
            go_wp2_with fail
            refine (P9.out _).mono ?_
            rintro e w13 ⟨rfl, hb13⟩
            go_wp2_with fail
            refine (P0.out _).mono ?_
            rintro e w14 ⟨rfl, hb14⟩
            go_wp2_with fail
            refine (Q1.out _).mono ?_
            rintro e w15 ⟨rfl, hb15⟩
            go_wp2_with fail
            refine (AL.out _).mono ?_
            rintro e w16 ⟨rfl, hb16⟩
            go_wp2
            go_ret
            exact ⟨rfl, bt (bt (bt (bt (bt (bt (bt (HB.out) hb10) hb11) hb12) hb13) hb14) hb15) hb16⟩
      · rw [hw] at q1
        rw [word_seven hw] at q7
        rw [show rightB l = true from by unfold rightB; rw [words_one hw]; rfl] at q9
        have Q1 := hid q1
        have Q7 := hid q7
        have Q9 := hid q9
        clear q1 q7 q9 hw
        go_enter Tryd.func8, Tryd.ntmps8
        go_wp2_with fail
        go_loopw [3] (fun _ wr => ∃ pos : Nat, wr.heap[w.heap.size]? = some (.stringIter (text l) pos) ∧ Between l pos ∧ Below w.heap.size w wr) (fun _ wr => l.length - wr.iterPos w.heap.size)
        case atStart => exact ⟨0, World.alloc_heap_new w _, fun _ => .inl rfl, ba (b0 w) _⟩
        case round =>
          obtain ⟨pos, hit, hbt, hbr⟩ := hrel
          by_cases hp : pos < l.length
          · have hps : pos < (text l).size := by rw [HSZ.out]; exact hp
            have hnx : ∀ ty, (Instr.next (.pointer (some ⟨w.heap.size, 0, none⟩)) true ty).run Tryd.prog wr = _ := fun ty => Lib.run_next_any_at wr w.heap.size (text l) pos ty hit hps
            have hd1 := decode_pos l pos
            have hd2 := decode_le (text l) pos
            have hnext : Between l (pos + (Utf8.decode (text l) pos).2) := by
              have h9 := hbt.next hp HPT1.out
              rw [h9.1]; exact h9.2
            obtain ⟨d, hdd⟩ : ∃ d, Utf8.decode (text l) pos = d := ⟨_, rfl⟩
            rw [hdd] at hnx hd1 hd2 hnext
            have hnew := Lib.iterAt_heap wr w.heap.size (text l) pos (pos + d.2) hit
            have hnb := Lib.below_iterAt hbr (Nat.le_refl w.heap.size) (text l) (pos + d.2)
            have hmeas := iterPos_at hit
            have HN := hid hnew
            have HB := hid hnb
            have HX := hid hnext
            have HM := hid hmeas
            have HBT := hid hbt
            clear hdd hnew hnb hnext hmeas hit hbr hbt
            have hltw := (Array.getElem?_eq_some_iff.1 HN.out).1
            generalize wr.iterAt w.heap.size (text l) (pos + d.2) = w1 at *
            by_cases hz : pos = 0
            · subst hz
              go_wp2_with fail
              go_roundw
              case rel => exact ⟨_, HN.out, HX.out, HB.out⟩
              case measure => rw [HM.out, iterPos_at HN.out]; omega
            · have hz2 : (0 : Int) < (pos : Int) := by omega
              have htk := HPT.out HPT1.out pos HBT.out (by omega)
              have pt := fun w => Plain_any (l.take pos) (by simp; omega) w
              rw [htk] at pt
              have PT := hid pt
              have ex0 := text_zero l pos
              have hi1 : (pos : Int) ≤ ((text l).size : Int) := by omega
              clear htk pt
              go_wp2_with fail
              refine (P1.out _).mono ?_
              rintro e w2 ⟨rfl, hb2⟩
              go_wp2_with (go_at_call 12; refine (PT.out _).mono ?_; rintro e w3 ⟨rfl, hb3⟩)
              have hb23 := bt hb2 hb3
              go_roundw
              case rel => exact ⟨_, (hb23.block _ hltw).trans HN.out, HX.out, bt HB.out hb23⟩
              case measure => rw [HM.out, iterPos_at ((hb23.block _ hltw).trans HN.out)]; omega
          · have hps : ¬ pos < (text l).size := by rw [HSZ.out]; exact hp
            have hnx : ∀ ty, (Instr.next (.pointer (some ⟨w.heap.size, 0, none⟩)) true ty).run Tryd.prog wr = _ := fun ty => Lib.run_next_end_at wr w.heap.size (text l) pos ty hit hps
            have HB := hid hbr
            clear hit hbt hbr
            go_wp2_with fail
            refine (P1.out _).mono ?_
            rintro e w10 ⟨rfl, hb10⟩
            go_wp2_with fail
            refine (P7.out _).mono ?_
            rintro e w11 ⟨rfl, hb11⟩
            go_wp2_with fail
            refine (P8.out _).mono ?_
            rintro e w12 ⟨rfl, hb12⟩
            go_wp2_with fail
            refine (P9.out _).mono ?_
            rintro e w13 ⟨rfl, hb13⟩
            go_wp2_with fail
            refine (P0.out _).mono ?_
            rintro e w14 ⟨rfl, hb14⟩
            go_wp2_with fail
            refine (Q1.out _).mono ?_
            rintro e w15 ⟨rfl, hb15⟩
            go_wp2_with fail
            refine (P1.out _).mono ?_
            rintro e w16 ⟨rfl, hb16⟩
            go_wp2_with fail
            refine (Q7.out _).mono ?_
            rintro e w17 ⟨rfl, hb17⟩
            go_wp2_with fail
            refine (Q8.out _).mono ?_
            rintro e w18 ⟨rfl, hb18⟩
            go_wp2_with fail
            refine (Q9.out _).mono ?_
            rintro e w19 ⟨rfl, hb19⟩
            go_wp2_with fail
            refine (AL.out _).mono ?_
            rintro e w20 ⟨rfl, hb20⟩
            go_wp2
            go_ret
            exact ⟨rfl, bt (bt (bt (bt (bt (bt (bt (bt (bt (bt (bt (HB.out) hb10) hb11) hb12) hb13) hb14) hb15) hb16) hb17) hb18) hb19) hb20⟩
end Go.Proofs.YtgnbdmomndnjnaaDoor.Names
