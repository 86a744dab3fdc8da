/- Layer 8: contract of the document's own answer: word. -/
import Derived.Test.YtblpckeimdmpaaaGreatDoorFlD
import Derived.Deep.LoopGhost
set_option linter.unusedVariables false
set_option linter.unusedSimpArgs false
namespace Go.Proofs.YtblpckeimdmpaaaGreatDoor.Fl
open Go Go.Proofs.YtblpckeimdmpaaaGreatDoor Go.Proofs.YtblpckeimdmpaaaGreatDoor.Utf Go.Proofs.YtblpckeimdmpaaaGreatDoor.Names Go.RowKit
set_option maxRecDepth 100000

/-- How many bytes of a word go on there. -/
def goes (s : Bool) (m : List UInt8) : Nat := wordF m.length s m
theorem goes_stop {s : Bool} {m : List UInt8} (h : ¬ ((rune m).2 ≠ 0 ∧ Utf.next (rune m).1 = true ∧ (s = true → Utf.first (rune m).1 = true))) : goes s m = 0 := by
  unfold goes
  rcases m with _ | ⟨b, r⟩
  · rfl
  · rw [List.length_cons]; unfold wordF; rw [if_neg h]
theorem goes_on {s : Bool} {m : List UInt8} (h : (rune m).2 ≠ 0 ∧ Utf.next (rune m).1 = true ∧ (s = true → Utf.first (rune m).1 = true)) : goes s m = (rune m).2 + goes false (m.drop (rune m).2) := by
  unfold goes
  have hl := rune_le m
  rcases m with _ | ⟨b, r⟩
  · exact absurd (by rw [rune_nil]) h.1
  · conv => lhs; rw [List.length_cons]; unfold wordF
    rw [if_pos h, wordF_eq r.length _ false _ (by rw [List.length_drop, List.length_cons]; omega) (Nat.le_refl _)]
theorem sub_at (l : List UInt8) (k : Nat) : (text l).extract k l.length = text (l.drop k) := by
  have := text_extract l k
  rwa [text_size] at this

set_option maxHeartbeats 2000000 in
theorem word_any (l : List UInt8) (i : Nat) (hl : l.length ≤ 1000000) (hi : i ≤ l.length) (w : World) :
    Calls Tryz.prog 20 #[.string (text l), .int .i64 i] w fun e w' => e = .returned (.int .i64 (wordN (l.drop i))) ∧ Below w.heap.size w w' := by
  have s1 : (text l).size = l.length := text_size l
  obtain ⟨R, hR⟩ : ∃ R, wordN (l.drop i) = R := ⟨_, rfl⟩
  rw [hR]
  have HR := hid (show goes true (l.drop i) = R from hR)
  clear hR
  go_enter Tryz.func20, Tryz.ntmps20
  go_wp2_with fail
  go_loopg [5] (l.length - i) (fun gk x wr => ∃ k : Nat, gk = l.length - k ∧ i ≤ k ∧ k ≤ l.length ∧ x = .int .i64 k ∧ Hid (k - i + goes (k == i) (l.drop k) = R) ∧ Hid (Below w.heap.size w wr))
  case atStart => exact ⟨i, rfl, Nat.le_refl _, hi, rfl, hid (by rw [beq_self_eq_true, Nat.sub_self, Nat.zero_add]; exact HR.out), hid (Below.refl _ _)⟩
  case round =>
    rename World => wr
    obtain ⟨k, hgk, hik, hkl, rfl, HJ, HB⟩ := hrel
    by_cases hlt : k < l.length
    · have hx := sub_at l k
      have hml : (l.drop k).length = l.length - k := List.length_drop
      have hJ := HJ.out
      have hst := fun h => goes_stop (s := (k == i)) (m := l.drop k) h
      have hon := fun h => goes_on (s := (k == i)) (m := l.drop k) h
      rw [List.drop_drop] at hon
      have hru := rune_none (l := l.drop k)
      have hle := (rune_le (l.drop k)).1
      rw [hml] at hle
      obtain ⟨vb, w1, hcv, hvb, hb1, _⟩ := conv_at (P := Tryz.prog) (l.drop k) (by omega) 9 44 5 under9 underB under8 wr
      have hrune := RRune_any vb (l.drop k) w1 (hvb w1 rfl)
      unfold pairV at hrune
      have hq1 : (k : Int) < (l.length : Int) := by omega
      have hq2 : (k : Int) ≤ (l.length : Int) := by omega
      generalize l.drop k = m at *
      generalize rune m = cn at *
      obtain ⟨c, n⟩ := cn
      dsimp only at hst hon hru hle hrune
      have HB1 := hid hb1
      have HR2 := hid hrune
      have HNX := hid (fun W => RNext_any (c : Int) W)
      have HFI := hid (fun W => RFirst_any (c : Int) W)
      clear hvb hb1 hrune
      by_cases hn : n ≠ 0 ∧ Utf.next (c : Int) = true
      · by_cases hf : k = i ∧ Utf.first (c : Int) = false
        · have HS := hid (show k - i = R by rw [← hJ, hst (by rintro ⟨_, _, h⟩; rw [h (by rw [hf.1]; simp)] at hf; cases hf.2)]; rfl)
          have HN := hid hn.2
          have HF := hid hf.2
          have hki : ((k : Int) == (i : Int)) = true := by rw [beq_iff_eq]; omega
          have hkv : (k : Int) - (i : Int) = ((k - i : Nat) : Int) := by omega
          clear hJ hst hon hru hn hf hml hle
          go_wp2_with fail
          refine HR2.out.mono ?_
          rintro e w2 ⟨rfl, hb2⟩
          have HB2 := hid (bt HB.out (bt HB1.out hb2))
          clear hb2 hcv
          go_wp2_with fail
          refine (HNX.out _).mono ?_
          rintro e w3 ⟨rfl, rfl⟩
          rw [HN.out]
          go_wp2_with fail
          refine (HFI.out _).mono ?_
          rintro e w3 ⟨rfl, rfl⟩
          rw [HF.out]
          go_wp2
          go_ret
          exact ⟨by rw [← HS.out]; go_num, HB2.out⟩
        · have hs : (k == i) = true → Utf.first (c : Int) = true := by
            intro e
            cases h : Utf.first (c : Int) with
            | true => rfl
            | false => exact absurd ⟨by simpa using e, h⟩ hf
          have hgo := hon ⟨hn.1, hn.2, hs⟩
          have hki2 : ¬ k + n = i := by omega
          have HE := hid (show k + n - i + goes (k + n == i) (l.drop (k + n)) = R by
            rw [show (k + n == i) = false from beq_eq_false_iff_ne.2 hki2, ← hJ, hgo]; omega)
          have HN := hid hn.2
          have HM := hid (show i ≤ k + n ∧ k + n ≤ l.length ∧ l.length - (k + n) < l.length - k by omega)
          have hkn : k + n ≤ 1000000 := by omega
          by_cases hk : k = i
          · have hki : ((k : Int) == (i : Int)) = true := by rw [beq_iff_eq]; omega
            have HF := hid (hs (by rw [hk]; simp))
            clear hJ hst hon hru hn hf hml hle hgo hs hki2 hk
            go_wp2_with fail
            refine HR2.out.mono ?_
            rintro e w2 ⟨rfl, hb2⟩
            have HB2 := hid (bt HB.out (bt HB1.out hb2))
            clear hb2 hcv
            go_wp2_with fail
            refine (HNX.out _).mono ?_
            rintro e w3 ⟨rfl, rfl⟩
            rw [HN.out]
            go_wp2_with fail
            refine (HFI.out _).mono ?_
            rintro e w3 ⟨rfl, rfl⟩
            rw [HF.out]
            go_wp2
            go_roundg (l.length - (k + n))
            case rel => exact ⟨k + n, rfl, HM.out.1, HM.out.2.1, by go_num, HE, HB2⟩
            case measure => have := HM.out.2.2; omega
          · have hki : ((k : Int) == (i : Int)) = false := by rw [beq_eq_false_iff_ne]; omega
            clear hJ hst hon hru hn hf hml hle hgo hs hki2 hk
            go_wp2_with fail
            refine HR2.out.mono ?_
            rintro e w2 ⟨rfl, hb2⟩
            have HB2 := hid (bt HB.out (bt HB1.out hb2))
            clear hb2 hcv
            go_wp2_with fail
            refine (HNX.out _).mono ?_
            rintro e w3 ⟨rfl, rfl⟩
            rw [HN.out]
            go_wp2
            go_roundg (l.length - (k + n))
            case rel => exact ⟨k + n, rfl, HM.out.1, HM.out.2.1, by go_num, HE, HB2⟩
            case measure => have := HM.out.2.2; omega
      · have HN := hid (show Utf.next (c : Int) = false by
          cases h : Utf.next (c : Int) with
          | false => rfl
          | true =>
            refine absurd ⟨fun e => ?_, h⟩ hn
            have := hru e
            injection this with h1 h2
            subst h1
            revert h; decide)
        have HS := hid (show k - i = R by rw [← hJ, hst (by rintro ⟨h1, h2, _⟩; exact hn ⟨h1, h2⟩)]; rfl)
        have hkv : (k : Int) - (i : Int) = ((k - i : Nat) : Int) := by omega
        clear hJ hst hon hru hn hml hle
        go_wp2_with fail
        refine HR2.out.mono ?_
        rintro e w2 ⟨rfl, hb2⟩
        have HB2 := hid (bt HB.out (bt HB1.out hb2))
        clear hb2 hcv
        go_wp2_with fail
        refine (HNX.out _).mono ?_
        rintro e w3 ⟨rfl, rfl⟩
        rw [HN.out]
        go_wp2
        go_ret
        exact ⟨by rw [← HS.out]; go_num, HB2.out⟩
    · have hq1 : ¬ (k : Int) < (l.length : Int) := by omega
      have HS := hid (show k - i = R by rw [← HJ.out, List.drop_eq_nil_of_le (by omega)]; rfl)
      have hkv : (k : Int) - (i : Int) = ((k - i : Nat) : Int) := by omega
      go_wp2
      go_ret
      exact ⟨by rw [← HS.out]; go_num, HB.out⟩
end Go.Proofs.YtblpckeimdmpaaaGreatDoor.Fl
