/- Layer 3: contract of the code's tell, at both its uses; of Text and Value. -/
import Derived.Test.YtdpknpgknbkiiaaGreatDoorEntG
import Derived.Test.YtdpknpgknbkiiaaGreatDoorEntH
import Derived.Test.YtdpknpgknbkiiaaGreatDoorEntB
set_option linter.unusedVariables false
set_option linter.unusedSimpArgs false
namespace Go.Proofs.YtdpknpgknbkiiaaGreatDoor.Ent
open Go Go.Proofs.YtdpknpgknbkiiaaGreatDoor Go.Proofs.YtdpknpgknbkiiaaGreatDoor.Utf Go.RowKit
set_option maxRecDepth 100000

theorem has_any (l p : List UInt8) (b : Bool) (h : pre p l = b) (a : Array UInt8) (ha : a.toList = p) (w : World) :
    Calls Tryz.prog 36 #[.string (text l), .string ⟨a⟩] w fun e w' => e = .returned (.bool b) ∧ w = w' := by
  have e : (⟨a⟩ : ByteArray) = text p := by rw [← ha]; simp [text]
  rw [e]
  refine (Tryz.strings_HasPrefix (text l) (text p) w).mono ?_
  rintro e w' ⟨rfl, rfl⟩
  refine ⟨?_, rfl⟩
  have h2 : Lib.hasPrefix l p = b := h
  rw [text_data, text_data, h2]

theorem front_amp {m : List UInt8} (h0 : ¬ (rune m).2 = 0) (h : (rune m).1 = 38) : ∃ t, m = 38 :: t := by
  have e := rune_take m h0
  rw [h, enc_low (by omega)] at e
  exact ⟨m.drop (rune m).2, by (conv => lhs; rw [← List.take_append_drop (rune m).2 m, e]); rfl⟩
theorem fine_le {c : Nat} (h : fine (c : Int) = true) : (c : Int) ≤ 1114111 := by
  have := (nfine_iff c).1 h; omega
theorem runeR_at {l : List UInt8} {pos : Nat} (hp : pos < l.length) : runeR l pos = if (rune (l.drop pos)).2 = 0 then (0, 0, 4) else ((rune (l.drop pos)).1, (rune (l.drop pos)).2, 0) := by
  unfold runeR
  rw [if_neg (by omega), Int.toNat_natCast]

set_option maxHeartbeats 4000000 in
theorem tell_text (l : List UInt8) (hl : l.length ≤ 1000000) (w : World) (hT : Tabs w) (hE : Errs w) :
    Calls Tryz.prog 68 #[.string (text l), .func (.func 69) #[] #[]] w fun e w' => e = .returned (tellV (tell false l)) ∧ Below w.heap.size w w' := by
  have s1 : (text l).size = l.length := text_size l
  have ef : ∀ args w, (callFunc 69 args).run Tryz.prog w = .ok (.enter 69 args) w := enters_of Tryz.func69 (by kernel_rfl) rfl
  obtain ⟨vb, w1, hcv, hvb, hb1, hz1⟩ := conv_at (P := Tryz.prog) l (by omega) 9 22 5 under9 underB under8 (w.alloc (.cells #[.pointer none, .slice none 0 0] 48))
  have hsz0 : (w.alloc (.cells #[.pointer none, .slice none 0 0] 48)).heap.size = w.heap.size + 1 := by simp
  have hI : Bld.Is (w.heap.size + 2) w.heap.size [] w1 := (Bld.Is.fresh (w.heap.size + 2) w (by omega)).later hb1
  have hb0 : Below w.heap.size w w1 := ((Below.refl _ w).alloc (Nat.le_refl _) _).trans (hb1.mono (by omega))
  rw [hsz0] at hz1 hvb
  have hvb' : ∀ wr : World, Bld.But (w.heap.size + 2) w.heap.size w1 wr → Bytes wr vb l := fun wr h => hvb wr (h.block _ (by omega) (by omega))
  have hlow : ∀ wr : World, Bld.But (w.heap.size + 2) w.heap.size w1 wr → Below w.heap.size w wr := fun wr h => hb0.trans (h.below (Nat.le_refl _) (by omega))
  have HI := hid hI
  have HV := hid hvb'
  have HL := hid hlow
  have HT := hid hT
  have HE := hid hE
  clear hI hvb hvb' hb1 hb0 hlow hT hE hsz0
  go_enter Tryz.func68, Tryz.ntmps68
  go_wp2_with fail
  have HCV := hid hcv
  clear hcv
  go_loopw [9] (fun i wr => ∃ (pos : Nat) (out : List UInt8), i = .int .i64 pos ∧ Told false l pos out ∧ Bld.Is (w.heap.size + 2) w.heap.size out wr ∧ Bld.But (w.heap.size + 2) w.heap.size w1 wr) (fun i _ => l.length - (intOf i).toNat)
  case atStart => exact ⟨0, [], rfl, Told.start _ _, HI.out, Bld.But.refl _ _ _⟩
  case round =>
    rename World => wr
    obtain ⟨pos, out, rfl, hTo, hIs, hBu⟩ := hrel
    have ho1 := hTo.1
    have ho2 := hTo.2.1
    have hzr : w.heap.size + 2 ≤ wr.heap.size := by have := hBu.size; omega
    have hTr := HT.out.below (HL.out wr hBu) (Nat.le_refl _)
    have hEr := HE.out.below (HL.out wr hBu) (Nat.le_refl _)
    have hbytes := HV.out wr hBu
    have HTO := hid hTo
    have HIS := hid hIs
    have HBU := hid hBu
    clear hTo hIs hBu
    by_cases hp : pos < l.length
    · have hra := runeR_at hp
      have hx : (text l).extract pos l.length = text (l.drop pos) := by have := text_extract l pos; rwa [s1] at this
      have hml : (l.drop pos).length = l.length - pos := List.length_drop
      have hstop := fun (h : (item false (l.drop pos)).2.2 ≠ 0) => HTO.out.stop hp h
      have hnext := fun (h : (item false (l.drop pos)).2.2 = 0) => HTO.out.next h
      generalize l.drop pos = m at *
      have hle := rune_le m
      have HST := hid hstop
      have HNE := hid hnext
      clear hstop hnext
      by_cases h0 : (rune m).2 = 0
      · rw [if_pos h0] at hra
        have hrune := Rune_eq vb l pos wr hTr hbytes 0 0 4 hra
        have hit := item_bad (v := false) h0
        have hs := HST.out (by rw [hit]; simp)
        rw [hit] at hs
        have HS := hid hs
        have HR := hid hrune
        clear h0 hit hs hrune hra hTr hEr hbytes
        go_wp2_with fail
        refine HR.out.mono ?_
        rintro e w2 ⟨rfl, hb2⟩
        go_wp2
        go_ret3
        exact ⟨by rw [HS.out]; rfl, (HL.out _ HBU.out).trans (hb2.mono (by omega))⟩
      · rw [if_neg h0] at hra
        obtain ⟨hf, _, _, hk1, hk4⟩ := rune_some (l := m) (c := (rune m).1) (k := (rune m).2) rfl h0
        have hc1 := fine_le hf
        have hrune := Rune_eq vb l pos wr hTr hbytes _ _ 0 hra
        have hin := fun w => inText_any (rune m).1 w
        have hfi := itself_fine false _ hf
        have hfl := fine_le hfi
        have HR := hid hrune
        have HIN := hid hin
        have HFI := hid hfi
        clear hrune hra hTr hbytes hin hfi hf
        by_cases h1 : (rune m).1 = 60
        · have hit := item_lt (v := false) h0 h1
          have hs := HST.out (by rw [hit]; simp)
          rw [hit] at hs
          have hz60 : (((rune m).1 : Int) == 60) = true := by rw [beq_iff_eq]; omega
          have HS := hid hs
          clear h0 h1 hit hs hEr
          generalize itself false (rune m).1 = r at *
          generalize rune m = q at *
          go_wp2_with fail
          refine HR.out.mono ?_
          rintro e w2 ⟨rfl, hb2⟩
          go_wp2_with fail
          refine (HIN.out _).mono ?_
          rintro e w3 ⟨rfl, rfl⟩
          go_wp2
          go_ret3
          exact ⟨by rw [HS.out]; rfl, (HL.out _ HBU.out).trans (hb2.mono (by omega))⟩
        · have hz60 : (((rune m).1 : Int) == 60) = false := by rw [beq_eq_false_iff_ne]; omega
          by_cases h2 : (rune m).1 = 38
          · have hz38 : (((rune m).1 : Int) == 38) = true := by rw [beq_iff_eq]; omega
            obtain ⟨t, ht⟩ := front_amp h0 h2
            have href : ∀ w, Errs w → Calls Tryz.prog 96 #[.string (text m)] w fun e w' => e = .returned (refV (refer m)) ∧ Below w.heap.size w w' := fun w hE => by
              rw [ht]
              have hm := congrArg List.length ht
              simp only [List.length_cons] at hm
              exact reference_code t (by omega) w hE
            unfold refV at href
            have hrl := refer_le m
            by_cases h3 : (refer m).2 = 0
            · have hit := item_amp_no (v := false) h0 h1 h2 h3
              have hs := HST.out (by rw [hit]; simp)
              rw [hit] at hs
              have hz3 : (((refer m).2 : Int) == 0) = true := by rw [beq_iff_eq]; omega
              have HS := hid hs
              have HF := hid href
              have HER := hid hEr
              have HT2 := hid ht
              clear h0 h1 h2 h3 hit hs href hrl hEr ht
              generalize itself false (rune m).1 = r at *
              generalize rune m = q at *
              go_wp2_with fail
              refine HR.out.mono ?_
              rintro e w2 ⟨rfl, hb2⟩
              have HE2 := hid (HER.out.below hb2 (Nat.le_refl _))
              go_wp2_with fail
              refine (HIN.out _).mono ?_
              rintro e w3 ⟨rfl, rfl⟩
              go_wp2_with fail
              refine (HF.out _ HE2.out).mono ?_
              rintro e w4 ⟨rfl, hb4⟩
              go_wp2
              go_ret3
              exact ⟨by rw [HS.out]; rfl, (HL.out _ HBU.out).trans ((bt hb2 hb4).mono (by omega))⟩
            · have hit := item_amp (v := false) h0 h1 h2 h3
              have hn := HNE.out (by rw [hit])
              rw [hit] at hn
              have hz3 : (((refer m).2 : Int) == 0) = false := by rw [beq_eq_false_iff_ne]; omega
              have hfr := (hrl.2 h3).1
              have hfrl := fine_le hfr
              have hk1' := (hrl.2 h3).2.1
              have hk2' := (hrl.2 h3).2.2
              have HNX := hid hn
              have HF := hid href
              have HER := hid hEr
              have HT2 := hid ht
              clear h0 h1 h2 h3 hit hn href hrl hfr hEr ht
              generalize itself false (rune m).1 = r at *
              generalize rune m = q at *
              generalize refer m = z at *
              have hz0' : 0 ≤ (z.1 : Int) := by omega
              go_wp2_with fail
              refine HR.out.mono ?_
              rintro e w2 ⟨rfl, hb2⟩
              have HE2 := hid (HER.out.below hb2 (Nat.le_refl _))
              go_wp2_with fail
              refine (HIN.out _).mono ?_
              rintro e w3 ⟨rfl, rfl⟩
              go_wp2_with fail
              refine (HF.out _ HE2.out).mono ?_
              rintro e w4 ⟨rfl, hb4⟩
              have HB4 := hid (bt hb2 hb4)
              clear hb2 hb4
              go_wp2_with fail
              refine (Bld.WriteRune_any (w.heap.size + 2) w.heap.size out (z.1 : Int) hz0' hfrl _ (HIS.out.later HB4.out) (by omega) (by have := HB4.out.size; omega)).mono ?_
              rintro e w5 ⟨rfl, hI5, hB5⟩
              have HI5 := hid hI5
              have HB5 := hid ((HBU.out.trans (Bld.But.of HB4.out hzr)).trans hB5)
              clear hI5 hB5
              go_wp2_with fail
              go_roundw
              case rel => exact ⟨pos + z.2, out ++ enc (z.1 : Int), by go_num, HNX.out, HI5.out, HB5.out⟩
              case measure => simp [intOf]; omega
          · have hz38 : (((rune m).1 : Int) == 38) = false := by rw [beq_eq_false_iff_ne]; omega
            by_cases h5 : pre [13, 10] m = true
            · have hit := item_crlf (v := false) h5
              have hcr := rune_crlf h5
              have hpl := pre_len h5
              simp only [List.length_cons, List.length_nil] at hpl
              have hn := HNE.out (by rw [hit])
              rw [hit] at hn
              have h13 : itself false (rune m).1 = itself false 13 := by rw [hcr]
              rw [← h13] at hn
              have hbg := fun a ha w => has_any m [13, 10] true h5 a ha w
              have HBG := hid hbg
              have HNX := hid hn
              clear h0 h1 h2 h5 hit hn hbg hEr hcr h13
              generalize itself false (rune m).1 = r at *
              generalize rune m = q at *
              have hz0' : 0 ≤ (r : Int) := by omega
              go_wp2_with fail
              refine HR.out.mono ?_
              rintro e w2 ⟨rfl, hb2⟩
              have HB4 := hid hb2
              clear hb2
              go_wp2_with fail
              refine (HIN.out _).mono ?_
              rintro e w3 ⟨rfl, rfl⟩
              go_wp2_with fail
              refine (HBG.out _ (by decide) _).mono ?_
              rintro e w3 ⟨rfl, rfl⟩
              go_wp2_with fail
              refine (Bld.WriteRune_any (w.heap.size + 2) w.heap.size out (r : Int) hz0' hfl _ (HIS.out.later HB4.out) (by omega) (by have := HB4.out.size; omega)).mono ?_
              rintro e w5 ⟨rfl, hI5, hB5⟩
              have HI5 := hid hI5
              have HB5 := hid ((HBU.out.trans (Bld.But.of HB4.out hzr)).trans hB5)
              clear hI5 hB5
              go_wp2_with fail
              go_roundw
              case rel => exact ⟨pos + 2, out ++ enc (r : Int), by go_num, HNX.out, HI5.out, HB5.out⟩
              case measure => simp [intOf]; omega
            · have h5' : pre [13, 10] m = false := by simpa using h5
              have hit := item_own (v := false) h0 h1 h2 h5'
              have hn := HNE.out (by rw [hit])
              rw [hit] at hn
              have hbg := fun a ha w => has_any m [13, 10] false h5' a ha w
              have HBG := hid hbg
              have HNX := hid hn
              clear h0 h1 h2 h5 h5' hit hn hbg hEr
              generalize itself false (rune m).1 = r at *
              generalize rune m = q at *
              have hz0' : 0 ≤ (r : Int) := by omega
              go_wp2_with fail
              refine HR.out.mono ?_
              rintro e w2 ⟨rfl, hb2⟩
              have HB4 := hid hb2
              clear hb2
              go_wp2_with fail
              refine (HIN.out _).mono ?_
              rintro e w3 ⟨rfl, rfl⟩
              go_wp2_with fail
              refine (HBG.out _ (by decide) _).mono ?_
              rintro e w3 ⟨rfl, rfl⟩
              go_wp2_with fail
              refine (Bld.WriteRune_any (w.heap.size + 2) w.heap.size out (r : Int) hz0' hfl _ (HIS.out.later HB4.out) (by omega) (by have := HB4.out.size; omega)).mono ?_
              rintro e w5 ⟨rfl, hI5, hB5⟩
              have HI5 := hid hI5
              have HB5 := hid ((HBU.out.trans (Bld.But.of HB4.out hzr)).trans hB5)
              clear hI5 hB5
              go_wp2_with fail
              go_roundw
              case rel => exact ⟨pos + q.2, out ++ enc (r : Int), by go_num, HNX.out, HI5.out, HB5.out⟩
              case measure => simp [intOf]; omega
    · have hd := HTO.out.done hp
      have HD := hid hd
      have hstr := Bld.String_any (w.heap.size + 2) w.heap.size out wr HIS.out
      have HSR := hid hstr
      have hpl : pos = l.length := by omega
      clear hd hstr hbytes hTr hEr
      go_wp2_with fail
      refine HSR.out.mono ?_
      rintro e w2 ⟨rfl, hb2⟩
      go_wp2
      go_ret3
      exact ⟨by rw [HD.out]; rfl, (HL.out _ HBU.out).trans hb2⟩

set_option maxHeartbeats 4000000 in
theorem tell_value (l : List UInt8) (hl : l.length ≤ 1000000) (w : World) (hT : Tabs w) (hE : Errs w) :
    Calls Tryz.prog 68 #[.string (text l), .func (.func 122) #[] #[]] w fun e w' => e = .returned (tellV (tell true l)) ∧ Below w.heap.size w w' := by
  have s1 : (text l).size = l.length := text_size l
  have ef : ∀ args w, (callFunc 122 args).run Tryz.prog w = .ok (.enter 122 args) w := enters_of Tryz.func122 (by kernel_rfl) rfl
  obtain ⟨vb, w1, hcv, hvb, hb1, hz1⟩ := conv_at (P := Tryz.prog) l (by omega) 9 22 5 under9 underB under8 (w.alloc (.cells #[.pointer none, .slice none 0 0] 48))
  have hsz0 : (w.alloc (.cells #[.pointer none, .slice none 0 0] 48)).heap.size = w.heap.size + 1 := by simp
  have hI : Bld.Is (w.heap.size + 2) w.heap.size [] w1 := (Bld.Is.fresh (w.heap.size + 2) w (by omega)).later hb1
  have hb0 : Below w.heap.size w w1 := ((Below.refl _ w).alloc (Nat.le_refl _) _).trans (hb1.mono (by omega))
  rw [hsz0] at hz1 hvb
  have hvb' : ∀ wr : World, Bld.But (w.heap.size + 2) w.heap.size w1 wr → Bytes wr vb l := fun wr h => hvb wr (h.block _ (by omega) (by omega))
  have hlow : ∀ wr : World, Bld.But (w.heap.size + 2) w.heap.size w1 wr → Below w.heap.size w wr := fun wr h => hb0.trans (h.below (Nat.le_refl _) (by omega))
  have HI := hid hI
  have HV := hid hvb'
  have HL := hid hlow
  have HT := hid hT
  have HE := hid hE
  clear hI hvb hvb' hb1 hb0 hlow hT hE hsz0
  go_enter Tryz.func68, Tryz.ntmps68
  go_wp2_with fail
  have HCV := hid hcv
  clear hcv
  go_loopw [9] (fun i wr => ∃ (pos : Nat) (out : List UInt8), i = .int .i64 pos ∧ Told true l pos out ∧ Bld.Is (w.heap.size + 2) w.heap.size out wr ∧ Bld.But (w.heap.size + 2) w.heap.size w1 wr) (fun i _ => l.length - (intOf i).toNat)
  case atStart => exact ⟨0, [], rfl, Told.start _ _, HI.out, Bld.But.refl _ _ _⟩
  case round =>
    rename World => wr
    obtain ⟨pos, out, rfl, hTo, hIs, hBu⟩ := hrel
    have ho1 := hTo.1
    have ho2 := hTo.2.1
    have hzr : w.heap.size + 2 ≤ wr.heap.size := by have := hBu.size; omega
    have hTr := HT.out.below (HL.out wr hBu) (Nat.le_refl _)
    have hEr := HE.out.below (HL.out wr hBu) (Nat.le_refl _)
    have hbytes := HV.out wr hBu
    have HTO := hid hTo
    have HIS := hid hIs
    have HBU := hid hBu
    clear hTo hIs hBu
    by_cases hp : pos < l.length
    · have hra := runeR_at hp
      have hx : (text l).extract pos l.length = text (l.drop pos) := by have := text_extract l pos; rwa [s1] at this
      have hml : (l.drop pos).length = l.length - pos := List.length_drop
      have hstop := fun (h : (item true (l.drop pos)).2.2 ≠ 0) => HTO.out.stop hp h
      have hnext := fun (h : (item true (l.drop pos)).2.2 = 0) => HTO.out.next h
      generalize l.drop pos = m at *
      have hle := rune_le m
      have HST := hid hstop
      have HNE := hid hnext
      clear hstop hnext
      by_cases h0 : (rune m).2 = 0
      · rw [if_pos h0] at hra
        have hrune := Rune_eq vb l pos wr hTr hbytes 0 0 4 hra
        have hit := item_bad (v := true) h0
        have hs := HST.out (by rw [hit]; simp)
        rw [hit] at hs
        have HS := hid hs
        have HR := hid hrune
        clear h0 hit hs hrune hra hTr hEr hbytes
        go_wp2_with fail
        refine HR.out.mono ?_
        rintro e w2 ⟨rfl, hb2⟩
        go_wp2
        go_ret3
        exact ⟨by rw [HS.out]; rfl, (HL.out _ HBU.out).trans (hb2.mono (by omega))⟩
      · rw [if_neg h0] at hra
        obtain ⟨hf, _, _, hk1, hk4⟩ := rune_some (l := m) (c := (rune m).1) (k := (rune m).2) rfl h0
        have hc1 := fine_le hf
        have hrune := Rune_eq vb l pos wr hTr hbytes _ _ 0 hra
        have hin := fun w => inValue_any (rune m).1 w
        have hfi := itself_fine true _ hf
        have hfl := fine_le hfi
        have HR := hid hrune
        have HIN := hid hin
        have HFI := hid hfi
        clear hrune hra hTr hbytes hin hfi hf
        by_cases h1 : (rune m).1 = 60
        · have hit := item_lt (v := true) h0 h1
          have hs := HST.out (by rw [hit]; simp)
          rw [hit] at hs
          have hz60 : (((rune m).1 : Int) == 60) = true := by rw [beq_iff_eq]; omega
          have HS := hid hs
          clear h0 h1 hit hs hEr
          generalize itself true (rune m).1 = r at *
          generalize rune m = q at *
          go_wp2_with fail
          refine HR.out.mono ?_
          rintro e w2 ⟨rfl, hb2⟩
          go_wp2_with fail
          refine (HIN.out _).mono ?_
          rintro e w3 ⟨rfl, rfl⟩
          go_wp2
          go_ret3
          exact ⟨by rw [HS.out]; rfl, (HL.out _ HBU.out).trans (hb2.mono (by omega))⟩
        · have hz60 : (((rune m).1 : Int) == 60) = false := by rw [beq_eq_false_iff_ne]; omega
          by_cases h2 : (rune m).1 = 38
          · have hz38 : (((rune m).1 : Int) == 38) = true := by rw [beq_iff_eq]; omega
            obtain ⟨t, ht⟩ := front_amp h0 h2
            have href : ∀ w, Errs w → Calls Tryz.prog 96 #[.string (text m)] w fun e w' => e = .returned (refV (refer m)) ∧ Below w.heap.size w w' := fun w hE => by
              rw [ht]
              have hm := congrArg List.length ht
              simp only [List.length_cons] at hm
              exact reference_code t (by omega) w hE
            unfold refV at href
            have hrl := refer_le m
            by_cases h3 : (refer m).2 = 0
            · have hit := item_amp_no (v := true) h0 h1 h2 h3
              have hs := HST.out (by rw [hit]; simp)
              rw [hit] at hs
              have hz3 : (((refer m).2 : Int) == 0) = true := by rw [beq_iff_eq]; omega
              have HS := hid hs
              have HF := hid href
              have HER := hid hEr
              have HT2 := hid ht
              clear h0 h1 h2 h3 hit hs href hrl hEr ht
              generalize itself true (rune m).1 = r at *
              generalize rune m = q at *
              go_wp2_with fail
              refine HR.out.mono ?_
              rintro e w2 ⟨rfl, hb2⟩
              have HE2 := hid (HER.out.below hb2 (Nat.le_refl _))
              go_wp2_with fail
              refine (HIN.out _).mono ?_
              rintro e w3 ⟨rfl, rfl⟩
              go_wp2_with fail
              refine (HF.out _ HE2.out).mono ?_
              rintro e w4 ⟨rfl, hb4⟩
              go_wp2
              go_ret3
              exact ⟨by rw [HS.out]; rfl, (HL.out _ HBU.out).trans ((bt hb2 hb4).mono (by omega))⟩
            · have hit := item_amp (v := true) h0 h1 h2 h3
              have hn := HNE.out (by rw [hit])
              rw [hit] at hn
              have hz3 : (((refer m).2 : Int) == 0) = false := by rw [beq_eq_false_iff_ne]; omega
              have hfr := (hrl.2 h3).1
              have hfrl := fine_le hfr
              have hk1' := (hrl.2 h3).2.1
              have hk2' := (hrl.2 h3).2.2
              have HNX := hid hn
              have HF := hid href
              have HER := hid hEr
              have HT2 := hid ht
              clear h0 h1 h2 h3 hit hn href hrl hfr hEr ht
              generalize itself true (rune m).1 = r at *
              generalize rune m = q at *
              generalize refer m = z at *
              have hz0' : 0 ≤ (z.1 : Int) := by omega
              go_wp2_with fail
              refine HR.out.mono ?_
              rintro e w2 ⟨rfl, hb2⟩
              have HE2 := hid (HER.out.below hb2 (Nat.le_refl _))
              go_wp2_with fail
              refine (HIN.out _).mono ?_
              rintro e w3 ⟨rfl, rfl⟩
              go_wp2_with fail
              refine (HF.out _ HE2.out).mono ?_
              rintro e w4 ⟨rfl, hb4⟩
              have HB4 := hid (bt hb2 hb4)
              clear hb2 hb4
              go_wp2_with fail
              refine (Bld.WriteRune_any (w.heap.size + 2) w.heap.size out (z.1 : Int) hz0' hfrl _ (HIS.out.later HB4.out) (by omega) (by have := HB4.out.size; omega)).mono ?_
              rintro e w5 ⟨rfl, hI5, hB5⟩
              have HI5 := hid hI5
              have HB5 := hid ((HBU.out.trans (Bld.But.of HB4.out hzr)).trans hB5)
              clear hI5 hB5
              go_wp2_with fail
              go_roundw
              case rel => exact ⟨pos + z.2, out ++ enc (z.1 : Int), by go_num, HNX.out, HI5.out, HB5.out⟩
              case measure => simp [intOf]; omega
          · have hz38 : (((rune m).1 : Int) == 38) = false := by rw [beq_eq_false_iff_ne]; omega
            by_cases h5 : pre [13, 10] m = true
            · have hit := item_crlf (v := true) h5
              have hcr := rune_crlf h5
              have hpl := pre_len h5
              simp only [List.length_cons, List.length_nil] at hpl
              have hn := HNE.out (by rw [hit])
              rw [hit] at hn
              have h13 : itself true (rune m).1 = itself true 13 := by rw [hcr]
              rw [← h13] at hn
              have hbg := fun a ha w => has_any m [13, 10] true h5 a ha w
              have HBG := hid hbg
              have HNX := hid hn
              clear h0 h1 h2 h5 hit hn hbg hEr hcr h13
              generalize itself true (rune m).1 = r at *
              generalize rune m = q at *
              have hz0' : 0 ≤ (r : Int) := by omega
              go_wp2_with fail
              refine HR.out.mono ?_
              rintro e w2 ⟨rfl, hb2⟩
              have HB4 := hid hb2
              clear hb2
              go_wp2_with fail
              refine (HIN.out _).mono ?_
              rintro e w3 ⟨rfl, rfl⟩
              go_wp2_with fail
              refine (HBG.out _ (by decide) _).mono ?_
              rintro e w3 ⟨rfl, rfl⟩
              go_wp2_with fail
              refine (Bld.WriteRune_any (w.heap.size + 2) w.heap.size out (r : Int) hz0' hfl _ (HIS.out.later HB4.out) (by omega) (by have := HB4.out.size; omega)).mono ?_
              rintro e w5 ⟨rfl, hI5, hB5⟩
              have HI5 := hid hI5
              have HB5 := hid ((HBU.out.trans (Bld.But.of HB4.out hzr)).trans hB5)
              clear hI5 hB5
              go_wp2_with fail
              go_roundw
              case rel => exact ⟨pos + 2, out ++ enc (r : Int), by go_num, HNX.out, HI5.out, HB5.out⟩
              case measure => simp [intOf]; omega
            · have h5' : pre [13, 10] m = false := by simpa using h5
              have hit := item_own (v := true) h0 h1 h2 h5'
              have hn := HNE.out (by rw [hit])
              rw [hit] at hn
              have hbg := fun a ha w => has_any m [13, 10] false h5' a ha w
              have HBG := hid hbg
              have HNX := hid hn
              clear h0 h1 h2 h5 h5' hit hn hbg hEr
              generalize itself true (rune m).1 = r at *
              generalize rune m = q at *
              have hz0' : 0 ≤ (r : Int) := by omega
              go_wp2_with fail
              refine HR.out.mono ?_
              rintro e w2 ⟨rfl, hb2⟩
              have HB4 := hid hb2
              clear hb2
              go_wp2_with fail
              refine (HIN.out _).mono ?_
              rintro e w3 ⟨rfl, rfl⟩
              go_wp2_with fail
              refine (HBG.out _ (by decide) _).mono ?_
              rintro e w3 ⟨rfl, rfl⟩
              go_wp2_with fail
              refine (Bld.WriteRune_any (w.heap.size + 2) w.heap.size out (r : Int) hz0' hfl _ (HIS.out.later HB4.out) (by omega) (by have := HB4.out.size; omega)).mono ?_
              rintro e w5 ⟨rfl, hI5, hB5⟩
              have HI5 := hid hI5
              have HB5 := hid ((HBU.out.trans (Bld.But.of HB4.out hzr)).trans hB5)
              clear hI5 hB5
              go_wp2_with fail
              go_roundw
              case rel => exact ⟨pos + q.2, out ++ enc (r : Int), by go_num, HNX.out, HI5.out, HB5.out⟩
              case measure => simp [intOf]; omega
    · have hd := HTO.out.done hp
      have HD := hid hd
      have hstr := Bld.String_any (w.heap.size + 2) w.heap.size out wr HIS.out
      have HSR := hid hstr
      have hpl : pos = l.length := by omega
      clear hd hstr hbytes hTr hEr
      go_wp2_with fail
      refine HSR.out.mono ?_
      rintro e w2 ⟨rfl, hb2⟩
      go_wp2
      go_ret3
      exact ⟨by rw [HD.out]; rfl, (HL.out _ HBU.out).trans hb2⟩

set_option maxHeartbeats 400000 in
theorem Text_any (l : List UInt8) (hl : l.length ≤ 1000000) (w : World) (hT : Tabs w) (hE : Errs w) :
    Calls Tryz.prog 50 #[.string (text l)] w fun e w' => e = .returned (tellV (tell false l)) ∧ Below w.heap.size w w' := by
  have h := tell_text l hl w hT hE
  unfold tellV at h ⊢
  generalize tell false l = r at *
  have H := hid h
  clear h hT hE
  go_enter Tryz.func50, Tryz.ntmps50
  go_wp2_with fail
  refine H.out.mono ?_
  rintro e w2 ⟨rfl, hb2⟩
  go_wp2
  go_ret3
  exact ⟨rfl, hb2⟩
set_option maxHeartbeats 400000 in
theorem Value_any (l : List UInt8) (hl : l.length ≤ 1000000) (w : World) (hT : Tabs w) (hE : Errs w) :
    Calls Tryz.prog 110 #[.string (text l)] w fun e w' => e = .returned (tellV (tell true l)) ∧ Below w.heap.size w w' := by
  have h := tell_value l hl w hT hE
  unfold tellV at h ⊢
  generalize tell true l = r at *
  have H := hid h
  clear h hT hE
  go_enter Tryz.func110, Tryz.ntmps110
  go_wp2_with fail
  refine H.out.mono ?_
  rintro e w2 ⟨rfl, hb2⟩
  go_wp2
  go_ret3
  exact ⟨rfl, hb2⟩
end Go.Proofs.YtdpknpgknbkiiaaGreatDoor.Ent
