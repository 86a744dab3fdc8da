/- Layer 8: contract of the document's own text. -/
import Derived.Test.YtblpckeimdmpaaaGreatDoorFlE
import Derived.Test.YtblpckeimdmpaaaGreatDoorUtfG
set_option linter.unusedVariables false
set_option linter.unusedSimpArgs false
namespace Go.Proofs.YtblpckeimdmpaaaGreatDoor.Fl
open Go Go.Proofs.YtblpckeimdmpaaaGreatDoor Go.Proofs.YtblpckeimdmpaaaGreatDoor.Utf Go.Proofs.YtblpckeimdmpaaaGreatDoor.Names Go.RowKit
set_option maxRecDepth 100000

theorem results_four {fn : Func} {t u v x : Tmp} (h : fn.results = #[.tmp t, .tmp u, .tmp v, .tmp x]) (tmps : Array Value) (P : Program) (w : World) :
    (results fn tmps).run P w = .ok (.tuple #[tmps.getD t undef, tmps.getD u undef, tmps.getD v undef, tmps.getD x undef]) w := by
  simp [results, h]
theorem str_keep (m : List UInt8) : put [] 0 (str m) = str m := (str_qs [] m).symm
/-- Where the walk through a text in quotes stands. -/
def Deep (l : List UInt8) (i k : Nat) (out : List UInt8) : Prop := i + 1 ≤ k ∧ k ≤ l.length ∧ str (l.drop (i + 1)) = put out (k - (i + 1)) (str (l.drop k)) ∧ out.length ≤ 4 * k
section
variable {l : List UInt8} {i k : Nat} {out : List UInt8}
theorem Deep.start (h : i + 1 ≤ l.length) : Deep l i (i + 1) [] := ⟨Nat.le_refl _, h, by rw [Nat.sub_self]; exact (str_keep _).symm, by simp⟩
theorem Deep.over (h : Deep l i k out) (t : List UInt8) (ht : l.drop k = 34 :: t) : str (l.drop (i + 1)) = (out, k - i, 0) := by
  obtain ⟨h1, h2, h3, h4⟩ := h
  rw [ht, str_end] at h3
  rw [h3]
  unfold put
  simp
  omega
theorem Deep.self (h : Deep l i k out) (b : UInt8) (t : List UInt8) (ht : l.drop k = b :: t) (n1 : b ≠ 34) (n2 : b ≠ 92) : Deep l i (k + 1) (out ++ [b]) := by
  obtain ⟨h1, h2, h3, h4⟩ := h
  have hl := congrArg List.length ht
  rw [List.length_drop, List.length_cons] at hl
  refine ⟨by omega, by omega, ?_, by simp; omega⟩
  rw [h3, ht, str_self t n1 n2, put_put, show l.drop (k + 1) = t from by rw [← List.drop_drop, ht]; rfl]
  congr 1
  omega
theorem Deep.bad (h : Deep l i k out) (t : List UInt8) (ht : l.drop k = 92 :: t) (hn : escN t = none) : str (l.drop (i + 1)) = ([], k - (i + 1), 11) := by
  obtain ⟨h1, h2, h3, h4⟩ := h
  rw [ht, str_wrong hn] at h3
  rw [h3]
  unfold put
  simp
theorem Deep.esc (h : Deep l i k out) (t : List UInt8) (ht : l.drop k = 92 :: t) (c n : Nat) (hn : escN t = some (c, n)) : Deep l i (k + (1 + n)) (out ++ enc (c : Int)) ∧ fine (c : Int) = true ∧ k + (1 + n) ≤ l.length := by
  obtain ⟨h1, h2, h3, h4⟩ := h
  have hs := escN_some hn
  have hl := congrArg List.length ht
  rw [List.length_drop, List.length_cons] at hl
  have he := enc_len (c : Int)
  refine ⟨⟨by omega, by omega, ?_, by rw [List.length_append]; omega⟩, hs.1, by omega⟩
  rw [h3, ht, str_esc hn, put_put, show l.drop (k + (1 + n)) = t.drop n from by rw [← List.drop_drop, ht, Nat.add_comm 1 n]; rfl]
  congr 1
  omega
theorem Deep.done (h : Deep l i k out) (hk : ¬ k < l.length) : str (l.drop (i + 1)) = ([], l.length - (i + 1), 10) := by
  obtain ⟨h1, h2, h3, h4⟩ := h
  have e : k = l.length := by omega
  rw [e, List.drop_length, str_nil] at h3
  rw [h3]
  unfold put
  simp
end
/-- What it tells, as values. -/
def rtextV (l : List UInt8) (i : Nat) : Value :=
  if (str (l.drop (i + 1))).2.2 = 0 then .tuple #[.string (text (str (l.drop (i + 1))).1), .int .i64 ((i + 1 + (str (l.drop (i + 1))).2.1 : Nat) : Int), .int .i64 0, .int .i64 0]
  else .tuple #[.string (text []), .int .i64 0, .int .i64 ((i + 1 + (str (l.drop (i + 1))).2.1 : Nat) : Int), .int .i64 (str (l.drop (i + 1))).2.2]
theorem rtext_ok {l : List UInt8} {i : Nat} {o : List UInt8} {n : Nat} (h : str (l.drop (i + 1)) = (o, n, 0)) : rtextV l i = .tuple #[.string (text o), .int .i64 ((i + 1 + n : Nat) : Int), .int .i64 0, .int .i64 0] := by unfold rtextV; rw [h]; rfl
theorem rtext_no {l : List UInt8} {i : Nat} {n e : Nat} (he : e ≠ 0) (h : str (l.drop (i + 1)) = ([], n, e)) : rtextV l i = .tuple #[.string (text []), .int .i64 0, .int .i64 ((i + 1 + n : Nat) : Int), .int .i64 e] := by unfold rtextV; rw [h]; rw [if_neg he]
theorem esc_five (b : UInt8) (q : List UInt8) (c : Nat) (h : (b = 34 ∧ c = 34) ∨ (b = 92 ∧ c = 92) ∨ (b = 110 ∧ c = 10) ∨ (b = 114 ∧ c = 13) ∨ (b = 116 ∧ c = 9)) : escN (b :: q) = some (c, 1) := by
  rcases h with ⟨rfl, rfl⟩ | ⟨rfl, rfl⟩ | ⟨rfl, rfl⟩ | ⟨rfl, rfl⟩ | ⟨rfl, rfl⟩ <;> rfl
theorem esc_other (b : UInt8) (q : List UInt8) (h1 : b ≠ 34) (h2 : b ≠ 92) (h3 : b ≠ 110) (h4 : b ≠ 114) (h5 : b ≠ 116) (h6 : b ≠ 117) : escN (b :: q) = none := by
  rw [escN_cons, if_neg h1, if_neg h2, if_neg h3, if_neg h4, if_neg h5, if_neg h6]
theorem esc_hex (q : List UInt8) : escN (117 :: q) = (match hex4 q with | some x => if fine (x : Int) = true then some (x, 5) else none | none => none) := by
  rw [escN_cons, if_neg (by decide), if_neg (by decide), if_neg (by decide), if_neg (by decide), if_neg (by decide), if_pos rfl]
  cases hex4 q <;> rfl
theorem byte_ne {b c : UInt8} (h : b ≠ c) : ((b.toNat : Int) == (c.toNat : Int)) = false := by
  rw [beq_eq_false_iff_ne]
  intro e
  exact h (UInt8.toNat_inj.1 (by omega))

set_option maxHeartbeats 8000000 in
theorem rtext_any (l : List UInt8) (hl : l.length ≤ 1000000) (i : Nat) (hi : i < l.length) (w : World) :
    Calls Tryz.prog 24 #[.string (text l), .int .i64 i] w fun e w' => e = .returned (rtextV l i) ∧ Below w.heap.size w w' := by
  have s1 : (text l).size = l.length := text_size l
  have HST := hid (Deep.start (l := l) (i := i) hi)
  have HOV := hid (fun k out (h : Deep l i k out) => h.over)
  have HSF := hid (fun k out (h : Deep l i k out) => h.self)
  have HBD := hid (fun k out (h : Deep l i k out) => h.bad)
  have HES := hid (fun k out (h : Deep l i k out) => h.esc)
  have HDN := hid (fun k out (h : Deep l i k out) => h.done)
  have HDF := hid (fun k out (h : Deep l i k out) => h)
  have HOK := hid (fun o n => @rtext_ok l i o n)
  have HNO := hid (fun n e => @rtext_no l i n e)
  have hfacts : ∀ k out, Deep l i k out → i + 1 ≤ k ∧ k ≤ l.length ∧ out.length ≤ 4 * k := fun k out h => ⟨h.1, h.2.1, h.2.2.2⟩
  have HFC := hid hfacts
  clear hfacts HDF
  generalize Deep l i = D at *
  generalize rtextV l i = RV at *
  go_enter Tryz.func24, Tryz.ntmps24
  go_wp2_with fail
  go_loopw [8, 9] (fun ov kv wr => ∃ (k : Nat) (out : List UInt8), kv = .int .i64 k ∧ ov = .string (text out) ∧ Hid (D k out) ∧ Below w.heap.size w wr) (fun _ kv _ => l.length - (intOf kv).toNat)
  case atStart => exact ⟨i + 1, [], by go_num, rfl, HST, b0 w⟩
  case round =>
    rename World => wr
    obtain ⟨k, out, rfl, rfl, HD, hbw⟩ := hrel
    obtain ⟨f1, f2, f3⟩ := HFC.out k out HD.out
    have hzw := hbw.size
    have HBW := hid hbw
    clear hbw
    by_cases hk : k < l.length
    · have hps : k < (text l).size := by rw [s1]; exact hk
      have hbt : ((text l)[k]'hps) = l[k] := by simp [text]; rfl
      have hdr : l.drop k = l[k] :: l.drop (k + 1) := List.drop_eq_getElem_cons hk
      have sz : (text out).size = out.length := text_size out
      have V1 := hid (HOV.out k out HD.out)
      have V2 := hid (HSF.out k out HD.out)
      have V3 := hid (HBD.out k out HD.out)
      have V4 := hid (HES.out k out HD.out)
      have hcut : (text l).extract k (k + 1) = text [l[k]] := Names.text_one l k hk
      have hbl := UInt8.toNat_lt l[k]
      have hd2 : l.drop (k + 2) = (l.drop (k + 1)).drop 1 := by rw [List.drop_drop]
      generalize hlk : l[k] = b at *
      by_cases h34 : b = 34
      · subst h34
        have R := hid (HOK.out _ _ (V1.out _ hdr))
        have e1 : (((text l)[k]'hps).toNat : Int) = 34 := by rw [hbt]; rfl
        clear hcut hd2 hdr V1 V2 V3 V4 hbt hlk
        go_wp2
        (try simp only [Exit.inBlock, Exit.then]); refine bodyPost_ret (results_four rfl _ _ _) rfl ?_
        refine ⟨?_, HBW.out⟩
        rw [R.out]
        show Ending.returned (.tuple #[.string (text out), .int .i64 ((k : Int) + 1), .int .i64 0, .int .i64 0]) = _
        rw [show ((i + 1 + (k - i) : Nat) : Int) = (k : Int) + 1 from by omega]
      · have n34 := byte_ne h34
        have e34 : ((((text l)[k]'hps).toNat : Int) == 34) = false := by rw [hbt]; exact n34
        by_cases h92 : b = 92
        · subst h92
          have e92 : ((((text l)[k]'hps).toNat : Int) == 92) = true := by rw [hbt]; rfl
          have e92' : ((((text l)[k]'hps).toNat : Int) != 92) = false := by rw [bne, e92]; rfl
          by_cases hk1 : k + 1 < l.length
          · have hps1 : k + 1 < (text l).size := by rw [s1]; exact hk1
            have hbt1 : ((text l)[k + 1]'hps1) = l[k + 1] := by simp [text]; rfl
            have hdr1 : l.drop (k + 1) = l[k + 1] :: l.drop (k + 2) := List.drop_eq_getElem_cons hk1
            have hbl1 := UInt8.toNat_lt l[k + 1]
            have hcm : ((k : Int) + 1) < (l.length : Int) := by omega
            generalize l[k + 1] = b1 at *
            by_cases h34x : b1 = 34
            · subst h34x
              have q34 : (((text l)[k + 1]'hps1).toNat : Int) = 34 := by rw [hbt1]; rfl
              obtain ⟨g1, g2, g3⟩ := V4.out _ hdr _ _ (hdr1 ▸ esc_five 34 (l.drop (k + 2)) 34 (by decide))
              have HFI := hid (fun w => (show Calls Tryz.prog 49 #[.int .i64 34] w fun e w' => e = .returned (.bool true) ∧ w = w' from RFine_any 34 w))
              have HPU := hid (fun w => RPut_any 34 (by decide) w)
              have g1' : D (k + 2) (out ++ enc 34) := g1
              have R := hid g1'
              have eo : text out ++ text (enc 34) = text (out ++ enc 34) := Names.text_append _ _
              have zo : (text out).size + (text (enc 34)).size ≤ 9223372036854775807 := by rw [text_size, text_size]; have := enc_len 34; omega
              generalize out ++ enc 34 = o2 at *
              clear hd2 hdr hdr1 V1 V2 V3 V4 hbt hlk h34 n34 hbt1 hcut g1 g1' g2
              go_wp2_with fail
              refine (HFI.out _).mono ?_
              rintro e w2 ⟨rfl, rfl⟩
              go_wp2_with fail
              refine (HPU.out _).mono ?_
              rintro e w3 ⟨v3, rfl, hv3, hb3⟩
              have hcv := hv3.conv (P := Tryz.prog) 44 9 5 underB under8 under9
              have HB3 := hid (HBW.out.trans (hb3.mono hzw))
              clear hv3 hb3
              go_wp2_with fail
              go_roundw
              case rel => exact ⟨k + 2, o2, by go_num, rfl, R, HB3.out⟩
              case measure => simp [intOf]; omega
            · have n34x := byte_ne h34x
              have q34 : ((((text l)[k + 1]'hps1).toNat : Int) == 34) = false := by rw [hbt1]; exact n34x
              by_cases h92x : b1 = 92
              · subst h92x
                have q92 : (((text l)[k + 1]'hps1).toNat : Int) = 92 := by rw [hbt1]; rfl
                obtain ⟨g1, g2, g3⟩ := V4.out _ hdr _ _ (hdr1 ▸ esc_five 92 (l.drop (k + 2)) 92 (by decide))
                have HFI := hid (fun w => (show Calls Tryz.prog 49 #[.int .i64 92] w fun e w' => e = .returned (.bool true) ∧ w = w' from RFine_any 92 w))
                have HPU := hid (fun w => RPut_any 92 (by decide) w)
                have g1' : D (k + 2) (out ++ enc 92) := g1
                have R := hid g1'
                have eo : text out ++ text (enc 92) = text (out ++ enc 92) := Names.text_append _ _
                have zo : (text out).size + (text (enc 92)).size ≤ 9223372036854775807 := by rw [text_size, text_size]; have := enc_len 92; omega
                generalize out ++ enc 92 = o2 at *
                clear hd2 hdr hdr1 V1 V2 V3 V4 hbt hlk h34 n34 hbt1 hcut g1 g1' g2
                go_wp2_with fail
                refine (HFI.out _).mono ?_
                rintro e w2 ⟨rfl, rfl⟩
                go_wp2_with fail
                refine (HPU.out _).mono ?_
                rintro e w3 ⟨v3, rfl, hv3, hb3⟩
                have hcv := hv3.conv (P := Tryz.prog) 44 9 5 underB under8 under9
                have HB3 := hid (HBW.out.trans (hb3.mono hzw))
                clear hv3 hb3
                go_wp2_with fail
                go_roundw
                case rel => exact ⟨k + 2, o2, by go_num, rfl, R, HB3.out⟩
                case measure => simp [intOf]; omega
              · have n92x := byte_ne h92x
                have q92 : ((((text l)[k + 1]'hps1).toNat : Int) == 92) = false := by rw [hbt1]; exact n92x
                by_cases h110x : b1 = 110
                · subst h110x
                  have q110 : (((text l)[k + 1]'hps1).toNat : Int) = 110 := by rw [hbt1]; rfl
                  obtain ⟨g1, g2, g3⟩ := V4.out _ hdr _ _ (hdr1 ▸ esc_five 110 (l.drop (k + 2)) 10 (by decide))
                  have HFI := hid (fun w => (show Calls Tryz.prog 49 #[.int .i64 10] w fun e w' => e = .returned (.bool true) ∧ w = w' from RFine_any 10 w))
                  have HPU := hid (fun w => RPut_any 10 (by decide) w)
                  have g1' : D (k + 2) (out ++ enc 10) := g1
                  have R := hid g1'
                  have eo : text out ++ text (enc 10) = text (out ++ enc 10) := Names.text_append _ _
                  have zo : (text out).size + (text (enc 10)).size ≤ 9223372036854775807 := by rw [text_size, text_size]; have := enc_len 10; omega
                  generalize out ++ enc 10 = o2 at *
                  clear hd2 hdr hdr1 V1 V2 V3 V4 hbt hlk h34 n34 hbt1 hcut g1 g1' g2
                  go_wp2_with fail
                  refine (HFI.out _).mono ?_
                  rintro e w2 ⟨rfl, rfl⟩
                  go_wp2_with fail
                  refine (HPU.out _).mono ?_
                  rintro e w3 ⟨v3, rfl, hv3, hb3⟩
                  have hcv := hv3.conv (P := Tryz.prog) 44 9 5 underB under8 under9
                  have HB3 := hid (HBW.out.trans (hb3.mono hzw))
                  clear hv3 hb3
                  go_wp2_with fail
                  go_roundw
                  case rel => exact ⟨k + 2, o2, by go_num, rfl, R, HB3.out⟩
                  case measure => simp [intOf]; omega
                · have n110x := byte_ne h110x
                  have q110 : ((((text l)[k + 1]'hps1).toNat : Int) == 110) = false := by rw [hbt1]; exact n110x
                  by_cases h114x : b1 = 114
                  · subst h114x
                    have q114 : (((text l)[k + 1]'hps1).toNat : Int) = 114 := by rw [hbt1]; rfl
                    obtain ⟨g1, g2, g3⟩ := V4.out _ hdr _ _ (hdr1 ▸ esc_five 114 (l.drop (k + 2)) 13 (by decide))
                    have HFI := hid (fun w => (show Calls Tryz.prog 49 #[.int .i64 13] w fun e w' => e = .returned (.bool true) ∧ w = w' from RFine_any 13 w))
                    have HPU := hid (fun w => RPut_any 13 (by decide) w)
                    have g1' : D (k + 2) (out ++ enc 13) := g1
                    have R := hid g1'
                    have eo : text out ++ text (enc 13) = text (out ++ enc 13) := Names.text_append _ _
                    have zo : (text out).size + (text (enc 13)).size ≤ 9223372036854775807 := by rw [text_size, text_size]; have := enc_len 13; omega
                    generalize out ++ enc 13 = o2 at *
                    clear hd2 hdr hdr1 V1 V2 V3 V4 hbt hlk h34 n34 hbt1 hcut g1 g1' g2
                    go_wp2_with fail
                    refine (HFI.out _).mono ?_
                    rintro e w2 ⟨rfl, rfl⟩
                    go_wp2_with fail
                    refine (HPU.out _).mono ?_
                    rintro e w3 ⟨v3, rfl, hv3, hb3⟩
                    have hcv := hv3.conv (P := Tryz.prog) 44 9 5 underB under8 under9
                    have HB3 := hid (HBW.out.trans (hb3.mono hzw))
                    clear hv3 hb3
                    go_wp2_with fail
                    go_roundw
                    case rel => exact ⟨k + 2, o2, by go_num, rfl, R, HB3.out⟩
                    case measure => simp [intOf]; omega
                  · have n114x := byte_ne h114x
                    have q114 : ((((text l)[k + 1]'hps1).toNat : Int) == 114) = false := by rw [hbt1]; exact n114x
                    by_cases h116x : b1 = 116
                    · subst h116x
                      have q116 : (((text l)[k + 1]'hps1).toNat : Int) = 116 := by rw [hbt1]; rfl
                      obtain ⟨g1, g2, g3⟩ := V4.out _ hdr _ _ (hdr1 ▸ esc_five 116 (l.drop (k + 2)) 9 (by decide))
                      have HFI := hid (fun w => (show Calls Tryz.prog 49 #[.int .i64 9] w fun e w' => e = .returned (.bool true) ∧ w = w' from RFine_any 9 w))
                      have HPU := hid (fun w => RPut_any 9 (by decide) w)
                      have g1' : D (k + 2) (out ++ enc 9) := g1
                      have R := hid g1'
                      have eo : text out ++ text (enc 9) = text (out ++ enc 9) := Names.text_append _ _
                      have zo : (text out).size + (text (enc 9)).size ≤ 9223372036854775807 := by rw [text_size, text_size]; have := enc_len 9; omega
                      generalize out ++ enc 9 = o2 at *
                      clear hd2 hdr hdr1 V1 V2 V3 V4 hbt hlk h34 n34 hbt1 hcut g1 g1' g2
                      go_wp2_with fail
                      refine (HFI.out _).mono ?_
                      rintro e w2 ⟨rfl, rfl⟩
                      go_wp2_with fail
                      refine (HPU.out _).mono ?_
                      rintro e w3 ⟨v3, rfl, hv3, hb3⟩
                      have hcv := hv3.conv (P := Tryz.prog) 44 9 5 underB under8 under9
                      have HB3 := hid (HBW.out.trans (hb3.mono hzw))
                      clear hv3 hb3
                      go_wp2_with fail
                      go_roundw
                      case rel => exact ⟨k + 2, o2, by go_num, rfl, R, HB3.out⟩
                      case measure => simp [intOf]; omega
                    · have n116x := byte_ne h116x
                      have q116 : ((((text l)[k + 1]'hps1).toNat : Int) == 116) = false := by rw [hbt1]; exact n116x
                      by_cases h117x : b1 = 117
                      · subst h117x
                        have q117 : (((text l)[k + 1]'hps1).toNat : Int) = 117 := by rw [hbt1]; rfl
                        have hhx := fun w => hex_any l (k + 2) (by omega) (by omega) w
                        have hex0 := esc_hex (l.drop (k + 2))
                        cases hh : hex4 (l.drop (k + 2)) with
                        | none =>
                          rw [hh] at hhx hex0
                          have R := hid (HNO.out _ _ (by omega) (V3.out _ hdr (hdr1 ▸ hex0)))
                          have HH : Hid (∀ w, Calls Tryz.prog 48 #[.string (text l), .int .i64 ((k : Int) + 2)] w fun e w' => e = .returned (.int .i64 (-1)) ∧ w = w') := hid (fun w => hhx w)
                          clear hd2 hdr hdr1 V1 V2 V3 V4 hbt hlk h34 n34 hbt1 hcut hhx hex0 hh
                          go_wp2_with fail
                          refine (HH.out _).mono ?_
                          rintro e w2 ⟨rfl, rfl⟩
                          go_wp2
                          (try simp only [Exit.inBlock, Exit.then]); refine bodyPost_ret (results_four rfl _ _ _) rfl ?_
                          refine ⟨?_, HBW.out⟩
                          rw [R.out]
                          show Ending.returned (.tuple #[.string (text []), .int .i64 0, .int .i64 (k : Int), .int .i64 11]) = _
                          rw [show ((i + 1 + (k - (i + 1)) : Nat) : Int) = (k : Int) from by omega]
                          rfl
                        | some x =>
                          rw [hh] at hhx hex0
                          have hxl : (x : Int) < 65536 := by
                            have := hexF_lt 4 0 _ _ hh
                            have h16 : (0 + 1) * 16 ^ 4 = 65536 := by decide
                            omega
                          have HH : Hid (∀ w, Calls Tryz.prog 48 #[.string (text l), .int .i64 ((k : Int) + 2)] w fun e w' => e = .returned (.int .i64 (x : Int)) ∧ w = w') := hid (fun w => hhx w)
                          have hx0 : ¬ (x : Int) < 0 := by omega
                          by_cases hf : fine (x : Int) = true
                          · have hex1 : escN (117 :: l.drop (k + 2)) = some (x, 5) := by rw [hex0]; simp only []; rw [if_pos hf]
                            obtain ⟨g1, g2, g3⟩ := V4.out _ hdr _ _ (hdr1 ▸ hex1)
                            have HFI := hid (fun w => (show Calls Tryz.prog 49 #[.int .i64 (x : Int)] w fun e w' => e = .returned (.bool true) ∧ w = w' from by have := RFine_any (x : Int) w; rw [hf] at this; exact this))
                            have HPU := hid (fun w => RPut_any (x : Int) hf w)
                            have g1' : D (k + 6) (out ++ enc (x : Int)) := g1
                            have R := hid g1'
                            have eo : text out ++ text (enc (x : Int)) = text (out ++ enc (x : Int)) := Names.text_append _ _
                            have zo : (text out).size + (text (enc (x : Int))).size ≤ 9223372036854775807 := by rw [text_size, text_size]; have := enc_len (x : Int); omega
                            generalize out ++ enc (x : Int) = o2 at *
                            clear hd2 hdr hdr1 V1 V2 V3 V4 hbt hlk h34 n34 hbt1 hcut g1 g1' g2 hhx hex0 hex1 hh hf hxl
                            have hx0' := hx0; clear hx0
                            generalize (x : Int) = z at *
                            go_wp2_with fail
                            refine (HH.out _).mono ?_
                            rintro e w2 ⟨rfl, rfl⟩
                            go_wp2_with fail
                            refine (HFI.out _).mono ?_
                            rintro e w2 ⟨rfl, rfl⟩
                            go_wp2_with fail
                            refine (HPU.out _).mono ?_
                            rintro e w3 ⟨v3, rfl, hv3, hb3⟩
                            have hcv := hv3.conv (P := Tryz.prog) 44 9 5 underB under8 under9
                            have HB3 := hid (HBW.out.trans (hb3.mono hzw))
                            clear hv3 hb3
                            go_wp2_with fail
                            go_roundw
                            case rel => exact ⟨k + 6, o2, by go_num, rfl, R, HB3.out⟩
                            case measure => simp [intOf]; omega
                          · have hf' : fine (x : Int) = false := by simpa using hf
                            have hex1 : escN (117 :: l.drop (k + 2)) = none := by rw [hex0]; simp only []; rw [if_neg hf]
                            have R := hid (HNO.out _ _ (by omega) (V3.out _ hdr (hdr1 ▸ hex1)))
                            have HFI := hid (fun w => (show Calls Tryz.prog 49 #[.int .i64 (x : Int)] w fun e w' => e = .returned (.bool false) ∧ w = w' from by have := RFine_any (x : Int) w; rw [hf'] at this; exact this))
                            clear hd2 hdr hdr1 V1 V2 V3 V4 hbt hlk h34 n34 hbt1 hcut hhx hex0 hex1 hh hf hf'
                            go_wp2_with fail
                            refine (HH.out _).mono ?_
                            rintro e w2 ⟨rfl, rfl⟩
                            go_wp2_with fail
                            refine (HFI.out _).mono ?_
                            rintro e w3 ⟨rfl, rfl⟩
                            go_wp2
                            (try simp only [Exit.inBlock, Exit.then]); refine bodyPost_ret (results_four rfl _ _ _) rfl ?_
                            refine ⟨?_, HBW.out⟩
                            rw [R.out]
                            show Ending.returned (.tuple #[.string (text []), .int .i64 0, .int .i64 (k : Int), .int .i64 11]) = _
                            rw [show ((i + 1 + (k - (i + 1)) : Nat) : Int) = (k : Int) from by omega]
                            rfl
                      · have n117x := byte_ne h117x
                        have q117 : ((((text l)[k + 1]'hps1).toNat : Int) == 117) = false := by rw [hbt1]; exact n117x
                        have R := hid (HNO.out _ _ (by omega) (V3.out _ hdr (hdr1 ▸ esc_other b1 (l.drop (k + 2)) h34x h92x h110x h114x h116x h117x)))
                        clear hd2 hdr hdr1 V1 V2 V3 V4 hbt hlk h34 n34 hbt1 hcut h34x h92x h110x h114x h116x h117x n34x n92x n110x n114x n116x n117x
                        go_wp2
                        (try simp only [Exit.inBlock, Exit.then]); refine bodyPost_ret (results_four rfl _ _ _) rfl ?_
                        refine ⟨?_, HBW.out⟩
                        rw [R.out]
                        show Ending.returned (.tuple #[.string (text []), .int .i64 0, .int .i64 (k : Int), .int .i64 11]) = _
                        rw [show ((i + 1 + (k - (i + 1)) : Nat) : Int) = (k : Int) from by omega]
                        rfl
          · have hdr1 : l.drop (k + 1) = [] := List.drop_eq_nil_of_le (by omega)
            have R := hid (HNO.out _ _ (by omega) (V3.out _ hdr (hdr1 ▸ rfl)))
            have hcm : ¬ ((k : Int) + 1) < (l.length : Int) := by omega
            clear hd2 hdr hdr1 V1 V2 V3 V4 hbt hlk h34 n34 hcut
            go_wp2
            (try simp only [Exit.inBlock, Exit.then]); refine bodyPost_ret (results_four rfl _ _ _) rfl ?_
            refine ⟨?_, HBW.out⟩
            rw [R.out]
            show Ending.returned (.tuple #[.string (text []), .int .i64 0, .int .i64 (k : Int), .int .i64 11]) = _
            rw [show ((i + 1 + (k - (i + 1)) : Nat) : Int) = (k : Int) from by omega]
            rfl
        · have n92 := byte_ne h92
          have e92 : ((((text l)[k]'hps).toNat : Int) == 92) = false := by rw [hbt]; exact n92
          have e92' : ((((text l)[k]'hps).toNat : Int) != 92) = true := by rw [bne, e92]; rfl
          have R := hid (V2.out _ _ hdr h34 h92)
          have eo : text out ++ text [b] = text (out ++ [b]) := Names.text_append _ _
          have zo : (text out).size + (text [b]).size ≤ 9223372036854775807 := by rw [text_size, text_size]; simp; omega
          generalize out ++ [b] = o2 at *
          clear hd2 hdr V1 V2 V3 V4 hbt hlk h34 h92 n34 n92
          go_wp2_with fail
          go_roundw
          case rel => exact ⟨k + 1, o2, by go_num, rfl, R, HBW.out⟩
          case measure => simp [intOf]; omega
    · have R := hid (HNO.out _ _ (by omega) (HDN.out k out HD.out hk))
      go_wp2
      (try simp only [Exit.inBlock, Exit.then]); refine bodyPost_ret (results_four rfl _ _ _) rfl ?_
      refine ⟨?_, HBW.out⟩
      rw [R.out]
      show Ending.returned (.tuple #[.string (text []), .int .i64 0, .int .i64 (l.length : Int), .int .i64 10]) = _
      rw [show ((i + 1 + (l.length - (i + 1)) : Nat) : Int) = (l.length : Int) from by omega]
      rfl
end Go.Proofs.YtblpckeimdmpaaaGreatDoor.Fl
