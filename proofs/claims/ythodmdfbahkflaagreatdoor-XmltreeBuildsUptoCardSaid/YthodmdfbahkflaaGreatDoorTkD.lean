/- Layer 4: contract of name. -/
import Derived.Test.YthodmdfbahkflaaGreatDoorTkB
set_option linter.unusedVariables false
set_option linter.unusedSimpArgs false
namespace Go.Proofs.YthodmdfbahkflaaGreatDoor.Tok
open Go Go.Proofs.YthodmdfbahkflaaGreatDoor Go.Proofs.YthodmdfbahkflaaGreatDoor.Utf Go.Proofs.YthodmdfbahkflaaGreatDoor.Names Go.Proofs.YthodmdfbahkflaaGreatDoor.Ent Go.RowKit
set_option maxRecDepth 100000

section
variable {W w : World} {r k : Nat} {v t : Value} {l : List UInt8}
set_option maxHeartbeats 4000000

theorem name_any (h : Rd W r v l k t w) :
    Calls Tryz.prog 77 #[.pointer (some ⟨r, 0, none⟩)] w fun e w' => Got W r v l k t strV (strV []) (nameR (l.drop k)) e w' ∧ Kept r w w' := by
  have c1 := h.c1
  have hlen := h.len
  have htop := h.top
  obtain ⟨m, hm⟩ : ∃ m, l.drop k = m := ⟨_, rfl⟩
  rw [hm]
  have hml : m.length + k = l.length := by rw [← hm, List.length_drop]; omega
  have hdr : ∀ n, l.drop (k + n) = m.drop n := by
    subst hm
    intro n
    rw [List.drop_drop]
  have htk : ∀ n, ((l.drop k).take (k + n - k)) = m.take n := by
    intro n
    rw [hm, show k + n - k = n from by omega]
  have H := hid h
  have HD := hid hdr
  have HT := hid htk
  clear h hm hdr htk
  go_enter Tryz.func77, Tryz.ntmps77
  go_wp2_with fail
  go_loopg [16] m.length (fun g _ wr => ∃ n : Nat, n + g = m.length ∧ Ns m n ∧ Rd W r v l (k + n) t wr ∧ Kept r w wr)
  case atStart => exact ⟨0, by omega, Ns.start m, H.out, Kept.refl r w⟩
  case round =>
    obtain ⟨n, hng, hns, hrd, hkp⟩ := hrel
    have HN := hid hns
    have HR := hid hrd
    have HK := hid hkp
    have hkn : k + n ≤ l.length := hrd.len
    have hz : ((k : Int) + (n : Int) == (k : Int)) = decide (n = 0) := by
      by_cases e : n = 0
      · rw [decide_eq_true e, beq_iff_eq]; omega
      · rw [decide_eq_false e, beq_eq_false_iff_ne]; omega
    by_cases hn : n < m.length
    · have hdn : decide (k + n = l.length) = false := by rw [decide_eq_false]; omega
      have DN := done_any hrd
      rw [hdn] at DN
      have HDN := hid DN
      clear DN hdn
      have e1 : runeR l ((k : Int) + (n : Int)) = (if (rune (m.drop n)).2 = 0 then (0, 0, 4) else ((rune (m.drop n)).1, (rune (m.drop n)).2, 0)) := by
        unfold runeR
        rw [if_neg (by omega), show ((k : Int) + (n : Int)).toNat = k + n from by omega, HD.out n]
      by_cases hr0 : (rune (m.drop n)).2 = 0
      · have HL := hid (HN.out.stop (.inl hr0))
        rw [if_pos hr0] at e1
        have HE := hid e1
        have N0 := hid (fun X => (named_zero (decide (n = 0)) ▸ named_any 0 (decide (n = 0)) X : Calls Tryz.prog 101 #[.int .i64 0, .bool (decide (n = 0))] X fun e w' => e = .returned (.bool false) ∧ X = w'))
        clear hns hrd hkp c1 e1 hr0
        by_cases en : n = 0
        · rw [decide_eq_true en] at hz N0
          have EN := hid en
          clear en
          go_wp2_with fail
          refine HDN.out.mono ?_
          rintro e w2 ⟨rfl, hq2⟩
          have hb2 := below_n hq2
          have h2 := HR.out.later hb2
          have c0 := h2.c0
          have c1 : w2.cell? ⟨r, 1, none⟩ = some (.int .i64 ((k : Int) + (n : Int))) := by rw [h2.c1]; rfl
          have ru := Rune_any v l ((k : Int) + (n : Int)) w2.drew (h2.later (b0 w2).drew).fitw.1.1 (h2.later (b0 w2).drew).bytes
          rw [HE.out] at ru
          unfold runeV at ru
          dsimp only at ru
          have RU := hid ru
          have H2 := hid h2
          have HB2 := hid hb2
          clear hq2 hb2 h2 ru
          go_wp2_with fail
          go_region_with (
            go_at_call 100
            refine RU.out.mono ?_
            rintro e w3 ⟨rfl, hb3⟩)
          all_goals
            have hb3 := (b0 w2).drew.trans hb3
            have h3 := H2.out.later hb3
            have c0 := h3.c0
            have c1 : w3.cell? ⟨r, 1, none⟩ = some (.int .i64 ((k : Int) + (n : Int))) := by rw [h3.c1]; rfl
            have f1 := h3.f1
            have H3 := hid h3
            have HB3 := hid (HB2.out.trans (hb3.mono HB2.out.size))
            clear hb3 h3
            go_wp2_with (first | (go_at_call 101; refine (N0.out _).mono ?_; rintro e w4 ⟨rfl, rfl⟩))
          all_goals
            have E := hid (nameR_none (HL.out.trans EN.out))
            have EK := hid (show k + n = k + 0 from by have := EN.out; omega)
            have m0 := missing_any H3.out
            rw [HD.out n, EN.out, List.drop_zero] at m0
            have M := hid m0
            clear m0
            go_wp2_with fail
            refine M.out.mono ?_
            rintro e w5 ⟨rfl, hq5⟩
            have hb5 := below_n hq5
            go_wp2
            go_ret2
            exact ⟨Got.bad E.out rfl (H3.out.later hb5) EK.out, (HK.out.trans (Kept.of HB3.out)).trans (Kept.of hb5)⟩
        · rw [decide_eq_false en] at hz N0
          have EN := hid en
          clear en
          go_wp2_with fail
          refine HDN.out.mono ?_
          rintro e w2 ⟨rfl, hq2⟩
          have hb2 := below_n hq2
          have h2 := HR.out.later hb2
          have c0 := h2.c0
          have c1 : w2.cell? ⟨r, 1, none⟩ = some (.int .i64 ((k : Int) + (n : Int))) := by rw [h2.c1]; rfl
          have ru := Rune_any v l ((k : Int) + (n : Int)) w2.drew (h2.later (b0 w2).drew).fitw.1.1 (h2.later (b0 w2).drew).bytes
          rw [HE.out] at ru
          unfold runeV at ru
          dsimp only at ru
          have RU := hid ru
          have H2 := hid h2
          have HB2 := hid hb2
          clear hq2 hb2 h2 ru
          go_wp2_with fail
          go_region_with (
            go_at_call 100
            refine RU.out.mono ?_
            rintro e w3 ⟨rfl, hb3⟩)
          all_goals
            have hb3 := (b0 w2).drew.trans hb3
            have h3 := H2.out.later hb3
            have c0 := h3.c0
            have c1 : w3.cell? ⟨r, 1, none⟩ = some (.int .i64 ((k : Int) + (n : Int))) := by rw [h3.c1]; rfl
            have f1 := h3.f1
            have H3 := hid h3
            have HB3 := hid (HB2.out.trans (hb3.mono HB2.out.size))
            clear hb3 h3
            go_wp2_with (first | (go_at_call 101; refine (N0.out _).mono ?_; rintro e w4 ⟨rfl, rfl⟩))
          all_goals
            obtain ⟨v', s1, _, _, hv'⟩ := H3.out.byt.sub (P := Tryz.prog) k (k + n) (by omega) hkn 24 5 underB size8
            have hsl : ∀ (kl kh : IntKind) (X : World), (Instr.slice 24 v (some (.int kl k)) (some (.int kh ((k : Int) + (n : Int)))) none).run Tryz.prog X = .ok v' X := fun kl kh X => s1 kl kh X
            rw [HT.out n] at hv'
            have HV := hid hv'
            have hcvb : ∀ X, Below W.heap.size W X → (convert 24 9 v').run Tryz.prog X = .ok (.string (text (m.take n))) X := fun X hX => (HV.out.below hX (Nat.le_refl _)).conv (P := Tryz.prog) 24 9 5 underB under8 under9
            have hcv1 := hcvb w3 H3.out.old
            have hcv2 := hcvb w3.drew H3.out.old.drew
            have SP := hid (fun X => Split_any (m.take n) (by rw [List.length_take]; omega) X)
            clear s1 hv' hcvb
            have mixed : Tryz.prog.follows Departure.mixedOrders = true := by kernel_rfl
            rcases splitE_two (m.take n) with es | es
            · rw [es] at SP
              have E := hid (nameR_good HL.out EN.out es)
              clear es
              generalize m.take n = x at *
              go_wp2_with fail
              go_region_o
              all_goals
                go_wp2_with fail
                refine (SP.out _).mono ?_
                rintro e w5 ⟨rfl, hb5⟩
                have hb6 := (b0 w3).drew.trans hb5
                go_wp2
                go_ret2
                exact ⟨Got.ok E.out rfl (H3.out.later hb6) rfl, (HK.out.trans (Kept.of HB3.out)).trans (Kept.of hb6)⟩
            · rw [es] at SP
              have E := hid (nameR_six HL.out EN.out es)
              clear es
              generalize m.take n = x at *
              go_wp2_with fail
              go_region_o
              all_goals
                go_wp2_with fail
                refine (SP.out _).mono ?_
                rintro e w5 ⟨rfl, hb5⟩
                have hb6 := (b0 w3).drew.trans hb5
                have h5 := H3.out.later hb6
                have f5 := h5.f1
                have c5 := h5.c1
                have H5 := hid h5
                have HB6 := hid hb6
                clear h5 hb5 hb6
                go_wp2
                go_ret2
                exact ⟨Got.bad E.out rfl (H5.out.move _ _ rfl (by omega)) rfl, ((HK.out.trans (Kept.of HB3.out)).trans (Kept.of HB6.out)).trans (Kept.put _ _ _ _)⟩
      · have hrl := rune_le (m.drop n)
        rw [List.length_drop] at hrl
        rw [if_neg hr0] at e1
        cases hb : namedB (rune (m.drop n)).1 (decide (n = 0)) with
        | true =>
          have HS := hid (HN.out.step hr0 hb)
          have hd1 : 1 ≤ (rune (m.drop n)).2 := by omega
          have n0 := fun X => named_any (rune (m.drop n)).1 (decide (n = 0)) X
          rw [hb] at n0
          have N0 := hid n0
          have HE := hid e1
          clear hns hrd hkp c1 e1 hr0 hb n0
          generalize rune (m.drop n) = q at *
          obtain ⟨c, d⟩ := q
          dsimp only at HE HS N0 hd1 hrl
          go_wp2_with fail
          refine HDN.out.mono ?_
          rintro e w2 ⟨rfl, hq2⟩
          have hb2 := below_n hq2
          have h2 := HR.out.later hb2
          have c0 := h2.c0
          have c1 : w2.cell? ⟨r, 1, none⟩ = some (.int .i64 ((k : Int) + (n : Int))) := by rw [h2.c1]; rfl
          have ru := Rune_any v l ((k : Int) + (n : Int)) w2.drew (h2.later (b0 w2).drew).fitw.1.1 (h2.later (b0 w2).drew).bytes
          rw [HE.out] at ru
          unfold runeV at ru
          dsimp only at ru
          have RU := hid ru
          have H2 := hid h2
          have HB2 := hid hb2
          clear hq2 hb2 h2 ru
          go_wp2_with fail
          go_region_with (
            go_at_call 100
            refine RU.out.mono ?_
            rintro e w3 ⟨rfl, hb3⟩)
          all_goals
            have hb3 := (b0 w2).drew.trans hb3
            have h3 := H2.out.later hb3
            have c0 := h3.c0
            have c1 : w3.cell? ⟨r, 1, none⟩ = some (.int .i64 ((k : Int) + (n : Int))) := by rw [h3.c1]; rfl
            have f1 := h3.f1
            have H3 := hid h3
            have HB3 := hid (HB2.out.trans (hb3.mono HB2.out.size))
            clear hb3 h3
            go_wp2_with (first | (go_at_call 101; refine (N0.out _).mono ?_; rintro e w4 ⟨rfl, rfl⟩))
          all_goals
            go_roundg (gk - d)
            case measure => omega
            case rel => exact ⟨n + d, by omega, HS.out, H3.out.move _ _ (by omega) (by omega), (HK.out.trans (Kept.of HB3.out)).trans (Kept.put _ _ _ _)⟩
        | false =>
          have HL := hid (HN.out.stop (.inr hb))
          have n0 := fun X => named_any (rune (m.drop n)).1 (decide (n = 0)) X
          rw [hb] at n0
          have N0 := hid n0
          have HE := hid e1
          clear hns hrd hkp c1 e1 hr0 hb n0 hrl
          generalize rune (m.drop n) = q at *
          obtain ⟨c, d⟩ := q
          dsimp only at HE N0
          by_cases en : n = 0
          · rw [decide_eq_true en] at hz N0
            have EN := hid en
            clear en
            go_wp2_with fail
            refine HDN.out.mono ?_
            rintro e w2 ⟨rfl, hq2⟩
            have hb2 := below_n hq2
            have h2 := HR.out.later hb2
            have c0 := h2.c0
            have c1 : w2.cell? ⟨r, 1, none⟩ = some (.int .i64 ((k : Int) + (n : Int))) := by rw [h2.c1]; rfl
            have ru := Rune_any v l ((k : Int) + (n : Int)) w2.drew (h2.later (b0 w2).drew).fitw.1.1 (h2.later (b0 w2).drew).bytes
            rw [HE.out] at ru
            unfold runeV at ru
            dsimp only at ru
            have RU := hid ru
            have H2 := hid h2
            have HB2 := hid hb2
            clear hq2 hb2 h2 ru
            go_wp2_with fail
            go_region_with (
              go_at_call 100
              refine RU.out.mono ?_
              rintro e w3 ⟨rfl, hb3⟩)
            all_goals
              have hb3 := (b0 w2).drew.trans hb3
              have h3 := H2.out.later hb3
              have c0 := h3.c0
              have c1 : w3.cell? ⟨r, 1, none⟩ = some (.int .i64 ((k : Int) + (n : Int))) := by rw [h3.c1]; rfl
              have f1 := h3.f1
              have H3 := hid h3
              have HB3 := hid (HB2.out.trans (hb3.mono HB2.out.size))
              clear hb3 h3
              go_wp2_with (first | (go_at_call 101; refine (N0.out _).mono ?_; rintro e w4 ⟨rfl, rfl⟩))
            all_goals
              have E := hid (nameR_none (HL.out.trans EN.out))
              have EK := hid (show k + n = k + 0 from by have := EN.out; omega)
              have m0 := missing_any H3.out
              rw [HD.out n, EN.out, List.drop_zero] at m0
              have M := hid m0
              clear m0
              go_wp2_with fail
              refine M.out.mono ?_
              rintro e w5 ⟨rfl, hq5⟩
              have hb5 := below_n hq5
              go_wp2
              go_ret2
              exact ⟨Got.bad E.out rfl (H3.out.later hb5) EK.out, (HK.out.trans (Kept.of HB3.out)).trans (Kept.of hb5)⟩
          · rw [decide_eq_false en] at hz N0
            have EN := hid en
            clear en
            go_wp2_with fail
            refine HDN.out.mono ?_
            rintro e w2 ⟨rfl, hq2⟩
            have hb2 := below_n hq2
            have h2 := HR.out.later hb2
            have c0 := h2.c0
            have c1 : w2.cell? ⟨r, 1, none⟩ = some (.int .i64 ((k : Int) + (n : Int))) := by rw [h2.c1]; rfl
            have ru := Rune_any v l ((k : Int) + (n : Int)) w2.drew (h2.later (b0 w2).drew).fitw.1.1 (h2.later (b0 w2).drew).bytes
            rw [HE.out] at ru
            unfold runeV at ru
            dsimp only at ru
            have RU := hid ru
            have H2 := hid h2
            have HB2 := hid hb2
            clear hq2 hb2 h2 ru
            go_wp2_with fail
            go_region_with (
              go_at_call 100
              refine RU.out.mono ?_
              rintro e w3 ⟨rfl, hb3⟩)
            all_goals
              have hb3 := (b0 w2).drew.trans hb3
              have h3 := H2.out.later hb3
              have c0 := h3.c0
              have c1 : w3.cell? ⟨r, 1, none⟩ = some (.int .i64 ((k : Int) + (n : Int))) := by rw [h3.c1]; rfl
              have f1 := h3.f1
              have H3 := hid h3
              have HB3 := hid (HB2.out.trans (hb3.mono HB2.out.size))
              clear hb3 h3
              go_wp2_with (first | (go_at_call 101; refine (N0.out _).mono ?_; rintro e w4 ⟨rfl, rfl⟩))
            all_goals
              obtain ⟨v', s1, _, _, hv'⟩ := H3.out.byt.sub (P := Tryz.prog) k (k + n) (by omega) hkn 24 5 underB size8
              have hsl : ∀ (kl kh : IntKind) (X : World), (Instr.slice 24 v (some (.int kl k)) (some (.int kh ((k : Int) + (n : Int)))) none).run Tryz.prog X = .ok v' X := fun kl kh X => s1 kl kh X
              rw [HT.out n] at hv'
              have HV := hid hv'
              have hcvb : ∀ X, Below W.heap.size W X → (convert 24 9 v').run Tryz.prog X = .ok (.string (text (m.take n))) X := fun X hX => (HV.out.below hX (Nat.le_refl _)).conv (P := Tryz.prog) 24 9 5 underB under8 under9
              have hcv1 := hcvb w3 H3.out.old
              have hcv2 := hcvb w3.drew H3.out.old.drew
              have SP := hid (fun X => Split_any (m.take n) (by rw [List.length_take]; omega) X)
              clear s1 hv' hcvb
              have mixed : Tryz.prog.follows Departure.mixedOrders = true := by kernel_rfl
              rcases splitE_two (m.take n) with es | es
              · rw [es] at SP
                have E := hid (nameR_good HL.out EN.out es)
                clear es
                generalize m.take n = x at *
                go_wp2_with fail
                go_region_o
                all_goals
                  go_wp2_with fail
                  refine (SP.out _).mono ?_
                  rintro e w5 ⟨rfl, hb5⟩
                  have hb6 := (b0 w3).drew.trans hb5
                  go_wp2
                  go_ret2
                  exact ⟨Got.ok E.out rfl (H3.out.later hb6) rfl, (HK.out.trans (Kept.of HB3.out)).trans (Kept.of hb6)⟩
              · rw [es] at SP
                have E := hid (nameR_six HL.out EN.out es)
                clear es
                generalize m.take n = x at *
                go_wp2_with fail
                go_region_o
                all_goals
                  go_wp2_with fail
                  refine (SP.out _).mono ?_
                  rintro e w5 ⟨rfl, hb5⟩
                  have hb6 := (b0 w3).drew.trans hb5
                  have h5 := H3.out.later hb6
                  have f5 := h5.f1
                  have c5 := h5.c1
                  have H5 := hid h5
                  have HB6 := hid hb6
                  clear h5 hb5 hb6
                  go_wp2
                  go_ret2
                  exact ⟨Got.bad E.out rfl (H5.out.move _ _ rfl (by omega)) rfl, ((HK.out.trans (Kept.of HB3.out)).trans (Kept.of HB6.out)).trans (Kept.put _ _ _ _)⟩
    · have hdn : decide (k + n = l.length) = true := by rw [decide_eq_true]; have := hns.1; omega
      have DN := done_any hrd
      rw [hdn] at DN
      have HDN := hid DN
      have HL := hid (HN.out.done hn)
      clear DN hdn hns hrd hkp c1
      by_cases en : n = 0
      · rw [decide_eq_true en] at hz
        have EN := hid en
        clear en
        go_wp2_with fail
        refine HDN.out.mono ?_
        rintro e w3 ⟨rfl, hq3⟩
        have hb3 := below_n hq3
        have h3 := HR.out.later hb3
        have c0 := h3.c0
        have c1 : w3.cell? ⟨r, 1, none⟩ = some (.int .i64 ((k : Int) + (n : Int))) := by rw [h3.c1]; rfl
        have f1 := h3.f1
        have H3 := hid h3
        have HB3 := hid hb3
        clear hq3 hb3 h3
        have E := hid (nameR_none (HL.out.trans EN.out))
        have EK := hid (show k + n = k + 0 from by have := EN.out; omega)
        have m0 := missing_any H3.out
        rw [HD.out n, EN.out, List.drop_zero] at m0
        have M := hid m0
        clear m0
        go_wp2_with fail
        refine M.out.mono ?_
        rintro e w5 ⟨rfl, hq5⟩
        have hb5 := below_n hq5
        go_wp2
        go_ret2
        exact ⟨Got.bad E.out rfl (H3.out.later hb5) EK.out, (HK.out.trans (Kept.of HB3.out)).trans (Kept.of hb5)⟩
      · rw [decide_eq_false en] at hz
        have EN := hid en
        clear en
        go_wp2_with fail
        refine HDN.out.mono ?_
        rintro e w3 ⟨rfl, hq3⟩
        have hb3 := below_n hq3
        have h3 := HR.out.later hb3
        have c0 := h3.c0
        have c1 : w3.cell? ⟨r, 1, none⟩ = some (.int .i64 ((k : Int) + (n : Int))) := by rw [h3.c1]; rfl
        have f1 := h3.f1
        have H3 := hid h3
        have HB3 := hid hb3
        clear hq3 hb3 h3
        obtain ⟨v', s1, _, _, hv'⟩ := H3.out.byt.sub (P := Tryz.prog) k (k + n) (by omega) hkn 24 5 underB size8
        have hsl : ∀ (kl kh : IntKind) (X : World), (Instr.slice 24 v (some (.int kl k)) (some (.int kh ((k : Int) + (n : Int)))) none).run Tryz.prog X = .ok v' X := fun kl kh X => s1 kl kh X
        rw [HT.out n] at hv'
        have HV := hid hv'
        have hcvb : ∀ X, Below W.heap.size W X → (convert 24 9 v').run Tryz.prog X = .ok (.string (text (m.take n))) X := fun X hX => (HV.out.below hX (Nat.le_refl _)).conv (P := Tryz.prog) 24 9 5 underB under8 under9
        have hcv1 := hcvb w3 H3.out.old
        have hcv2 := hcvb w3.drew H3.out.old.drew
        have SP := hid (fun X => Split_any (m.take n) (by rw [List.length_take]; omega) X)
        clear s1 hv' hcvb
        have mixed : Tryz.prog.follows Departure.mixedOrders = true := by kernel_rfl
        rcases splitE_two (m.take n) with es | es
        · rw [es] at SP
          have E := hid (nameR_good HL.out EN.out es)
          clear es
          generalize m.take n = x at *
          go_wp2_with fail
          go_region_o
          all_goals
            go_wp2_with fail
            refine (SP.out _).mono ?_
            rintro e w5 ⟨rfl, hb5⟩
            have hb6 := (b0 w3).drew.trans hb5
            go_wp2
            go_ret2
            exact ⟨Got.ok E.out rfl (H3.out.later hb6) rfl, (HK.out.trans (Kept.of HB3.out)).trans (Kept.of hb6)⟩
        · rw [es] at SP
          have E := hid (nameR_six HL.out EN.out es)
          clear es
          generalize m.take n = x at *
          go_wp2_with fail
          go_region_o
          all_goals
            go_wp2_with fail
            refine (SP.out _).mono ?_
            rintro e w5 ⟨rfl, hb5⟩
            have hb6 := (b0 w3).drew.trans hb5
            have h5 := H3.out.later hb6
            have f5 := h5.f1
            have c5 := h5.c1
            have H5 := hid h5
            have HB6 := hid hb6
            clear h5 hb5 hb6
            go_wp2
            go_ret2
            exact ⟨Got.bad E.out rfl (H5.out.move _ _ rfl (by omega)) rfl, ((HK.out.trans (Kept.of HB3.out)).trans (Kept.of HB6.out)).trans (Kept.put _ _ _ _)⟩
end
end Go.Proofs.YthodmdfbahkflaaGreatDoor.Tok
