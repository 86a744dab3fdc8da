/- Layer 14: the walk of OrderNames. -/
import Derived.Test.YtkpmkabddhpojaaOrT
set_option linter.unusedVariables false
set_option linter.unusedSimpArgs false
namespace Go.Proofs.Ytkpmkabddhpojaa.Or
open Go Go.Proofs.Ytkpmkabddhpojaa Go.RowKit Go.Op
set_option maxRecDepth 100000

set_option maxHeartbeats 1200000 in
theorem OrderNames_walk (nv : Value) (S : List (List UInt8)) (w : World) (hs : Strs w nv S) :
    Calls Try.prog 7 #[nv] w fun e w' => e = .returned (.bool true) ∧ Below w.heap.size w w' := by
  have hlens := fun W => hs.len (P := Try.prog) 22 3 9 Try.underlying22 W
  have AL := hid (fun W => alive_any W)
  have HS := hid hs
  have hSle := hs.le
  clear hs
  go_enter Try.func7, Try.ntmps7
  go_wp2_with fail
  refine (AL.out _).mono ?_
  rintro e w1 ⟨rfl, b1⟩
  have B1 := hid b1
  clear b1
  by_cases hS2 : 200 < S.length
  · have hS3 : (200 : Int) < S.length := by omega
    go_wp2_with fail
    refine (AL.out _).mono ?_
    rintro e w2 ⟨rfl, b2⟩
    have B2 := hid (bt B1.out b2)
    clear b2
    go_wp2_with fail
    go_ret
    exact ⟨rfl, B2.out⟩
  · obtain ⟨n, hnn⟩ : ∃ n, S.length = n := ⟨_, rfl⟩
    rw [hnn] at hlens hS2
    have HNN := hid hnn
    obtain ⟨A, C, _, mkC, _, hC⟩ := make_runs n (by omega)
    obtain ⟨Y, hY⟩ : ∃ Y, w1.alloc C = Y := ⟨_, rfl⟩
    have BY : Below w1.heap.size w1 Y := hY ▸ ba (b0 w1) _
    have PY : Y.heap[w1.heap.size]? = some (.cells (List.replicate n (Value.slice none 0 0)).toArray 26) := by rw [← hC]; exact hY ▸ heap_alloc_new w1 _
    have HBY := hid (bt B1.out BY)
    have bl : (bare n).length = n := by simp [bare]
    have A1 := hid (Sort_ok (HS.out.below HBY.out (Nat.le_refl _)) (Nd.bareMade (by omega) PY) (by rw [bl]; exact hnn) (bare_right n) (by rw [bl, bare_mass]; omega))
    have HC := hid hC
    clear hnn BY PY hC
    go_wp2_with fail
    refine A1.out.mono ?_
    rintro e w2 ⟨line, out, hb, hd, ⟨r, ho, rfl⟩, b2⟩
    have hL : Line n line := by rw [← HNN.out]; exact hb.1
    obtain rfl : out = line := hd.unique (bare_done hL)
    rw [bl, if_neg (by rw [hL.len]; omega)]
    have hlo := fun W => own_len (P := Try.prog) ho 26 3 Try.underlying26 W
    rw [hL.len] at hlo
    have HL := hid hL
    have HPW := hid hb.2
    have HO := hid ho
    have B2 := hid (bt HBY.out b2)
    clear hb hd ho b2 hL bl
    go_wp2_with fail
    go_loopg [38] n (fun kx s38 X => ∃ i : Nat, s38 = .int .i64 i ∧ i ≤ n ∧ n - i ≤ kx ∧ Hid (Below w2.heap.size w2 X))
    case atStart => exact ⟨0, rfl, Nat.zero_le _, by omega, hid (b0 w2)⟩
    case round =>
      rename World => X
      obtain ⟨i, rfl, hi, hg, BX⟩ := hrel
      by_cases hil : i < n
      · have hilo : i < out.length := by rw [HL.out.len]; exact hil
        have hoX := owns_later HO.out BX.out
        have hsX := HS.out.below (bt B2.out BX.out) (Nat.le_refl _)
        obtain ⟨b2, o2, hix2, hc2⟩ := row_at (P := Try.prog) (Row.ofOwns hoX (by rw [HL.out.len]; omega)) i hilo 26 3 Try.underlying26 Try.sizeOf3
        simp only [encN] at hc2
        have hxl := HL.out.lt _ (List.getElem_mem hilo)
        have h1 : decide (((out[i] : Nat) : Int) < 0) = false := by simp
        have h2 : decide ((n : Int) ≤ ((out[i] : Nat) : Int)) = false := by simp; omega
        have h2n : decide (n ≤ out[i]) = false := by simp; omega
        rcases Nat.eq_zero_or_pos i with h0 | h0
        · subst h0
          generalize out[0] = x at *
          simp only [Int.natCast_zero, Int.ofNat_zero] at hix2
          clear hoX hsX
          go_wp2_with fail
          go_quiet (fail)
          go_wp2_with fail
          go_roundg (n - 1)
          case measure => omega
          case rel => exact ⟨1, by go_num, by omega, Nat.le_refl _, hid (BX.out.trans ⟨rfl, rfl, rfl, Nat.le_refl _, fun _ _ => rfl⟩)⟩
        · obtain ⟨j, hj⟩ : ∃ j, i = j + 1 := ⟨i - 1, by omega⟩
          subst hj
          have h3 : decide ((0 : Int) < (j : Int) + 1) = true := by simp only [decide_eq_true_eq]; omega
          have hix2' : ∀ k W, (Instr.indexAt 26 r (.int k ((j : Int) + 1))).run Try.prog W = .ok (.pointer (some ⟨b2, o2, none⟩)) W := fun k W => by
            have := hix2 k W
            rwa [show ((j + 1 : Nat) : Int) = (j : Int) + 1 by omega] at this
          have hjlo : j < out.length := by omega
          obtain ⟨b3, o3, hix3, hc3⟩ := row_at (P := Try.prog) (Row.ofOwns hoX (by rw [HL.out.len]; omega)) j hjlo 26 3 Try.underlying26 Try.sizeOf3
          simp only [encN] at hc3
          have hyl := HL.out.lt _ (List.getElem_mem hjlo)
          have hlex : lexB S out[j] out[j + 1] = true := List.pairwise_iff_getElem.1 HPW.out j (j + 1) hjlo hilo (by omega)
          generalize out[j + 1] = x at *
          generalize out[j] = y at *
          have hxS : x < S.length := by rw [HNN.out]; exact hxl
          have hyS : y < S.length := by rw [HNN.out]; exact hyl
          obtain ⟨b4, o4, hi4, hc4⟩ := row_at (P := Try.prog) (enc := fun s => Value.string (text s)) hsX x hxS 22 9 Try.underlying22 Try.sizeOf9
          obtain ⟨b5, o5, hi5, hc5⟩ := row_at (P := Try.prog) (enc := fun s => Value.string (text s)) hsX y hyS 22 9 Try.underlying22 Try.sizeOf9
          have e1 : S.getD x [] = S[x] := by simp [hxS]
          have e2 : S.getD y [] = S[y] := by simp [hyS]
          have ls1 : ∀ l m : List UInt8, bytesLess (text l).toList (text m).toList = bytesLess l m := fun l m => by rw [Lib.toList_data, Lib.toList_data, text_data, text_data]
          have le1 : ∀ l m : List UInt8, ((text l).toList == (text m).toList) = (l == m) := fun l m => by rw [Lib.toList_data, Lib.toList_data, text_data, text_data]
          have hgt : bytesLess (text S[x]).toList (text S[y]).toList = false := by
            rw [ls1]
            unfold lexB at hlex
            rw [e1, e2, Bool.or_eq_true] at hlex
            rcases hlex with q | q
            · exact Sc.less_asymm q
            · rw [Bool.and_eq_true] at q
              have : S[y] = S[x] := by simpa using q.1
              rw [this]; exact Sc.less_irrefl _
          have hix3' : ∀ k W, (Instr.indexAt 26 r (.int k ((j : Int) + 1 - 1))).run Try.prog W = .ok (.pointer (some ⟨b3, o3, none⟩)) W := fun k W => by
            rw [show (j : Int) + 1 - 1 = j by omega]; exact hix3 k W
          by_cases hq : S[y] = S[x]
          · have heq : ((text S[y]).toList == (text S[x]).toList) = true := by rw [le1, hq]; simp
            have hyx : decide ((x : Int) ≤ y) = false := by
              unfold lexB at hlex
              rw [e1, e2, hq, Sc.less_irrefl] at hlex
              simp at hlex
              simp; omega
            have hyxn : decide (x ≤ y) = false := by simpa using hyx
            generalize text S[x] = tx at *
            generalize text S[y] = ty at *
            clear hoX hsX hlex e1 e2 ls1 le1 hq
            go_wp2_with fail
            go_quiet (fail)
            go_wp2_with fail
            go_roundg (n - (j + 1 + 1))
            case measure => omega
            case rel => exact ⟨j + 1 + 1, by go_num, by omega, Nat.le_refl _, hid (BX.out.trans ⟨rfl, rfl, rfl, Nat.le_refl _, fun _ _ => rfl⟩)⟩
          · have heq : ((text S[y]).toList == (text S[x]).toList) = false := by rw [le1]; simpa using hq
            have hlt2 : bytesLess (text S[y]).toList (text S[x]).toList = true := by
              rw [ls1]
              unfold lexB at hlex
              rw [e1, e2, Bool.or_eq_true] at hlex
              rcases hlex with q | q
              · exact q
              · rw [Bool.and_eq_true] at q
                exact absurd (by simpa using q.1) hq
            generalize text S[x] = tx at *
            generalize text S[y] = ty at *
            clear hoX hsX hlex e1 e2 ls1 le1 hq
            go_wp2_with fail
            go_quiet (fail)
            go_wp2_with fail
            go_roundg (n - (j + 1 + 1))
            case measure => omega
            case rel => exact ⟨j + 1 + 1, by go_num, by omega, Nat.le_refl _, hid (BX.out.trans ⟨rfl, rfl, rfl, Nat.le_refl _, fun _ _ => rfl⟩)⟩
      · obtain rfl : i = n := by omega
        obtain ⟨Y2, hY2⟩ : ∃ Y, X.alloc C = Y := ⟨_, rfl⟩
        have BY2 : Below X.heap.size X Y2 := hY2 ▸ ba (b0 X) _
        have PY2 : Y2.heap[X.heap.size]? = some (.cells (List.replicate i (Value.slice none 0 0)).toArray 26) := by rw [← HC.out]; exact hY2 ▸ heap_alloc_new X _
        have hBX := bt B2.out BX.out
        have CH := hid ((Ch.start (w := X) (by omega) PY2 (Nat.le_refl _)))
        have B4 := hid (bt hBX BY2)
        have HXB := hid hBX.size
        obtain ⟨cv, hcv⟩ : ∃ cv, Value.slice (some ⟨X.heap.size, 0, none⟩) i i = cv := ⟨_, rfl⟩
        rw [hcv] at CH
        clear BY2 PY2 hBX
        have hlc := fun W => own_len (P := Try.prog) (enc := id) CH.out.own 23 3 Try.underlying23 W
        rw [CH.out.len] at hlc
        go_wp2_with fail
        go_loopg [8] i (fun kx s8 Z => ∃ (k : Nat) (vs : List Value), s8 = .int .i64 ((k : Int) + 1) ∧ (k + 1 ≤ i ∨ (i = 0 ∧ k = 0)) ∧ i - k ≤ kx ∧ Hid (Below w.heap.size w Z) ∧ Hid (Ch X.heap.size i Z cv X.heap.size vs (k + 1)))
        case atStart => exact ⟨0, _, rfl, by omega, by omega, B4, CH⟩
        case round =>
          clear CH B4
          rename World => Z
          obtain ⟨k, vs, rfl, hk, hgk, BZ, CZ⟩ := hrel
          by_cases hki : k + 1 < i
          · have hki' : (k : Int) + 1 < i := by omega
            obtain ⟨Y3, hY3⟩ : ∃ Y, Z.alloc (.cells #[.int .i64 ((k : Int) + 1)] 3) = Y := ⟨_, rfl⟩
            have BY3 : Below Z.heap.size Z Y3 := hY3 ▸ ba (b0 Z) _
            have C3 := hid (CZ.out.step hki (Y := Y3) (by rw [show ((k + 1 : Nat) : Int) = (k : Int) + 1 by omega]; exact hY3))
            obtain ⟨b, hb1, hixc, hcc, hfc, hBc, _, _⟩ := own_at (P := Try.prog) (enc := id) (owns_later CZ.out.own BY3) k (by rw [CZ.out.len]; omega) 23 Try.underlying23 Try.sizeOf26
            obtain rfl : b = X.heap.size := by rw [CZ.out.blk] at hb1; injection hb1 with hb1; exact hb1.symm
            obtain ⟨u0, hcc⟩ : ∃ u0, Y3.cell? ⟨X.heap.size, k, none⟩ = some u0 := ⟨_, hcc⟩
            have B3 := hid ((bt BZ.out BY3).setCell (p := ⟨X.heap.size, k, none⟩) HXB.out (.slice (some ⟨Z.heap.size, 0, none⟩) 1 1))
            clear BY3 hb1 hBc
            go_wp2_with fail
            go_roundg (i - (k + 1))
            case measure => omega
            case rel => exact ⟨k + 1, _, by go_num, by omega, by omega, B3, C3⟩
          · have hki' : ¬ (k : Int) + 1 < i := by omega
            have CF := hid (show Ch X.heap.size i Z cv X.heap.size vs i from by
              rcases hk with q | ⟨q1, q2⟩
              · obtain rfl : k + 1 = i := by omega
                exact CZ.out
              · exact ⟨CZ.out.own, CZ.out.blk, CZ.out.len, fun t ht => by omega⟩)
            have A2 := hid (Sort_ok (HS.out.below BZ.out (Nat.le_refl _)) (CF.out.nd (by omega)) (by rw [chain_length]; exact HNN.out) (chain_right i) (by rw [chain_length]; have := chain_mass i i; omega))
            go_wp2_with fail
            refine A2.out.mono ?_
            rintro e w4 ⟨line2, out2, hb4, hd4, ⟨r4, ho4, rfl⟩, b4⟩
            have hL4 : Line i line2 := by rw [← HNN.out]; exact hb4.1
            obtain rfl : out2 = downN i i := hd4.unique (chain_done hL4)
            have hdl := downN_length i i
            rw [chain_length, if_neg (by omega)]
            have hl4 := fun W => own_len (P := Try.prog) ho4 26 3 Try.underlying26 W
            rw [hdl] at hl4
            have HO4 := hid ho4
            have B5 := hid (bt BZ.out b4)
            clear hb4 hd4 ho4 b4 hL4
            go_wp2_with fail
            go_loopg [127] i (fun kx s127 Q => ∃ m : Nat, s127 = .int .i64 m ∧ m ≤ i ∧ i - m ≤ kx ∧ w4 = Q)
            case atStart => exact ⟨0, rfl, Nat.zero_le _, by omega, rfl⟩
            case round =>
              obtain ⟨m, rfl, hm, hgm, rfl⟩ := hrel
              by_cases hmi : m < i
              · obtain ⟨b6, o6, hix6, hc6⟩ := row_at (P := Try.prog) (Row.ofOwns HO4.out (by omega)) m (by omega) 26 3 Try.underlying26 Try.sizeOf3
                have hdg := downN_get i i m hmi
                rw [List.getD_eq_getElem?_getD, List.getElem?_eq_getElem (by omega), Option.getD_some] at hdg
                rw [hdg] at hc6
                simp only [encN] at hc6
                rw [show ((i - 1 - m : Nat) : Int) = (i : Int) - 1 - m by omega] at hc6
                clear hdg
                go_wp2
                go_roundg (i - (m + 1))
                case measure => omega
                case rel => exact ⟨m + 1, by go_num, by omega, by omega, rfl⟩
              · obtain rfl : m = i := by omega
                go_wp2
                go_ret
                exact ⟨rfl, B5.out⟩
end Go.Proofs.Ytkpmkabddhpojaa.Or
