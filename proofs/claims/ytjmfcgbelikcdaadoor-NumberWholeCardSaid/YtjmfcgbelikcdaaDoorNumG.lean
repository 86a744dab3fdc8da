/- Layer 7: contract of the document's Read. -/
import Derived.Test.YtjmfcgbelikcdaaDoorNumD
import Derived.Test.YtjmfcgbelikcdaaDoorNumE
set_option linter.unusedVariables false
set_option linter.unusedSimpArgs false
namespace Go.Proofs.YtjmfcgbelikcdaaDoor.Num
open Go Go.Proofs.YtjmfcgbelikcdaaDoor Go.RowKit
set_option maxRecDepth 100000

/-- What the document's Read answers. -/
def RReadA (l : List UInt8) : Value := .tuple #[numV (readV l), .int .i64 (readE l)]
theorem RReadA_no {l : List UInt8} {e : Nat} (h : readE l = e) (h0 : e ≠ 0) : RReadA l = .tuple #[.agg #[.string ⟨#[]⟩, .int .i64 0], .int .i64 e] := by
  unfold RReadA
  rw [readV_no (by omega), h]; rfl
theorem RReadA_yes {l : List UInt8} (h : readE l = 0) : RReadA l = .tuple #[numV (canon (whole l ++ part l) (part l).length), .int .i64 0] := by
  unfold RReadA
  rw [readV_yes h, h]; rfl
theorem point_is {l : List UInt8} {k : Nat} (hk : k ≤ l.length) (h : ∀ j (hj : j < l.length), j < k → l[j] ≠ 46) : k ≤ point l := by
  refine Nat.le_of_not_lt fun c => ?_
  exact h (point l) (by omega) c (point_at l (by omega))

set_option maxHeartbeats 2000000 in
theorem RRead_any (l : List UInt8) (hl : l.length ≤ 500000000) (w : World) :
    Calls Tryd.prog 10 #[.string (text l)] w fun e w' => e = .returned (RReadA l) ∧ Below w.heap.size w w' := by
  have s1 := text_size l
  go_enter Tryd.func10, Tryd.ntmps10
  go_wp2_with fail
  obtain ⟨W1, hW1⟩ : ∃ W1, w.alloc (.cells #[.string ⟨#[]⟩, .int .i64 0] 24) = W1 := ⟨_, rfl⟩
  have B1 := hid (show Below w.heap.size w W1 from hW1 ▸ ba (b0 w) _)
  have P1 := hid (show W1.heap[w.heap.size]? = some (.cells #[.string ⟨#[]⟩, .int .i64 0] 24 (0, 0)) from hW1 ▸ heap_alloc_new w _)
  rw [hW1]
  clear hW1
  have c0 : W1.cell? ⟨w.heap.size, 0, none⟩ = some (.string ⟨#[]⟩) := by rw [Lib.cell_of_heap P1.out]; rfl
  have c1 : W1.cell? ⟨w.heap.size, 1, none⟩ = some (.int .i64 0) := by rw [Lib.cell_of_heap P1.out]; rfl
  have f0 := Lib.frozen_of_heap P1.out 0
  have f1 := Lib.frozen_of_heap P1.out 1
  go_loopg [5, 4] l.length (fun gk iv pv X => ∃ k : Nat, iv = .int .i64 k ∧ pv = .int .i64 l.length ∧ k + gk = l.length ∧ Hid (k ≤ point l) ∧ X = W1)
  case atStart => exact ⟨0, rfl, rfl, by omega, hid (by omega), rfl⟩
  case round =>
    obtain ⟨k, rfl, rfl, hkg, HK, rfl⟩ := hrel
    rename World => X
    have l1 := whole_len l
    have l2 := part_len l
    have l3 := point_le l
    have HW := hid (show whole l = l.take (point l) from rfl)
    have HPT := hid (show part l = l.drop (point l + 1) from rfl)
    have hsum : (whole l).length + (part l).length ≤ 1000000000 := by omega
    have W1' := hid (fun w => rdigits_any (whole l) (by omega) w)
    have W2' := hid (fun w => rdigits_any (part l) (by omega) w)
    have W3' := hid (fun (h1 : AllD (whole l ++ part l)) (h2 : whole l ++ part l ≠ []) w => RCanon_any (whole l ++ part l) (part l).length (by simp; omega) (by omega) h1 h2 w)
    by_cases hlt : k < l.length
    · have hps : k < (text l).size := by omega
      by_cases hx : l[k] = 46
      · have hx' : (((text l)[k]'hps).toNat : Int) = 46 := by
          have : ((text l)[k]'hps) = l[k] := rfl
          rw [this, hx]; rfl
        have hpk : point l = k := by
          have h1 := HK.out
          refine Nat.le_antisymm (Nat.le_of_not_lt fun c => ?_) h1
          exact point_before l k hlt c hx
        have HEE := hid (show pointed l = true by unfold pointed; rw [decide_eq_true_iff]; omega)
        rw [hpk] at HW HPT
        have ex1 : (text l).extract 0 k = text (whole l) := by rw [HW.out]; exact text_zero l k
        have ex2 : (text l).extract (k + 1) l.length = text (part l) := by rw [HPT.out, ← s1]; exact text_extract l (k + 1)
        clear hx hpk
        have E2 := hid (@readE_form2 l)
        have E3 := hid (@readE_form3 l)
        have E4 := hid (@readE_fine l)
        have AN := hid (show ∀ e : Nat, readE l = e → e ≠ 0 → _ from fun e h h0 => @RReadA_no l e h h0)
        have AY := hid (@RReadA_yes l)
        clear l1 l2 HW HPT
        generalize whole l = a at *
        generalize part l = b at *
        have z1 := text_size a
        have z2 := text_size b
        have hadd : text a ++ text b = text (a ++ b) := text_append a b
        have hadz : (text a).size + (text b).size ≤ 9223372036854775807 := by omega
        obtain ⟨c, hc⟩ : ∃ c, canon (a ++ b) b.length = c := ⟨_, rfl⟩
        rw [hc] at W3' AY
        clear hc
        unfold numV numZ at W3'
        cases hg : digs b
        · rw [hg] at W2'
          have HA := hid (AN.out 17 (E3.out HEE.out hg) (by omega))
          clear hg
          go_wp2_with fail
          refine (W2'.out _).mono ?_
          rintro e w2 ⟨rfl, rfl⟩
          go_wp2
          refine bodyPost_ret (results_pair rfl _ _ _ _ rfl (load_num (put2 P1.out _ _))) rfl ?_
          exact ⟨by rw [HA.out]; rfl, put2_below B1.out (Nat.le_refl _) _ _⟩
        · have HG := hid hg
          have HB := hid ((digs_iff b).1 hg)
          rw [hg] at W2'
          clear hg
          cases hg : digs a
          · rw [hg] at W1'
            by_cases h0 : a = []
            · have q0 := list_yes h0
              have H0 := hid h0
              clear h0 hg
              have EF := E4.out (.inr ⟨HEE.out, .inl H0.out, HG.out⟩)
              by_cases hlong : 1000 < a.length + b.length
              · rw [if_pos hlong] at EF
                have HA := hid (AN.out 19 EF (by omega))
                clear EF
                go_wp2_with fail
                refine (W2'.out _).mono ?_
                rintro e w2 ⟨rfl, rfl⟩
                go_wp2_with fail
                refine (W1'.out _).mono ?_
                rintro e w2 ⟨rfl, rfl⟩
                go_wp2
                refine bodyPost_ret (results_pair rfl _ _ _ _ rfl (load_num (put2 P1.out _ _))) rfl ?_
                exact ⟨by rw [HA.out]; rfl, put2_below B1.out (Nat.le_refl _) _ _⟩
              · rw [if_neg hlong] at EF
                have HA := hid (AY.out EF)
                clear EF
                have W4 := hid (W3'.out (by rw [H0.out]; exact HB.out.1) (by rw [H0.out]; exact HB.out.2))
                go_wp2_with fail
                refine (W2'.out _).mono ?_
                rintro e w2 ⟨rfl, rfl⟩
                go_wp2_with fail
                refine (W1'.out _).mono ?_
                rintro e w2 ⟨rfl, rfl⟩
                go_wp2_with fail
                refine (W4.out _).mono ?_
                rintro e w3 ⟨rfl, hb3⟩
                have P3 := block_later P1.out hb3
                have B3 := hid (B1.out.trans (hb3.mono B1.out.size))
                have c0' : w3.cell? ⟨w.heap.size, 0, none⟩ = some (.string ⟨#[]⟩) := by rw [Lib.cell_of_heap P3]; rfl
                have c1' : w3.cell? ⟨w.heap.size, 1, none⟩ = some (.int .i64 0) := by rw [Lib.cell_of_heap P3]; rfl
                have f0' := Lib.frozen_of_heap P3 0
                have f1' := Lib.frozen_of_heap P3 1
                have HP3 := hid P3
                clear hb3 P3
                unfold numV numZ at HA
                go_wp2
                refine bodyPost_ret (results_pair rfl _ _ _ _ rfl (load_num (put2 HP3.out _ _))) rfl ?_
                exact ⟨by rw [HA.out]; rfl, put2_below B3.out (Nat.le_refl _) _ _⟩
            · have q0 := list_no h0
              have HA := hid (AN.out 17 (E2.out HEE.out h0 hg) (by omega))
              clear h0 hg
              go_wp2_with fail
              refine (W2'.out _).mono ?_
              rintro e w2 ⟨rfl, rfl⟩
              go_wp2_with fail
              refine (W1'.out _).mono ?_
              rintro e w2 ⟨rfl, rfl⟩
              go_wp2
              refine bodyPost_ret (results_pair rfl _ _ _ _ rfl (load_num (put2 P1.out _ _))) rfl ?_
              exact ⟨by rw [HA.out]; rfl, put2_below B1.out (Nat.le_refl _) _ _⟩
          · have HG2 := hid hg
            have HB2 := hid ((digs_iff a).1 hg)
            rw [hg] at W1'
            clear hg
            have EF := E4.out (.inr ⟨HEE.out, .inr HG2.out, HG.out⟩)
            by_cases hlong : 1000 < a.length + b.length
            · rw [if_pos hlong] at EF
              have HA := hid (AN.out 19 EF (by omega))
              clear EF
              go_wp2_with fail
              refine (W2'.out _).mono ?_
              rintro e w2 ⟨rfl, rfl⟩
              go_wp2_with fail
              refine (W1'.out _).mono ?_
              rintro e w2 ⟨rfl, rfl⟩
              go_wp2
              refine bodyPost_ret (results_pair rfl _ _ _ _ rfl (load_num (put2 P1.out _ _))) rfl ?_
              exact ⟨by rw [HA.out]; rfl, put2_below B1.out (Nat.le_refl _) _ _⟩
            · rw [if_neg hlong] at EF
              have HA := hid (AY.out EF)
              clear EF
              have W4 := hid (W3'.out (AllD.app HB2.out.1 HB.out.1) (by simp [HB2.out.2]))
              go_wp2_with fail
              refine (W2'.out _).mono ?_
              rintro e w2 ⟨rfl, rfl⟩
              go_wp2_with fail
              refine (W1'.out _).mono ?_
              rintro e w2 ⟨rfl, rfl⟩
              go_wp2_with fail
              refine (W4.out _).mono ?_
              rintro e w3 ⟨rfl, hb3⟩
              have P3 := block_later P1.out hb3
              have B3 := hid (B1.out.trans (hb3.mono B1.out.size))
              have c0' : w3.cell? ⟨w.heap.size, 0, none⟩ = some (.string ⟨#[]⟩) := by rw [Lib.cell_of_heap P3]; rfl
              have c1' : w3.cell? ⟨w.heap.size, 1, none⟩ = some (.int .i64 0) := by rw [Lib.cell_of_heap P3]; rfl
              have f0' := Lib.frozen_of_heap P3 0
              have f1' := Lib.frozen_of_heap P3 1
              have HP3 := hid P3
              clear hb3 P3
              unfold numV numZ at HA
              go_wp2
              refine bodyPost_ret (results_pair rfl _ _ _ _ rfl (load_num (put2 HP3.out _ _))) rfl ?_
              exact ⟨by rw [HA.out]; rfl, put2_below B3.out (Nat.le_refl _) _ _⟩
      · have hx' : ¬ (((text l)[k]'hps).toNat : Int) = 46 := by
          have : ((text l)[k]'hps) = l[k] := rfl
          rw [this]
          intro e
          exact hx (UInt8.toNat_inj.1 (by have : (46 : UInt8).toNat = 46 := rfl; omega))
        have HN := hid (show k + 1 ≤ point l from by
          have h1 := HK.out
          refine Nat.lt_of_le_of_ne h1 fun e => hx ?_
          subst e
          exact point_at l hlt)
        clear hx
        go_wp2
        go_roundg (gk - 1)
        case rel => exact ⟨k + 1, by go_num, rfl, by omega, HN, rfl⟩
        case measure => omega
    · have hpk : point l = l.length := by have := HK.out; omega
      have HEE := hid (show pointed l = false by unfold pointed; rw [decide_eq_false_iff_not]; omega)
      have hb : part l = [] := by rw [HPT.out, hpk]; exact List.drop_eq_nil_of_le (by omega)
      have ha : whole l = l := by rw [HW.out, hpk]; exact List.take_of_length_le (Nat.le_refl _)
      have ex1 : (text l).extract 0 l.length = text (whole l) := by rw [ha]; have := text_zero l l.length; rw [List.take_of_length_le (Nat.le_refl _)] at this; exact this
      have E2 := hid (@readE_form1 l)
      have E4 := hid (@readE_fine l)
      have AN := hid (show ∀ e : Nat, readE l = e → e ≠ 0 → _ from fun e h h0 => @RReadA_no l e h h0)
      have AY := hid (@RReadA_yes l)
      rw [hb] at W3' AY E4
      have hal : (whole l).length = l.length := by rw [ha]
      clear l1 l2 HW HPT hb ha W2' hsum
      generalize whole l = a at *
      have z1 := text_size a
      simp only [List.append_nil, List.length_nil, Nat.add_zero] at W3' AY E4
      have hadd : text a ++ (⟨#[]⟩ : ByteArray) = text a := by rw [add_lit [] a #[] rfl, List.append_nil]
      obtain ⟨c, hc⟩ : ∃ c, canon a 0 = c := ⟨_, rfl⟩
      rw [hc] at W3' AY
      clear hc hpk
      unfold numV numZ at W3'
      cases hg : digs a
      · rw [hg] at W1'
        have HA := hid (AN.out 17 (E2.out HEE.out hg) (by omega))
        clear hg
        by_cases h0 : a = []
        · have q0 := list_yes h0
          have H0 := hid h0
          clear h0
          go_wp2_with fail
          refine (W1'.out _).mono ?_
          rintro e w2 ⟨rfl, rfl⟩
          go_wp2
          refine bodyPost_ret (results_pair rfl _ _ _ _ rfl (load_num (put2 P1.out _ _))) rfl ?_
          exact ⟨by rw [HA.out]; rfl, put2_below B1.out (Nat.le_refl _) _ _⟩
        · have q0 := list_no h0
          have H0 := hid h0
          clear h0
          go_wp2_with fail
          refine (W1'.out _).mono ?_
          rintro e w2 ⟨rfl, rfl⟩
          go_wp2
          refine bodyPost_ret (results_pair rfl _ _ _ _ rfl (load_num (put2 P1.out _ _))) rfl ?_
          exact ⟨by rw [HA.out]; rfl, put2_below B1.out (Nat.le_refl _) _ _⟩
      · have HG2 := hid hg
        have HB2 := hid ((digs_iff a).1 hg)
        rw [hg] at W1'
        clear hg
        have EF := E4.out (.inl ⟨HEE.out, HG2.out⟩)
        by_cases hlong : 1000 < a.length
        · rw [if_pos hlong] at EF
          have HA := hid (AN.out 19 EF (by omega))
          clear EF
          go_wp2_with fail
          refine (W1'.out _).mono ?_
          rintro e w2 ⟨rfl, rfl⟩
          go_wp2
          refine bodyPost_ret (results_pair rfl _ _ _ _ rfl (load_num (put2 P1.out _ _))) rfl ?_
          exact ⟨by rw [HA.out]; rfl, put2_below B1.out (Nat.le_refl _) _ _⟩
        · rw [if_neg hlong] at EF
          have HA := hid (AY.out EF)
          clear EF
          have W4 := hid (W3'.out HB2.out.1 HB2.out.2)
          go_wp2_with fail
          refine (W1'.out _).mono ?_
          rintro e w2 ⟨rfl, rfl⟩
          go_wp2_with fail
          refine (W4.out _).mono ?_
          rintro e w3 ⟨rfl, hb3⟩
          have P3 := block_later P1.out hb3
          have B3 := hid (B1.out.trans (hb3.mono B1.out.size))
          have c0' : w3.cell? ⟨w.heap.size, 0, none⟩ = some (.string ⟨#[]⟩) := by rw [Lib.cell_of_heap P3]; rfl
          have c1' : w3.cell? ⟨w.heap.size, 1, none⟩ = some (.int .i64 0) := by rw [Lib.cell_of_heap P3]; rfl
          have f0' := Lib.frozen_of_heap P3 0
          have f1' := Lib.frozen_of_heap P3 1
          have HP3 := hid P3
          clear hb3 P3
          unfold numV numZ at HA
          go_wp2
          refine bodyPost_ret (results_pair rfl _ _ _ _ rfl (load_num (put2 HP3.out _ _))) rfl ?_
          exact ⟨by rw [HA.out]; rfl, put2_below B3.out (Nat.le_refl _) _ _⟩
end Go.Proofs.YtjmfcgbelikcdaaDoor.Num
