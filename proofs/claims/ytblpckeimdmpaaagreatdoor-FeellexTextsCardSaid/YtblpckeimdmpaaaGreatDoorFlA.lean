/- Layer 8: contracts of the document's own answers: digit, number. -/
import Derived.Test.YtblpckeimdmpaaaGreatDoorFlX
import Derived.Test.YtblpckeimdmpaaaGreatDoorUtfG
set_option linter.unusedVariables false
set_option linter.unusedSimpArgs false
namespace Go.Proofs.YtblpckeimdmpaaaGreatDoor.Fl
open Go Go.Proofs.YtblpckeimdmpaaaGreatDoor Go.Proofs.YtblpckeimdmpaaaGreatDoor.Utf Go.Proofs.YtblpckeimdmpaaaGreatDoor.Names Go.RowKit
set_option maxRecDepth 100000

/-- Is the byte at a place a digit? -/
def digB (l : List UInt8) (i : Nat) : Bool := match l[i]? with | some b => isd b | none => false
theorem digB_in {l : List UInt8} {i : Nat} (h : i < l.length) : digB l i = isd l[i] := by unfold digB; rw [List.getElem?_eq_getElem h]
theorem digB_out {l : List UInt8} {i : Nat} (h : l.length ≤ i) : digB l i = false := by unfold digB; rw [List.getElem?_eq_none h]
theorem digB_many (l : List UInt8) (i j : Nat) (h : j < digN (l.drop i)) : digB l (i + j) = true := by
  have h1 := digN_le (l.drop i)
  rw [List.length_drop] at h1
  have := digN_digit (l.drop i) j (by rw [List.length_drop]; omega) h
  rw [List.getElem_drop] at this
  rw [digB_in (by omega)]; exact this
theorem digB_stop (l : List UInt8) (i : Nat) : digB l (i + digN (l.drop i)) = false := by
  by_cases h : digN (l.drop i) < (l.drop i).length
  · have := digN_stop h
    rw [List.getElem_drop] at this
    rw [List.length_drop] at h
    rw [digB_in (by omega)]; exact this
  · rw [List.length_drop] at h
    exact digB_out (by omega)
theorem dotted_at {l : List UInt8} {k : Nat} (h : k < l.length) : dotted (l.drop k) = ((l[k] == 46) && digB l (k + 1)) := by
  rw [List.drop_eq_getElem_cons h]
  by_cases h2 : k + 1 < l.length
  · rw [List.drop_eq_getElem_cons h2, digB_in h2]; rfl
  · rw [List.drop_eq_nil_of_le (by omega), digB_out (by omega), Bool.and_false]; rfl

set_option maxHeartbeats 1000000 in
theorem digit_any (l : List UInt8) (i : Nat) (w : World) :
    Calls Tryz.prog 22 #[.string (text l), .int .i64 i] w fun e w' => e = .returned (.bool (digB l i)) ∧ w = w' := by
  have s1 := text_size l
  rcases Nat.lt_or_ge i l.length with h | h
  · rw [digB_in h]
    have hx : i < (text l).size := by omega
    by_cases c1 : 48 ≤ ((text l)[i]'hx).toNat
    · by_cases c2 : ((text l)[i]'hx).toNat ≤ 57
      · rw [show isd l[i] = true from decide_eq_true ⟨c1, c2⟩]
        have d1 : (48 : Int) ≤ (((text l)[i]'hx).toNat : Int) := by omega
        have d2 : (((text l)[i]'hx).toNat : Int) ≤ 57 := by omega
        go_enter Tryz.func22, Tryz.ntmps22
        go_wp2
        all_goals go_ret
        all_goals exact ⟨rfl, rfl⟩
      · rw [show isd l[i] = false from decide_eq_false (fun x => c2 x.2)]
        have d1 : (48 : Int) ≤ (((text l)[i]'hx).toNat : Int) := by omega
        have d2 : ¬ (((text l)[i]'hx).toNat : Int) ≤ 57 := by omega
        go_enter Tryz.func22, Tryz.ntmps22
        go_wp2
        all_goals go_ret
        all_goals exact ⟨rfl, rfl⟩
    · rw [show isd l[i] = false from decide_eq_false (fun x => c1 x.1)]
      have d1 : ¬ (48 : Int) ≤ (((text l)[i]'hx).toNat : Int) := by omega
      go_enter Tryz.func22, Tryz.ntmps22
      go_wp2
      all_goals go_ret
      all_goals exact ⟨rfl, rfl⟩
  · rw [digB_out h]
    have d1 : ¬ (i : Int) < (l.length : Int) := by omega
    have d2 : ¬ i < l.length := by omega
    clear h
    go_enter Tryz.func22, Tryz.ntmps22
    go_wp2
    all_goals go_ret
    all_goals exact ⟨rfl, rfl⟩

set_option maxHeartbeats 2000000 in
theorem number_any (l : List UInt8) (i : Nat) (hl : l.length ≤ 1000000000) (hi : i ≤ l.length) (w : World) :
    Calls Tryz.prog 23 #[.string (text l), .int .i64 i] w fun e w' => e = .returned (.int .i64 (numN (l.drop i))) ∧ w = w' := by
  have s1 := text_size l
  have hV : numN (l.drop i) = if dotted (l.drop (i + digN (l.drop i))) = true then digN (l.drop i) + 1 + digN (l.drop (i + digN (l.drop i) + 1)) else digN (l.drop i) := by
    unfold numN; rw [List.drop_drop, List.drop_drop]; rfl
  have hY := digB_many l i
  have hN := digB_stop l i
  have hdl := digN_le (l.drop i)
  rw [List.length_drop] at hdl
  generalize digN (l.drop i) = d at *
  generalize numN (l.drop i) = r at *
  have HV := hid hV
  have HY := hid hY
  have HN := hid hN
  clear hV hY hN
  go_enter Tryz.func23, Tryz.ntmps23
  go_wp2_with fail
  go_loop [5] (fun x => ∃ j : Nat, j ≤ d ∧ x = .int .i64 ((i + j : Nat) : Int)) (fun x => i + d - (intOf x).toNat)
  case atStart => exact ⟨0, Nat.zero_le _, rfl⟩
  case round =>
    obtain ⟨j, hj, rfl⟩ := hrel
    have hD := hid (fun W => digit_any l (i + j) W)
    by_cases c : j < d
    · have HT := hid (HY.out j c)
      have hk : i + (j + 1) = i + j + 1 := by omega
      generalize i + j = k at *
      go_wp2_with fail
      refine (hD.out _).mono ?_
      rintro e w1 ⟨rfl, rfl⟩
      rw [HT.out]
      go_wp2
      go_round
      case rel => exact ⟨j + 1, by omega, by rw [hk]; go_num⟩
      case measure => simp [intOf]; omega
    · have hjd : j = d := by omega
      subst hjd
      have hkl : i + j ≤ l.length := by omega
      have hki : i ≤ i + j := by omega
      have hkv : ((i + j : Nat) : Int) - (i : Int) = (j : Int) := by omega
      generalize i + j = k at *
      clear c hj
      rcases Nat.lt_or_ge k l.length with hlt | hge
      · have hdot := dotted_at hlt
        have hx : k < (text l).size := by omega
        by_cases h46 : l[k] = 46
        · have hd2 := hid (fun W => digit_any l (k + 1) W)
          have e46 : (((text l)[k]'hx).toNat : Int) = 46 := by
            have : ((text l)[k]'hx) = l[k] := rfl
            rw [this, h46]; rfl
          rw [show (l[k] == 46) = true from beq_iff_eq.2 h46, Bool.true_and] at hdot
          clear h46
          cases hb : digB l (k + 1) with
          | false =>
            have HR := hid (show r = j by rw [HV.out, hdot, hb, if_neg (by simp)])
            have HB := hid hb
            clear hdot hb
            go_wp2_with fail
            refine (hD.out _).mono ?_
            rintro e w1 ⟨rfl, rfl⟩
            rw [HN.out]
            go_wp2_with fail
            refine (hd2.out _).mono ?_
            rintro e w1 ⟨rfl, rfl⟩
            rw [HB.out]
            go_wp2
            go_ret
            exact ⟨by rw [HR.out]; go_num, rfl⟩
          | true =>
            have hR : r = j + 1 + digN (l.drop (k + 1)) := by rw [HV.out, hdot, hb, if_pos rfl]
            have hY2 := digB_many l (k + 1)
            have hN2 := digB_stop l (k + 1)
            have hdl2 := digN_le (l.drop (k + 1))
            rw [List.length_drop] at hdl2
            generalize digN (l.drop (k + 1)) = d2 at *
            have HR := hid hR
            have HB := hid hb
            have HY2 := hid hY2
            have HN2 := hid hN2
            clear hdot hb hR hY2 hN2
            go_wp2_with fail
            refine (hD.out _).mono ?_
            rintro e w1 ⟨rfl, rfl⟩
            rw [HN.out]
            go_wp2_with fail
            refine (hd2.out _).mono ?_
            rintro e w1 ⟨rfl, rfl⟩
            rw [HB.out]
            go_wp2_with fail
            go_loop [5] (fun x => ∃ m : Nat, m ≤ d2 ∧ x = .int .i64 ((k + 1 + m : Nat) : Int)) (fun x => k + 1 + d2 - (intOf x).toNat)
            case atStart => exact ⟨0, Nat.zero_le _, by go_num⟩
            case round =>
              obtain ⟨m, hm, rfl⟩ := hrel
              have hD3 := hid (fun W => digit_any l (k + 1 + m) W)
              by_cases c3 : m < d2
              · have HT := hid (HY2.out m c3)
                have hk3 : k + 1 + (m + 1) = k + 1 + m + 1 := by omega
                have hb3 : k + 1 + m ≤ l.length := by omega
                generalize k + 1 + m = q at *
                go_wp2_with fail
                refine (hD3.out _).mono ?_
                rintro e w1 ⟨rfl, rfl⟩
                rw [HT.out]
                go_wp2
                go_round
                case rel => exact ⟨m + 1, by omega, by rw [hk3]; go_num⟩
                case measure => simp [intOf]; omega
              · have hmd : m = d2 := by omega
                subst hmd
                have hq : ((k + 1 + m : Nat) : Int) - (i : Int) = ((j + 1 + m : Nat) : Int) := by omega
                have hb3 : k + 1 + m ≤ l.length := by omega
                generalize k + 1 + m = q at *
                go_wp2_with fail
                refine (hD3.out _).mono ?_
                rintro e w1 ⟨rfl, rfl⟩
                rw [HN2.out]
                go_wp2
                go_ret
                exact ⟨by rw [HR.out]; go_num, rfl⟩
        · have e46 : ¬ (((text l)[k]'hx).toNat : Int) = 46 := by
            intro e
            have : ((text l)[k]'hx) = l[k] := rfl
            rw [this] at e
            exact h46 (UInt8.toNat_inj.1 (by have : (46 : UInt8).toNat = 46 := rfl; omega))
          rw [show (l[k] == 46) = false from beq_eq_false_iff_ne.2 h46, Bool.false_and] at hdot
          have HR := hid (show r = j by rw [HV.out, hdot, if_neg (by simp)])
          clear h46 hdot
          go_wp2_with fail
          refine (hD.out _).mono ?_
          rintro e w1 ⟨rfl, rfl⟩
          rw [HN.out]
          go_wp2
          go_ret
          exact ⟨by rw [HR.out]; go_num, rfl⟩
      · have HR := hid (show r = j by rw [HV.out, List.drop_eq_nil_of_le hge]; rfl)
        have hge' : ¬ (k : Int) < (l.length : Int) := by omega
        have hge2 : ¬ k < l.length := by omega
        clear hge
        go_wp2_with fail
        refine (hD.out _).mono ?_
        rintro e w1 ⟨rfl, rfl⟩
        rw [HN.out]
        go_wp2
        go_ret
        exact ⟨by rw [HR.out]; go_num, rfl⟩
end Go.Proofs.YtblpckeimdmpaaaGreatDoor.Fl
