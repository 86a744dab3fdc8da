/- Layer 1: the walk of the statement UtfRunes. -/
import Derived.Test.YtceabdoeffahmaaDoorUtfH
set_option linter.unusedVariables false
set_option linter.unusedSimpArgs false
namespace Go.Proofs.YtceabdoeffahmaaDoor.Utf
open Go Go.Proofs.YtceabdoeffahmaaDoor Go.RowKit
set_option maxRecDepth 100000

theorem check_cases (l : List UInt8) : (((check l : Int) == (l.length : Int)) = true ∧ checkE l = 0) ∨ (((check l : Int) == (l.length : Int)) = false ∧ checkE l = 4) := by
  by_cases h : check l = l.length
  · exact .inl ⟨by rw [beq_iff_eq]; omega, checkE_ok h⟩
  · exact .inr ⟨by rw [beq_eq_false_iff_ne]; omega, checkE_no h⟩

set_option maxHeartbeats 2000000 in
theorem UtfRunes_walk (v : Value) (l : List UInt8) (i : Int) (w : World) (hT : Tabs w) (hv : Bytes w v l) :
    Calls Tryd.prog 3 #[v, .int .i64 i] w fun e w' => e = .returned (.bool true) ∧ Below w.heap.size w w' := by
  have hlen := fun W => hv.len (P := Tryd.prog) 22 3 5 underB W
  have hle := hv.le
  have HV := hid hv
  have HT := hid hT
  rcases check_cases l with ⟨hc, hE⟩ | ⟨hc, hE⟩
  all_goals
    have HE := hid hE
    have HC := hid hc
    clear hE
    generalize hck : check l = ck at *
    have HCK := hid hck
    clear hck
    by_cases hi : i < 0
    · have hr : runeR l i = (0, 0, 3) := by unfold runeR; rw [if_pos (.inl hi)]
      have HR := hid (Rune_eq v l i w hT hv 0 0 3 hr)
      clear hr hv hT
      go_enter Tryd.func3, Tryd.ntmps3
      go_wp2_with fail
      refine HR.out.mono ?_
      rintro e w1 ⟨rfl, hb1⟩
      go_wp2_with fail
      refine (Check_eq v l _ (HV.out.below hb1 (Nat.le_refl _)) ck _ HCK.out HE.out).mono ?_
      rintro e w2 ⟨rfl, hb2⟩
      go_wp2_with fail
      refine (RCheck_any v l _ (HV.out.below (bt hb1 hb2) (Nat.le_refl _))).mono ?_
      rw [HCK.out]
      rintro e w3 ⟨rfl, hb3⟩
      go_wp2_with fail
      refine (alive_any _ (HT.out.below (bt (bt hb1 hb2) hb3) (Nat.le_refl _))).mono ?_
      rintro e w4 ⟨rfl, hb4⟩
      go_wp2_with fail
      go_ret
      exact ⟨rfl, bt (bt (bt hb1 hb2) hb3) hb4⟩
    · by_cases hi2 : (l.length : Int) ≤ i
      · have hr : runeR l i = (0, 0, 3) := by unfold runeR; rw [if_pos (.inr hi2)]
        have HR := hid (Rune_eq v l i w hT hv 0 0 3 hr)
        clear hr hv hT
        go_enter Tryd.func3, Tryd.ntmps3
        go_wp2_with fail
        refine HR.out.mono ?_
        rintro e w1 ⟨rfl, hb1⟩
        go_wp2_with fail
        refine (Check_eq v l _ (HV.out.below hb1 (Nat.le_refl _)) ck _ HCK.out HE.out).mono ?_
        rintro e w2 ⟨rfl, hb2⟩
        go_wp2_with fail
        refine (RCheck_any v l _ (HV.out.below (bt hb1 hb2) (Nat.le_refl _))).mono ?_
        rw [HCK.out]
        rintro e w3 ⟨rfl, hb3⟩
        go_wp2_with fail
        refine (alive_any _ (HT.out.below (bt (bt hb1 hb2) hb3) (Nat.le_refl _))).mono ?_
        rintro e w4 ⟨rfl, hb4⟩
        go_wp2_with fail
        go_ret
        exact ⟨rfl, bt (bt (bt hb1 hb2) hb3) hb4⟩
      · obtain ⟨k, rfl⟩ := Int.eq_ofNat_of_zero_le (by omega : 0 ≤ i)
        obtain ⟨c, n, hcn⟩ : ∃ c n, rune (l.drop k) = (c, n) := ⟨_, _, rfl⟩
        have hr : (n = 0 ∧ c = 0 ∧ runeR l k = (0, 0, 4)) ∨ (0 < n ∧ runeR l k = (c, n, 0)) := by
          unfold runeR
          rw [if_neg (by omega), Int.toNat_natCast, hcn]
          by_cases hn : n = 0
          · subst hn
            have := rune_none (l := l.drop k) (by rw [hcn])
            rw [hcn] at this
            cases this
            exact .inl ⟨rfl, rfl, rfl⟩
          · exact .inr ⟨by omega, by simp [hn]⟩
        have hnl := (rune_le (l.drop k)).2
        rw [hcn] at hnl
        obtain ⟨v', _, a2, _, hv'⟩ := hv.sub k l.length (by omega) (by omega) 22 5 underB size8
        have a3 := a2 rfl
        rw [List.take_of_length_le (by simp)] at hv'
        have HR2 := hid (fun W h => by have := RRune_any v' (l.drop k) W h; rw [hcn] at this; exact this : ∀ W, Bytes W v' (l.drop k) → Calls Tryd.prog 13 #[v'] W fun e w' => e = .returned (.tuple #[.int .i64 (c : Int), .int .i64 (n : Int)]) ∧ Below W.heap.size W w')
        have HV2 := hid hv'
        rcases hr with ⟨rfl, rfl, hr⟩ | ⟨hn, hr⟩
        all_goals
          have HR := hid (Rune_eq v l k w hT hv _ _ _ hr)
          clear hr hv hT hv' a2 hcn
          go_enter Tryd.func3, Tryd.ntmps3
          go_wp2_with fail
          refine HR.out.mono ?_
          rintro e w1 ⟨rfl, hb1⟩
          go_wp2_with fail
          refine (Check_eq v l _ (HV.out.below hb1 (Nat.le_refl _)) ck _ HCK.out HE.out).mono ?_
          rintro e w2 ⟨rfl, hb2⟩
          go_wp2_with fail
          refine (RCheck_any v l _ (HV.out.below (bt hb1 hb2) (Nat.le_refl _))).mono ?_
          rw [HCK.out]
          rintro e w3 ⟨rfl, hb3⟩
          go_wp2_with fail
          refine (HR2.out _ (HV2.out.below (bt (bt hb1 hb2) hb3) (Nat.le_refl _))).mono ?_
          rintro e w4 ⟨rfl, hb4⟩
          go_wp2_with fail
          refine (alive_any _ (HT.out.below (bt (bt (bt hb1 hb2) hb3) hb4) (Nat.le_refl _))).mono ?_
          rintro e w5 ⟨rfl, hb5⟩
          go_wp2_with fail
          go_ret
          exact ⟨rfl, bt (bt (bt (bt hb1 hb2) hb3) hb4) hb5⟩

end Go.Proofs.YtceabdoeffahmaaDoor.Utf
