/- Layer 1: the walks of the statements UtfChars and UtfRunes. -/
import Derived.Test.YtceabdoeffahmaaDoorUtfH
import Derived.Deep.RegionWith
set_option linter.unusedVariables false
set_option linter.unusedSimpArgs false
namespace Go.Proofs.YtceabdoeffahmaaDoor.Utf
open Go Go.Proofs.YtceabdoeffahmaaDoor Go.RowKit
set_option maxRecDepth 100000

set_option maxHeartbeats 2000000 in
theorem UtfChars_walk (c : Int) (w : World) (hT : Tabs w) :
    Calls Tryd.prog 4 #[.int .i64 c] w fun e w' => e = .returned (.bool true) ∧ Below w.heap.size w w' := by
  cases hf : fine c
  · have hP := fun W => Put_no c hf W
    have hF := fun W => Fine_any c W
    have hG := fun W => RFine_any c W
    rw [hf] at hF hG
    have HP := hid hP
    have HF := hid hF
    have HG := hid hG
    clear hP hF hG hf
    go_enter Tryd.func4, Tryd.ntmps4
    go_wp2_with (first
      | (go_at_call 14; refine (HP.out _).mono ?_; rintro e w' ⟨rfl, rfl⟩)
      | (go_at_call 15; refine (HG.out _).mono ?_; rintro e w' ⟨rfl, rfl⟩)
      | (go_at_call 16; refine (HF.out _).mono ?_; rintro e w' ⟨rfl, rfl⟩)
      | (go_at_call 12; refine (alive_any _ (by assumption)).mono ?_; rintro e w' ⟨rfl, hb⟩)
      | (go_at_call 17; refine (Space_any _ _).mono ?_; rintro e w' ⟨rfl, rfl⟩)
      | (go_at_call 18; refine (RSpace_any _ _).mono ?_; rintro e w' ⟨rfl, rfl⟩)
      | (go_at_call 19; refine (First_any _ _).mono ?_; rintro e w' ⟨rfl, rfl⟩)
      | (go_at_call 20; refine (RFirst_any _ _).mono ?_; rintro e w' ⟨rfl, rfl⟩)
      | (go_at_call 21; refine (Next_any _ _).mono ?_; rintro e w' ⟨rfl, rfl⟩)
      | (go_at_call 22; refine (RNext_any _ _).mono ?_; rintro e w' ⟨rfl, rfl⟩)
      | (go_at_call 23; refine (Start_any _ _).mono ?_; rintro e w' ⟨rfl, rfl⟩)
      | (go_at_call 24; refine (Part_any _ _).mono ?_; rintro e w' ⟨rfl, rfl⟩)
      | (go_at_call 25; refine (RPart_any _ _).mono ?_; rintro e w' ⟨rfl, rfl⟩))
    go_ret
    exact ⟨rfl, by assumption⟩
  · have hP := fun W => Put_yes c hf W
    have hQ := fun W => RPut_any c hf W
    have hF := fun W => Fine_any c W
    have hG := fun W => RFine_any c W
    rw [hf] at hF hG
    have hn := enc_len c
    have HP := hid hP
    have HQ := hid hQ
    have HF := hid hF
    have HG := hid hG
    have HT := hid hT
    clear hP hQ hF hG hf hT
    generalize enc c = l at *
    go_enter Tryd.func4, Tryd.ntmps4
    go_wp2_with fail
    refine (HP.out _).mono ?_
    rintro e w1 ⟨v1, rfl, hown, hb1⟩
    have hv1 := Bytes.ofOwns hown (by omega)
    have hT1 := HT.out.below hb1 (Nat.le_refl _)
    have HV := hid hv1
    have HT1 := hid hT1
    clear hown hv1 hT1
    go_wp2_with (first
      | (go_at_call 15; refine (HG.out _).mono ?_; rintro e w' ⟨rfl, rfl⟩)
      | (go_at_call 16; refine (HF.out _).mono ?_; rintro e w' ⟨rfl, rfl⟩)
      | (go_at_call 14; fail))
    refine (alive_any _ HT1.out).mono ?_
    rintro e w2 ⟨rfl, hb2⟩
    go_wp2_with (first
      | (go_at_call 15; refine (HG.out _).mono ?_; rintro e w' ⟨rfl, rfl⟩)
      | (go_at_call 16; refine (HF.out _).mono ?_; rintro e w' ⟨rfl, rfl⟩)
      | (go_at_call 17; refine (Space_any _ _).mono ?_; rintro e w' ⟨rfl, rfl⟩)
      | (go_at_call 18; refine (RSpace_any _ _).mono ?_; rintro e w' ⟨rfl, rfl⟩)
      | (go_at_call 19; refine (First_any _ _).mono ?_; rintro e w' ⟨rfl, rfl⟩)
      | (go_at_call 20; refine (RFirst_any _ _).mono ?_; rintro e w' ⟨rfl, rfl⟩)
      | (go_at_call 21; refine (Next_any _ _).mono ?_; rintro e w' ⟨rfl, rfl⟩)
      | (go_at_call 22; refine (RNext_any _ _).mono ?_; rintro e w' ⟨rfl, rfl⟩)
      | (go_at_call 23; refine (Start_any _ _).mono ?_; rintro e w' ⟨rfl, rfl⟩)
      | (go_at_call 24; refine (Part_any _ _).mono ?_; rintro e w' ⟨rfl, rfl⟩)
      | (go_at_call 25; refine (RPart_any _ _).mono ?_; rintro e w' ⟨rfl, rfl⟩)
      | (go_at_call 26; fail))
    have hB2 : Bytes w2.drew v1 l := (HV.out.below hb2 (Nat.le_refl _)).drew
    have hcv : ∀ v W', Bytes W' v l → (convert 22 9 v).run Tryd.prog W' = .ok (.string (text l)) W' := fun v W' h => h.conv 22 9 5 underB under8 under9
    go_region_with (go_at_call 26; refine (HQ.out _).mono ?_; rintro e w3 ⟨v2, rfl, hv2, hb3⟩; have hB3 : Bytes w3 v1 l := hB2.below hb3 (Nat.le_refl _))
    all_goals go_wp2
    all_goals go_ret
    all_goals refine ⟨?_, bt (bt hb1 hb2).drew hb3⟩
    all_goals first | rfl | (simp; done)

end Go.Proofs.YtceabdoeffahmaaDoor.Utf
