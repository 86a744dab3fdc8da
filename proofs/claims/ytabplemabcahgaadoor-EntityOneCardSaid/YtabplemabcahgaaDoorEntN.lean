/- Layer 3: the walks of EntityBack and EntityOne. -/
import Derived.Test.YtabplemabcahgaaDoorEntM
set_option linter.unusedVariables false
set_option linter.unusedSimpArgs false
namespace Go.Proofs.YtabplemabcahgaaDoor.Ent
open Go Go.Proofs.YtabplemabcahgaaDoor Go.Proofs.YtabplemabcahgaaDoor.Utf Go.RowKit
set_option maxRecDepth 100000

set_option maxHeartbeats 1000000 in
theorem EntityBack_walk (s : ByteArray) (w : World) (hw : Fit w) :
    Calls Tryd.prog 5 #[.string s] w fun e w' => e = .returned (.bool true) ∧ Below w.heap.size w w' := by
  have HW := hid hw
  clear hw
  obtain ⟨l, rfl, hls⟩ := text_of s
  have s1 : (text l).size = l.length := text_size l
  clear hls
  by_cases hl : l.length ≤ 2000
  · have t1 := fun w => EscapeText_any l (by omega) w
    have t2 := fun w => EscapeValue_any l (by omega) w
    unfold escV at t1 t2
    by_cases hc : check l = l.length
    · rw [if_pos hc] at t1 t2
      have b1 := tell_esc false l hc
      have b2 := tell_esc true l hc
      have n1 := esc_len false l
      have n2 := esc_len true l
      generalize esc false l = x at *
      generalize esc true l = y at *
      have r1 := fun w hw => Text_eq x (by omega) _ _ _ b1 _ rfl w hw
      have r2 := fun w hw => Value_eq y (by omega) _ _ _ b2 _ rfl w hw
      have s2 : (text x).size = x.length := text_size x
      have s3 : (text y).size = y.length := text_size y
      have T1 := hid t1
      have T2 := hid t2
      have R1 := hid r1
      have R2 := hid r2
      clear t1 t2 r1 r2 hc b1 b2
      go_enter Tryd.func5, Tryd.ntmps5
      go_wp2_with fail
      refine (T1.out _).mono ?_
      rintro e w1 ⟨rfl, hb1⟩
      go_wp2_with fail
      refine (T2.out _).mono ?_
      rintro e w2 ⟨rfl, hb2⟩
      have HB2 := hid (bt hb1 hb2)
      clear hb1 hb2
      go_wp2_with fail
      refine (R1.out _ (HW.out.below HB2.out)).mono ?_
      rintro e w3 ⟨rfl, hb3⟩
      have HB3 := hid (bt HB2.out hb3)
      clear hb3 HB2
      go_wp2_with fail
      refine (R2.out _ (HW.out.below HB3.out)).mono ?_
      rintro e w4 ⟨rfl, hb4⟩
      have HB4 := hid (bt HB3.out hb4)
      clear hb4 HB3
      go_wp2_with fail
      refine (alive_any _ (HW.out.below HB4.out)).mono ?_
      rintro e w5 ⟨rfl, hb5⟩
      go_wp2
      go_ret
      exact ⟨rfl, bt HB4.out hb5⟩
    · rw [if_neg hc] at t1 t2
      have q0 := list_yes (show ([] : List UInt8) = [] from rfl)
      have hcl : ¬ (check l : Int) = (l.length : Int) := by omega
      have HBN := hid (show ((check l : Int) != (l.length : Int)) = true by rw [bne_iff_ne]; exact hcl)
      have T1 := hid t1
      have T2 := hid t2
      clear t1 t2 hc
      go_enter Tryd.func5, Tryd.ntmps5
      go_wp2_with fail
      refine (T1.out _).mono ?_
      rintro e w1 ⟨rfl, hb1⟩
      go_wp2_with fail
      refine (T2.out _).mono ?_
      rintro e w2 ⟨rfl, hb2⟩
      have HB2 := hid (bt hb1 hb2)
      clear hb1 hb2
      go_wp2_with fail
      refine (alive_any _ (HW.out.below HB2.out)).mono ?_
      rintro e w5 ⟨rfl, hb5⟩
      obtain ⟨vb, w6, hcv, hvb, hb6, _⟩ := conv_at (P := Tryd.prog) l (by omega) 9 34 5 under9 underB under8 w5
      have HB6 := hid (bt HB2.out (bt hb5 hb6))
      have HC := hid (RCheck_any vb l w6 (hvb w6 rfl))
      clear hb5 hb6 hvb
      go_wp2_with fail
      refine HC.out.mono ?_
      rintro e w7 ⟨rfl, hb7⟩
      go_wp2
      go_ret
      refine ⟨?_, bt HB6.out hb7⟩
      show Ending.returned (.bool ((check l : Int) != (l.length : Int))) = _
      rw [HBN.out]
  · go_enter Tryd.func5, Tryd.ntmps5
    go_wp2_with fail
    refine (alive_any _ HW.out).mono ?_
    rintro e w5 ⟨rfl, hb5⟩
    go_wp2
    go_ret
    exact ⟨rfl, hb5⟩

set_option maxHeartbeats 1000000 in
theorem EntityOne_walk (s : ByteArray) (w : World) (hw : Fit w) :
    Calls Tryd.prog 6 #[.string s] w fun e w' => e = .returned (.bool true) ∧ Below w.heap.size w w' := by
  have HW := hid hw
  clear hw
  obtain ⟨l, rfl, hls⟩ := text_of s
  have s1 : (text l).size = l.length := text_size l
  clear hls
  by_cases hl : l.length ≤ 2000
  · obtain ⟨x, n, k, h1⟩ : ∃ x n k, tell false l = (x, n, k) := ⟨_, _, _, rfl⟩
    have t1 := fun w hw => Text_eq l (by omega) x n k h1 _ rfl w hw
    have T1 := hid t1
    clear t1
    have f1 := tell_le false l
    have f4 := tell_short false l
    rw [h1] at f1 f4
    dsimp only at f1 f4
    by_cases hk : k = 0
    · have f2 := tell_right (v := false) (l := l) (by rw [h1]; exact hk)
      rw [h1] at f2
      dsimp only at f2
      have hcx := f2.2
      have t2 := fun w => EscapeText_any x (by omega) w
      unfold escV at t2
      rw [if_pos hcx] at t2
      have b1 := tell_esc false x hcx
      have n1 := esc_len false x
      generalize esc false x = y at *
      have r1 := fun w hw => Text_eq y (by omega) _ _ _ b1 _ rfl w hw
      have T2 := hid t2
      have R1 := hid r1
      subst hk
      clear t2 r1 b1 n1 hcx f2 h1
      go_enter Tryd.func6, Tryd.ntmps6
      go_wp2_with fail
      refine (T1.out _ HW.out).mono ?_
      rintro e w1 ⟨rfl, hb1⟩
      go_wp2_with fail
      refine (T2.out _).mono ?_
      rintro e w2 ⟨rfl, hb2⟩
      have HB2 := hid (bt hb1 hb2)
      clear hb1 hb2
      go_wp2_with fail
      refine (R1.out _ (HW.out.below HB2.out)).mono ?_
      rintro e w3 ⟨rfl, hb3⟩
      have HB3 := hid (bt HB2.out hb3)
      clear hb3 HB2
      go_wp2_with fail
      refine (T2.out _).mono ?_
      rintro e w4 ⟨rfl, hb4⟩
      have HB4 := hid (bt HB3.out hb4)
      clear hb4 HB3
      go_wp2_with fail
      refine (alive_any _ (HW.out.below HB4.out)).mono ?_
      rintro e w5 ⟨rfl, hb5⟩
      go_wp2
      go_ret
      exact ⟨rfl, bt HB4.out hb5⟩
    · have f3 := tell_none (v := false) (l := l) (by rw [h1]; exact hk)
      rw [h1] at f3
      dsimp only at f3
      subst f3
      have q0 := list_yes (show ([] : List UInt8) = [] from rfl)
      have hk1 : ((k : Int) != 0) = true := by rw [bne_iff_ne]; omega
      have hk2 : ¬ (k : Int) = 0 := by omega
      clear h1 hk f4
      go_enter Tryd.func6, Tryd.ntmps6
      go_wp2_with fail
      refine (T1.out _ HW.out).mono ?_
      rintro e w1 ⟨rfl, hb1⟩
      go_wp2_with fail
      refine (alive_any _ (HW.out.below hb1)).mono ?_
      rintro e w5 ⟨rfl, hb5⟩
      go_wp2
      go_ret
      exact ⟨rfl, bt hb1 hb5⟩
  · go_enter Tryd.func6, Tryd.ntmps6
    go_wp2_with fail
    refine (alive_any _ HW.out).mono ?_
    rintro e w5 ⟨rfl, hb5⟩
    go_wp2
    go_ret
    exact ⟨rfl, hb5⟩
end Go.Proofs.YtabplemabcahgaaDoor.Ent
