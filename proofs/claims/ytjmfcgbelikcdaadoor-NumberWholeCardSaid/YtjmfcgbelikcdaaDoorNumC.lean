/- Layer 7: contracts of check, and of the document's Check. -/
import Derived.Test.YtjmfcgbelikcdaaDoorNumA
set_option linter.unusedVariables false
set_option linter.unusedSimpArgs false
namespace Go.Proofs.YtjmfcgbelikcdaaDoor.Num
open Go Go.Proofs.YtjmfcgbelikcdaaDoor Go.RowKit
set_option maxRecDepth 100000

theorem checkE_form {d : List UInt8} {s : Int} (h : digs d = false) : checkE d s = 17 := by unfold checkE; rw [if_neg (by rw [h]; simp)]
theorem checkE_long {d : List UInt8} {s : Int} (h : digs d = true) (h1 : 1000 < d.length) : checkE d s = 19 := by unfold checkE; rw [if_pos h, if_pos h1]
theorem checkE_range {d : List UInt8} {s : Int} (h : digs d = true) (h1 : ¬ 1000 < d.length) (h2 : s < 0 ∨ 1000 < s) : checkE d s = 3 := by unfold checkE; rw [if_pos h, if_neg h1, if_pos h2]
theorem checkE_right {d : List UInt8} {s : Int} (h : digs d = true) (h1 : ¬ 1000 < d.length) (h2 : ¬ (s < 0 ∨ 1000 < s)) : checkE d s = 0 := by unfold checkE; rw [if_pos h, if_neg h1, if_neg h2]

set_option maxHeartbeats 1000000 in
theorem check_any (d : List UInt8) (s : Int) (hl : d.length ≤ 1000000000) (w : World) :
    Calls Tryd.prog 25 #[numZ d s] w fun e w' => e = .returned (errV (checkE d s)) ∧ Below w.heap.size w w' := by
  have s1 := text_size d
  have HD := hid (fun w => areDigits_any d hl w)
  cases hg : digs d
  · have HE := hid (checkE_form (s := s) hg)
    rw [hg] at HD
    clear hg
    unfold numZ
    go_enter Tryd.func25, Tryd.ntmps25
    go_wp2_with fail
    refine (HD.out _).mono ?_
    rintro e w1 ⟨rfl, rfl⟩
    go_wp2
    go_ret
    exact ⟨by rw [HE.out]; rfl, ba (b0 _) _⟩
  · rw [hg] at HD
    by_cases h1 : 1000 < d.length
    · have HE := hid (checkE_long (s := s) hg h1)
      clear hg
      unfold numZ
      go_enter Tryd.func25, Tryd.ntmps25
      go_wp2_with fail
      refine (HD.out _).mono ?_
      rintro e w1 ⟨rfl, rfl⟩
      go_wp2
      go_ret
      exact ⟨by rw [HE.out]; rfl, ba (b0 _) _⟩
    · by_cases h2 : s < 0 ∨ 1000 < s
      · have HE := hid (checkE_range hg h1 h2)
        clear hg
        by_cases h3 : s < 0
        · clear h2
          unfold numZ
          go_enter Tryd.func25, Tryd.ntmps25
          go_wp2_with fail
          refine (HD.out _).mono ?_
          rintro e w1 ⟨rfl, rfl⟩
          go_wp2
          go_ret
          exact ⟨by rw [HE.out]; rfl, ba (b0 _) _⟩
        · have h4 : 1000 < s := by omega
          clear h2
          unfold numZ
          go_enter Tryd.func25, Tryd.ntmps25
          go_wp2_with fail
          refine (HD.out _).mono ?_
          rintro e w1 ⟨rfl, rfl⟩
          go_wp2
          go_ret
          exact ⟨by rw [HE.out]; rfl, ba (b0 _) _⟩
      · have HE := hid (checkE_right hg h1 h2)
        have h3 : ¬ s < 0 := by omega
        have h4 : ¬ 1000 < s := by omega
        clear hg h2
        unfold numZ
        go_enter Tryd.func25, Tryd.ntmps25
        go_wp2_with fail
        refine (HD.out _).mono ?_
        rintro e w1 ⟨rfl, rfl⟩
        go_wp2
        go_ret
        exact ⟨by rw [HE.out]; rfl, ba (b0 _) _⟩

set_option maxHeartbeats 1000000 in
theorem Check_any (d : List UInt8) (s : Int) (hl : d.length ≤ 1000000000) (w : World) :
    Calls Tryd.prog 13 #[numZ d s] w fun e w' => e = .returned (.int .i64 (checkE d s)) ∧ Below w.heap.size w w' := by
  have s1 := text_size d
  have HD := hid (fun w => rdigits_any d hl w)
  cases hg : digs d
  · have HE := hid (checkE_form (s := s) hg)
    rw [hg] at HD
    clear hg
    unfold numZ
    go_enter Tryd.func13, Tryd.ntmps13
    go_wp2_with fail
    refine (HD.out _).mono ?_
    rintro e w1 ⟨rfl, rfl⟩
    go_wp2
    go_ret
    exact ⟨by rw [HE.out]; rfl, ba (b0 _) _⟩
  · rw [hg] at HD
    by_cases h1 : 1000 < d.length
    · have HE := hid (checkE_long (s := s) hg h1)
      clear hg
      unfold numZ
      go_enter Tryd.func13, Tryd.ntmps13
      go_wp2_with fail
      refine (HD.out _).mono ?_
      rintro e w1 ⟨rfl, rfl⟩
      go_wp2
      go_ret
      exact ⟨by rw [HE.out]; rfl, ba (b0 _) _⟩
    · by_cases h2 : s < 0 ∨ 1000 < s
      · have HE := hid (checkE_range hg h1 h2)
        clear hg
        by_cases h3 : s < 0
        · clear h2
          unfold numZ
          go_enter Tryd.func13, Tryd.ntmps13
          go_wp2_with fail
          refine (HD.out _).mono ?_
          rintro e w1 ⟨rfl, rfl⟩
          go_wp2
          go_ret
          exact ⟨by rw [HE.out]; rfl, ba (b0 _) _⟩
        · have h4 : 1000 < s := by omega
          clear h2
          unfold numZ
          go_enter Tryd.func13, Tryd.ntmps13
          go_wp2_with fail
          refine (HD.out _).mono ?_
          rintro e w1 ⟨rfl, rfl⟩
          go_wp2
          go_ret
          exact ⟨by rw [HE.out]; rfl, ba (b0 _) _⟩
      · have HE := hid (checkE_right hg h1 h2)
        have h3 : ¬ s < 0 := by omega
        have h4 : ¬ 1000 < s := by omega
        clear hg h2
        unfold numZ
        go_enter Tryd.func13, Tryd.ntmps13
        go_wp2_with fail
        refine (HD.out _).mono ?_
        rintro e w1 ⟨rfl, rfl⟩
        go_wp2
        go_ret
        exact ⟨by rw [HE.out]; rfl, ba (b0 _) _⟩
end Go.Proofs.YtjmfcgbelikcdaaDoor.Num
