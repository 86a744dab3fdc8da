/- Layer 7: the document's examples, and the walk of NumberReads. -/
import Derived.Test.YtjmfcgbelikcdaaDoorNumG
import Derived.Test.YtjmfcgbelikcdaaDoorNumI
import Derived.Test.YtjmfcgbelikcdaaDoorNumN
set_option linter.unusedVariables false
set_option linter.unusedSimpArgs false
namespace Go.Proofs.YtjmfcgbelikcdaaDoor.Num
open Go Go.Proofs.YtjmfcgbelikcdaaDoor Go.RowKit
set_option maxRecDepth 100000

theorem Read_lit1 (w : World) (hw : Fit w) :
    Calls Tryd.prog 9 #[.string ⟨#[48, 48, 55, 46, 53, 48]⟩] w fun e w' => e = .returned (.tuple #[.agg #[.string ⟨#[55, 53]⟩, .int .i64 1], .int .i64 0]) ∧ Below w.heap.size w w' := by
  have h := Read_any [48, 48, 55, 46, 53, 48] (by decide) w hw
  have e1 : readV [48, 48, 55, 46, 53, 48] = ([55, 53], 1) := by decide +kernel
  have e2 : readE [48, 48, 55, 46, 53, 48] = 0 := by decide +kernel
  unfold ReadA at h
  rw [e1, e2] at h
  exact h
theorem Read_lit2 (w : World) (hw : Fit w) :
    Calls Tryd.prog 9 #[.string ⟨#[49, 46]⟩] w fun e w' => e = .returned (.tuple #[.agg #[.string ⟨#[]⟩, .int .i64 0], .int .i64 17]) ∧ Below w.heap.size w w' := by
  have h := Read_any [49, 46] (by decide) w hw
  have e1 : readV [49, 46] = ([], 0) := by decide +kernel
  have e2 : readE [49, 46] = 17 := by decide +kernel
  unfold ReadA at h
  rw [e1, e2] at h
  exact h
theorem Text_lit (w : World) (hw : Fit w) :
    Calls Tryd.prog 12 #[.agg #[.string ⟨#[55, 53]⟩, .int .i64 1]] w fun e w' => e = .returned (.tuple #[.string ⟨#[55, 46, 53]⟩, .int .i64 0]) ∧ Below w.heap.size w w' := by
  have h := Text_any [55, 53] 1 (by decide) w hw
  have e1 : checkE [55, 53] 1 = 0 := by decide +kernel
  have e2 : textV (canon [55, 53] 1) = [55, 46, 53] := by decide +kernel
  unfold TextA at h
  rw [if_pos e1, e1, show (1 : Int).toNat = 1 from rfl, e2] at h
  exact h
theorem one_is : IsC ([49], 0) := ⟨by intro b hb; simp at hb; subst hb; decide, by simp, .inr ⟨by decide, .inl rfl⟩⟩
theorem one_N' (K : Nat) (hK : 2 ≤ K) : val [49] * 10 ^ (K - 0) = val [55, 53] * 10 ^ (K - 2) + val [50, 53] * 10 ^ (K - 2) := by
  obtain ⟨M, rfl⟩ : ∃ M, K = M + 2 := ⟨K - 2, by omega⟩
  rw [Nat.sub_zero, Nat.add_sub_cancel, Nat.pow_add]
  generalize 10 ^ M = T
  simp [val]
  omega
theorem N_def (l : List UInt8) (s : Nat) : N (l, s) = val l * 10 ^ (1000 - s) := rfl
theorem one_N : N ([49], 0) = N ([55, 53], 2) + N ([50, 53], 2) := by
  rw [N_def, N_def, N_def]
  exact one_N' 1000 (by omega)
theorem Add_lit (w : World) (hw : Fit w) :
    Calls Tryd.prog 18 #[.agg #[.string ⟨#[55, 53]⟩, .int .i64 2], .agg #[.string ⟨#[50, 53]⟩, .int .i64 2]] w fun e w' => e = .returned (.tuple #[.agg #[.string ⟨#[49]⟩, .int .i64 0], .int .i64 0]) ∧ Below w.heap.size w w' := by
  have e1 : bothE [55, 53] 2 [50, 53] 2 = 0 := by decide +kernel
  refine (Add_any [55, 53] 2 [50, 53] 2 (by decide) (by decide) w hw).mono ?_
  rintro e w' ⟨⟨p, hp, rfl⟩, hb⟩
  have hs := hp e1
  rw [show (2 : Int).toNat = 2 from rfl] at hs
  have : p = ([49], 0) := hs.same one_is (by omega) one_N
  subst this
  rw [e1]
  exact ⟨rfl, hb⟩

set_option maxHeartbeats 2000000 in
theorem alive_any (w : World) (hw : Fit w) :
    Calls Tryd.prog 8 #[] w fun e w' => e = .returned (.bool true) ∧ Below w.heap.size w w' := by
  have R1 := hid (fun X (hb : Below w.heap.size w X) => Read_lit1 X (hw.at hb))
  have R2 := hid (fun X (hb : Below w.heap.size w X) => Read_lit2 X (hw.at hb))
  have T1 := hid (fun X (hb : Below w.heap.size w X) => Text_lit X (hw.at hb))
  have A1 := hid (fun X (hb : Below w.heap.size w X) => Add_lit X (hw.at hb))
  clear hw
  go_enter Tryd.func8, Tryd.ntmps8
  go_wp2_with fail
  refine (R1.out _ (b0 _)).mono ?_
  rintro ev w1 ⟨rfl, hb1⟩
  have N1 := hid (heap_alloc_new w1 (.cells #[.string ⟨#[55, 53]⟩, .int .i64 1] 24))
  have B1 := hid (ba hb1 (.cells #[.string ⟨#[55, 53]⟩, .int .i64 1] 24))
  clear hb1
  go_wp2_with fail
  refine (T1.out _ B1.out).mono ?_
  rintro ev w2 ⟨rfl, hb2⟩
  have N2 := hid (block_later N1.out hb2)
  have B2 := hid (B1.out.trans (hb2.mono B1.out.size))
  clear hb2
  go_wp2_with fail
  refine (R2.out _ B2.out).mono ?_
  rintro ev w3 ⟨rfl, hb3⟩
  have N3 := hid (heap_alloc_old (o' := .cells #[.string ⟨#[]⟩, .int .i64 0] 24) (block_later N2.out hb3))
  have B3 := hid (ba (B2.out.trans (hb3.mono B2.out.size)) (.cells #[.string ⟨#[]⟩, .int .i64 0] 24))
  clear hb3
  go_wp2_with fail
  refine (A1.out _ B3.out).mono ?_
  rintro ev w4 ⟨rfl, hb4⟩
  have n4 := heap_alloc_old (o' := .cells #[.string ⟨#[49]⟩, .int .i64 0] 24) (block_later N3.out hb4)
  have B4 := hid (ba (B3.out.trans (hb4.mono B3.out.size)) (.cells #[.string ⟨#[49]⟩, .int .i64 0] 24))
  have c0 : (w4.alloc (.cells #[.string ⟨#[49]⟩, .int .i64 0] 24)).cell? ⟨w1.heap.size, 0, none⟩ = some (.string ⟨#[55, 53]⟩) := by rw [Lib.cell_of_heap n4]; rfl
  have c1 : (w4.alloc (.cells #[.string ⟨#[49]⟩, .int .i64 0] 24)).cell? ⟨w1.heap.size, 1, none⟩ = some (.int .i64 1) := by rw [Lib.cell_of_heap n4]; rfl
  clear hb4 n4
  go_wp2
  go_ret
  exact ⟨rfl, B4.out⟩

set_option maxHeartbeats 2000000 in
theorem NumberReads_walk (l : List UInt8) (hl : l.length ≤ 140737488351232) (w : World) (hw : Fit w) :
    Calls Tryd.prog 3 #[.string (text l)] w fun e w' => e = .returned (.bool true) ∧ Below w.heap.size w w' := by
  have z1 := text_size l
  have HAL := hid (fun X (hb : Below w.heap.size w X) => alive_any X (hw.at hb))
  by_cases hg : 3000 < l.length
  · clear hw
    go_enter Tryd.func3, Tryd.ntmps3
    go_wp2_with fail
    refine (HAL.out _ (b0 _)).mono ?_
    rintro ev w1 ⟨rfl, hb1⟩
    go_wp2
    go_ret
    exact ⟨rfl, hb1⟩
  · have HR := hid (Read_any l (by omega) w hw)
    have HRR := hid (fun X => RRead_any l (by omega) X)
    clear hw
    unfold ReadA at HR
    unfold RReadA at HRR
    generalize readV l = v at *
    generalize readE l = n at *
    obtain ⟨d, s⟩ := v
    unfold numV numZ at *
    go_enter Tryd.func3, Tryd.ntmps3
    go_wp2_with fail
    refine HR.out.mono ?_
    rintro ev w1 ⟨rfl, hb1⟩
    have N1 := hid (heap_alloc_new w1 (.cells #[.string (text d), .int .i64 s] 24))
    have B1 := hid (ba hb1 (.cells #[.string (text d), .int .i64 s] 24))
    clear hb1
    go_wp2_with fail
    refine (HRR.out _).mono ?_
    rintro ev w2 ⟨rfl, hb2⟩
    have N2 := hid (heap_alloc_old (o' := .cells #[.string (text d), .int .i64 s] 24) (block_later N1.out hb2))
    have P2 := hid (heap_alloc_new w2 (.cells #[.string (text d), .int .i64 s] 24))
    have B2 := hid (ba (B1.out.trans (hb2.mono B1.out.size)) (.cells #[.string (text d), .int .i64 s] 24))
    clear hb2
    go_wp2_with fail
    refine (HAL.out _ B2.out).mono ?_
    rintro ev w3 ⟨rfl, hb3⟩
    have n3 := block_later N2.out hb3
    have p3 := block_later P2.out hb3
    have B3 := hid (B2.out.trans (hb3.mono B2.out.size))
    have c0 : w3.cell? ⟨w1.heap.size, 0, none⟩ = some (.string (text d)) := by rw [Lib.cell_of_heap n3]; rfl
    have c1 : w3.cell? ⟨w1.heap.size, 1, none⟩ = some (.int .i64 s) := by rw [Lib.cell_of_heap n3]; rfl
    have d0 : w3.cell? ⟨w2.heap.size, 0, none⟩ = some (.string (text d)) := by rw [Lib.cell_of_heap p3]; rfl
    have d1 : w3.cell? ⟨w2.heap.size, 1, none⟩ = some (.int .i64 s) := by rw [Lib.cell_of_heap p3]; rfl
    clear hb3 n3 p3
    go_wp2
    go_ret
    exact ⟨rfl, B3.out⟩
end Go.Proofs.YtjmfcgbelikcdaaDoor.Num
