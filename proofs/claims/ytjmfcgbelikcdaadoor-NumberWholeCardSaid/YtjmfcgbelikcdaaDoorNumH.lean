/- Layer 7: contracts of Canon, Right. -/
import Derived.Test.YtjmfcgbelikcdaaDoorNumF
set_option linter.unusedVariables false
set_option linter.unusedSimpArgs false
namespace Go.Proofs.YtjmfcgbelikcdaaDoor.Num
open Go Go.Proofs.YtjmfcgbelikcdaaDoor Go.RowKit
set_option maxRecDepth 100000

/-- The one form of what has nothing wrong. -/
def formV (d : List UInt8) (s : Int) : List UInt8 × Nat := if checkE d s = 0 then canon d s.toNat else ([], 0)
/-- What Canon answers. -/
def CanonA (d : List UInt8) (s : Int) : Value := .tuple #[numV (formV d s), .int .i64 (checkE d s)]
theorem errV_zero : errV 0 = .nilIface := rfl
theorem errV_some {n : Nat} (h : n ≠ 0) : errV n = .iface 67 (.agg #[.int .i64 n]) := by unfold errV; rw [if_neg h]
theorem CanonA_no {d : List UInt8} {s : Int} (h : checkE d s ≠ 0) : CanonA d s = .tuple #[.agg #[.string ⟨#[]⟩, .int .i64 0], .int .i64 (checkE d s)] := by
  unfold CanonA formV; rw [if_neg h]; rfl
theorem CanonA_yes {d : List UInt8} {s : Int} (h : checkE d s = 0) : CanonA d s = .tuple #[numV (canon d s.toNat), .int .i64 0] := by
  unfold CanonA formV; rw [if_pos h, h]; rfl

set_option maxHeartbeats 2000000 in
theorem Canon_any (d : List UInt8) (s : Int) (hl : d.length ≤ 500000000) (w : World) (hw : Fit w) :
    Calls Tryd.prog 11 #[numZ d s] w fun e w' => e = .returned (CanonA d s) ∧ Below w.heap.size w w' := by
  have HC := hid (fun w => check_any d s (by omega) w)
  have HE := hid (fun X (hb : Below w.heap.size w X) => errnoOf_any (checkE d s) X (hw.at hb).err)
  obtain ⟨W1, hW1⟩ : ∃ W1, (w.alloc (.cells #[.string (text d), .int .i64 s] 24)).alloc (.cells #[.string ⟨#[]⟩, .int .i64 0] 24) = W1 := ⟨_, rfl⟩
  have B1 := hid (show Below w.heap.size w W1 from hW1 ▸ ba (ba (b0 w) _) _)
  have N1 := hid (show W1.heap[w.heap.size]? = some (.cells #[.string (text d), .int .i64 s] 24 (0, 0)) from hW1 ▸ heap_alloc_old (heap_alloc_new w _))
  have P1 := hid (show W1.heap[w.heap.size + 1]? = some (.cells #[.string ⟨#[]⟩, .int .i64 0] 24 (0, 0)) from by
    rw [← hW1]
    have := heap_alloc_new (w.alloc (.cells #[.string (text d), .int .i64 s] 24)) (.cells #[.string ⟨#[]⟩, .int .i64 0] 24)
    simpa using this)
  have a0 : W1.cell? ⟨w.heap.size, 0, none⟩ = some (.string (text d)) := by rw [Lib.cell_of_heap N1.out]; rfl
  have a1 : W1.cell? ⟨w.heap.size, 1, none⟩ = some (.int .i64 s) := by rw [Lib.cell_of_heap N1.out]; rfl
  clear hw
  unfold numZ at *
  go_enter Tryd.func11, Tryd.ntmps11
  go_wp2_with fail
  clear hW1
  refine (HC.out _).mono ?_
  rintro e w1 ⟨rfl, hb1⟩
  have p1 := block_later P1.out hb1
  have n1 := block_later N1.out hb1
  have c0 : w1.cell? ⟨w.heap.size + 1, 0, none⟩ = some (.string ⟨#[]⟩) := by rw [Lib.cell_of_heap p1]; rfl
  have c1 : w1.cell? ⟨w.heap.size + 1, 1, none⟩ = some (.int .i64 0) := by rw [Lib.cell_of_heap p1]; rfl
  have f0 := Lib.frozen_of_heap p1 0
  have f1 := Lib.frozen_of_heap p1 1
  have e0 : w1.cell? ⟨w.heap.size, 0, none⟩ = some (.string (text d)) := by rw [Lib.cell_of_heap n1]; rfl
  have e1 : w1.cell? ⟨w.heap.size, 1, none⟩ = some (.int .i64 s) := by rw [Lib.cell_of_heap n1]; rfl
  have HP := hid p1
  have HB := hid (B1.out.trans (hb1.mono B1.out.size))
  clear hb1 p1 n1 a0 a1
  by_cases h0 : checkE d s = 0
  · have HA := hid (CanonA_yes h0)
    rw [h0, errV_zero]
    obtain ⟨hd, hn, hd2, hs0, hs1⟩ := checkE_ok h0
    obtain ⟨k, rfl⟩ : ∃ k : Nat, s = k := ⟨s.toNat, by omega⟩
    have HO := hid (fun w => oneForm_any d k (by omega) (by omega) w)
    rw [Int.toNat_natCast] at HA
    unfold numV numZ at HA HO
    clear hd hn h0 HC HE
    go_wp2_with fail
    refine (HO.out _).mono ?_
    rintro e w2 ⟨rfl, hb2⟩
    have p2 := block_later HP.out hb2
    have g0 : w2.cell? ⟨w.heap.size + 1, 0, none⟩ = some (.string ⟨#[]⟩) := by rw [Lib.cell_of_heap p2]; rfl
    have g1 : w2.cell? ⟨w.heap.size + 1, 1, none⟩ = some (.int .i64 0) := by rw [Lib.cell_of_heap p2]; rfl
    have k0 := Lib.frozen_of_heap p2 0
    have k1 := Lib.frozen_of_heap p2 1
    have HP2 := hid p2
    have HB2 := hid (HB.out.trans (hb2.mono HB.out.size))
    clear hb2 p2
    go_wp2
    refine bodyPost_ret (results_pair rfl _ _ _ _ rfl (load_num (put2 HP2.out _ _))) rfl ?_
    exact ⟨by rw [HA.out]; rfl, put2_below HB2.out (by omega) _ _⟩
  · have HA := hid (CanonA_no h0)
    have hx : errV (checkE d s) = .iface 67 (.agg #[.int .i64 (checkE d s)]) := errV_some h0
    rw [hx] at HE ⊢
    clear h0 hx
    generalize checkE d s = n at *
    go_wp2_with fail
    refine (HE.out _ HB.out).mono ?_
    rintro e w2 ⟨rfl, hb2⟩
    have p2 := block_later HP.out hb2
    have g0 : w2.cell? ⟨w.heap.size + 1, 0, none⟩ = some (.string ⟨#[]⟩) := by rw [Lib.cell_of_heap p2]; rfl
    have g1 : w2.cell? ⟨w.heap.size + 1, 1, none⟩ = some (.int .i64 0) := by rw [Lib.cell_of_heap p2]; rfl
    have k0 := Lib.frozen_of_heap p2 0
    have k1 := Lib.frozen_of_heap p2 1
    have HP2 := hid p2
    have HB2 := hid (HB.out.trans (hb2.mono HB.out.size))
    clear hb2 p2
    go_wp2
    refine bodyPost_ret (results_pair rfl _ _ _ _ rfl (load_num (put2 HP2.out _ _))) rfl ?_
    exact ⟨by rw [HA.out]; rfl, put2_below HB2.out (by omega) _ _⟩

/-- Is it in the one form? -/
def rightB (d : List UInt8) (s : Int) : Bool := decide (checkE d s = 0 ∧ canon d s.toNat = (d, s.toNat))
set_option maxHeartbeats 2000000 in
theorem Right_any (d : List UInt8) (s : Int) (hl : d.length ≤ 500000000) (w : World) (hw : Fit w) :
    Calls Tryd.prog 14 #[numZ d s] w fun e w' => e = .returned (.bool (rightB d s)) ∧ Below w.heap.size w w' := by
  have HC := hid (Canon_any d s hl _ (hw.at (ba (b0 w) (.cells #[.string (text d), .int .i64 s] 24))))
  clear hw
  by_cases h0 : checkE d s = 0
  · obtain ⟨hd, hn, hd2, hs0, hs1⟩ := checkE_ok h0
    obtain ⟨k, rfl⟩ : ∃ k : Nat, s = k := ⟨s.toNat, by omega⟩
    have HR := hid (show rightB d k = decide (canon d k = (d, k)) by unfold rightB; simp [h0])
    rw [CanonA_yes h0, Int.toNat_natCast] at HC
    clear h0 hd hn
    generalize canon d k = c at *
    obtain ⟨a, j⟩ := c
    unfold numV numZ at HC
    unfold numZ
    go_enter Tryd.func14, Tryd.ntmps14
    go_wp2_with fail
    refine HC.out.mono ?_
    rintro e w1 ⟨rfl, hb1⟩
    have n1 := laid_later hb1
    have HB := hid (below_of_alloc hb1)
    have N2 := hid (heap_alloc_old (o' := .cells #[.string (text a), .int .i64 j] 24) n1)
    have e0 : (w1.alloc (.cells #[.string (text a), .int .i64 j] 24)).cell? ⟨w.heap.size, 0, none⟩ = some (.string (text d)) := by rw [Lib.cell_of_heap N2.out]; rfl
    have e1 : (w1.alloc (.cells #[.string (text a), .int .i64 j] 24)).cell? ⟨w.heap.size, 1, none⟩ = some (.int .i64 k) := by rw [Lib.cell_of_heap N2.out]; rfl
    clear hb1 n1
    go_wp2
    all_goals go_ret
    all_goals refine ⟨ret_bool ?_, ba HB.out _⟩
    all_goals rw [HR.out]
    all_goals simp only [text_list] at *
    all_goals first | (simp_all; done) | (simp_all; omega)
  · have HR := hid (show rightB d s = false by unfold rightB; simp [h0])
    have hx : ((checkE d s : Int) == 0) = false := by rw [beq_eq_false_iff_ne]; omega
    rw [CanonA_no h0] at HC
    generalize checkE d s = n at *
    unfold numZ
    go_enter Tryd.func14, Tryd.ntmps14
    go_wp2_with fail
    refine HC.out.mono ?_
    rintro e w1 ⟨rfl, hb1⟩
    have HB := hid (below_of_alloc hb1)
    clear hb1
    go_wp2
    go_ret
    exact ⟨by rw [HR.out]; rfl, ba HB.out _⟩
end Go.Proofs.YtjmfcgbelikcdaaDoor.Num
