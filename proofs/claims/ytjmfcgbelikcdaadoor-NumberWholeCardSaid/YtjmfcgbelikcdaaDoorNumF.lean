/- Layer 7: contract of Read. -/
import Derived.Test.YtjmfcgbelikcdaaDoorNumE
set_option linter.unusedVariables false
set_option linter.unusedSimpArgs false
namespace Go.Proofs.YtjmfcgbelikcdaaDoor.Num
open Go Go.Proofs.YtjmfcgbelikcdaaDoor Go.RowKit
set_option maxRecDepth 100000

theorem Fit.at {w X : World} (h : Fit w) (hb : Below w.heap.size w X) : Fit X := h.later hb
/-- What Read answers. -/
def ReadA (l : List UInt8) : Value := .tuple #[numV (readV l), .int .i64 (readE l)]

set_option maxHeartbeats 2000000 in
theorem Read_any (l : List UInt8) (hl : l.length ≤ 500000000) (w : World) (hw : Fit w) :
    Calls Tryd.prog 9 #[.string (text l)] w fun e w' => e = .returned (ReadA l) ∧ Below w.heap.size w w' := by
  have HR := hid (read_any l hl _ (hw.at (ba (b0 w) (.cells #[.string ⟨#[]⟩, .int .i64 0] 24))).most)
  have HE := hid (fun X (hb : Below w.heap.size w X) => errnoOf_any (readE l) X (hw.at hb).err)
  have HA := hid (show ReadA l = .tuple #[numV (readV l), .int .i64 (readE l)] from rfl)
  unfold readA at HR
  generalize readV l = v at *
  generalize readE l = n at *
  obtain ⟨d, s⟩ := v
  clear hw
  go_enter Tryd.func9, Tryd.ntmps9
  go_wp2_with fail
  refine HR.out.mono ?_
  rintro e w1 ⟨rfl, hb1⟩
  have P1 := hid (laid_later hb1)
  have B1 := hid (below_of_alloc hb1)
  clear hb1
  unfold numV numZ
  unfold numV numZ at HA
  go_wp2_with fail
  have PY := hid (show (w1.alloc (.cells #[.string (text d), .int .i64 s] 24)).heap[w.heap.size]? = some (.cells #[.string ⟨#[]⟩, .int .i64 0] 24 (0, 0)) from heap_alloc_old P1.out)
  have QY := hid (heap_alloc_new w1 (.cells #[.string (text d), .int .i64 s] 24))
  have BY := hid (ba B1.out (.cells #[.string (text d), .int .i64 s] 24))
  go_region_with (
    go_at_call 23
    refine (HE.out _ BY.out.drew).mono ?_
    rintro e w2 ⟨rfl, hb2⟩
    have p2 := block_later (show ((w1.alloc (.cells #[.string (text d), .int .i64 s] 24)).drew).heap[w.heap.size]? = _ from PY.out) hb2
    have q2 := block_later (show ((w1.alloc (.cells #[.string (text d), .int .i64 s] 24)).drew).heap[w1.heap.size]? = _ from QY.out) hb2
    have HP2 := hid p2
    have HB2 := hid (BY.out.drew.trans (hb2.mono BY.out.drew.size))
    have c0 : w2.cell? ⟨w.heap.size, 0, none⟩ = some (.string ⟨#[]⟩) := by rw [Lib.cell_of_heap p2]; rfl
    have c1 : w2.cell? ⟨w.heap.size, 1, none⟩ = some (.int .i64 0) := by rw [Lib.cell_of_heap p2]; rfl
    have f0 := Lib.frozen_of_heap p2 0
    have f1 := Lib.frozen_of_heap p2 1
    have d0 : w2.cell? ⟨w1.heap.size, 0, none⟩ = some (.string (text d)) := by rw [Lib.cell_of_heap q2]; rfl
    have d1 : w2.cell? ⟨w1.heap.size, 1, none⟩ = some (.int .i64 s) := by rw [Lib.cell_of_heap q2]; rfl
    clear hb2 p2 q2)
  all_goals go_wp2
  all_goals refine bodyPost_ret (results_pair rfl _ _ _ _ rfl (load_num (put2 HP2.out _ _))) rfl ?_
  all_goals exact ⟨by rw [HA.out]; rfl, put2_below HB2.out (Nat.le_refl _) _ _⟩
end Go.Proofs.YtjmfcgbelikcdaaDoor.Num
