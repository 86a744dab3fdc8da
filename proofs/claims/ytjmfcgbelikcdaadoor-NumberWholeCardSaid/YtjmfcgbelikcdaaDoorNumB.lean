/- Layer 7: contract of the code's one form. -/
import Derived.Test.YtjmfcgbelikcdaaDoorNumRow
set_option linter.unusedVariables false
set_option linter.unusedSimpArgs false
namespace Go.Proofs.YtjmfcgbelikcdaaDoor.Num
open Go Go.Proofs.YtjmfcgbelikcdaaDoor Go.RowKit
set_option maxRecDepth 100000

set_option maxHeartbeats 1000000 in
theorem oneForm_any (l : List UInt8) (k : Nat) (hl : l.length ≤ 1000000000) (hk : k ≤ 1000000000) (w : World) :
    Calls Tryd.prog 26 #[.string (text l), .int .i64 k] w fun e w' => e = .returned (numV (canon l k)) ∧ Below w.heap.size w w' := by
  have HL := hid (fun w => TrimLeft_any l w)
  by_cases h0 : lead l = []
  · have HC := hid (canon_zero (k := k) h0)
    have q0 := list_yes h0
    clear h0
    go_enter Tryd.func26, Tryd.ntmps26
    go_wp2_with fail
    refine (HL.out _).mono ?_
    rintro e w1 ⟨rfl, rfl⟩
    go_wp2
    refine bodyPost_ret (results_one rfl _ _ _ _ rfl (load_num (heap_alloc_new _ _))) rfl ?_
    exact ⟨by rw [HC.out]; rfl, ba (b0 _) _⟩
  · have HC := hid (show canon l k = ((lead l).take ((lead l).length - min ((lead l).length - (trim (lead l)).length) k), k - min ((lead l).length - (trim (lead l)).length) k) by unfold canon; rw [if_neg h0])
    have q0 := list_no h0
    have hd := lead_len l
    have HR := hid (fun w => TrimRight_any (lead l) (by omega) w)
    have ht : (trim (lead l)).length ≤ (lead l).length := by
      obtain ⟨j, hj⟩ := trim_split (lead l)
      have := congrArg List.length hj
      simp at this; omega
    clear h0
    generalize lead l = d at *
    have s1 := text_size d
    have s2 := text_size (trim d)
    generalize trim d = t at *
    go_enter Tryd.func26, Tryd.ntmps26
    go_wp2_with fail
    refine (HL.out _).mono ?_
    rintro e w1 ⟨rfl, rfl⟩
    have u1 : IntKind.i64.wrap ((d.length : Int) - (t.length : Int)) = ((d.length - t.length : Nat) : Int) := by rw [IntWalk.i64_in _ (by omega)]; omega
    go_wp2_with fail
    refine (HR.out _).mono ?_
    rintro e w1 ⟨rfl, rfl⟩
    go_wp2
    refine bodyPost_ret (results_one rfl _ _ _ _ rfl (load_num (heap_alloc_new _ _))) rfl ?_
    refine ⟨?_, ba (b0 _) _⟩
    rw [HC.out]
    have e1 : ((d.length : Int) - min ((d.length - t.length : Nat) : Int) (k : Int)).toNat = d.length - min (d.length - t.length) k := by omega
    have e2 : ((k : Int) - min ((d.length - t.length : Nat) : Int) (k : Int)) = ((k - min (d.length - t.length) k : Nat) : Int) := by omega
    rw [e1, e2, text_zero]
    rfl
end Go.Proofs.YtjmfcgbelikcdaaDoor.Num
