/- Layer 1: the document's examples hold. -/
import Derived.Test.YtceabdoeffahmaaDoorUtfG
set_option linter.unusedVariables false
set_option linter.unusedSimpArgs false
namespace Go.Proofs.YtceabdoeffahmaaDoor.Utf
open Go Go.Proofs.YtceabdoeffahmaaDoor Go.RowKit
set_option maxRecDepth 100000

theorem Check_eq (v : Value) (l : List UInt8) (w : World) (hv : Bytes w v l) (k : Nat) (E : Int) (hk : check l = k) (hE : checkE l = E) :
    Calls Tryd.prog 10 #[v] w fun e w' => e = .returned (.tuple #[.int .i64 k, .int .i64 E]) ∧ Below w.heap.size w w' := by
  subst hk; subst hE; exact Check_any v l w hv
theorem Rune_eq (v : Value) (l : List UInt8) (i : Int) (w : World) (hT : Tabs w) (hv : Bytes w v l) (c k : Nat) (E : Int) (h : runeR l i = (c, k, E)) :
    Calls Tryd.prog 9 #[v, .int .i64 i] w fun e w' => e = .returned (.tuple #[.int .i64 c, .int .i64 k, .int .i64 E]) ∧ Below w.heap.size w w' := by
  have := Rune_any v l i w hT hv
  rw [h] at this; exact this

theorem Tabs.alloc {w : World} (h : Tabs w) (o : Obj) : Tabs (w.alloc o) := h.below ((Below.refl w.heap.size w).alloc (Nat.le_refl _) o) (Nat.le_refl _)

set_option maxHeartbeats 1000000 in
theorem alive_any (w : World) (hT : Tabs w) :
    Calls Tryd.prog 12 #[] w fun e w' => e = .returned (.bool true) ∧ Below w.heap.size w w' := by
  go_enter Tryd.func12, Tryd.ntmps12
  go_wp2_with fail
  refine (Rune_eq _ [195, 164] 0 _ (hT.alloc _) (Row.ofBuild _ _ _ 2 rfl (by omega)) 228 2 0 (by decide)).mono ?_
  rintro e w1 ⟨rfl, hb1⟩
  go_wp2_with fail
  refine (Check_eq _ [192, 128] _ (Row.ofBuild _ _ _ 2 rfl (by omega)) 0 4 (by decide) (by decide)).mono ?_
  rintro e w2 ⟨rfl, hb2⟩
  go_wp2_with fail
  refine (Check_eq _ [237, 160, 128] _ (Row.ofBuild _ _ _ 3 rfl (by omega)) 0 4 (by decide) (by decide)).mono ?_
  rintro e w3 ⟨rfl, hb3⟩
  go_wp2_with fail
  refine (Check_eq _ [239, 191, 191] _ (Row.ofBuild _ _ _ 3 rfl (by omega)) 0 4 (by decide) (by decide)).mono ?_
  rintro e w4 ⟨rfl, hb4⟩
  go_wp2_with fail
  refine (Check_eq _ [0] _ (Row.ofBuild _ _ _ 1 rfl (by omega)) 0 4 (by decide) (by decide)).mono ?_
  rintro e w5 ⟨rfl, hb5⟩
  go_wp2_with fail
  go_ret
  refine ⟨rfl, ?_⟩
  have s1 := hb1.size
  have s2 := hb2.size
  have s3 := hb3.size
  have s4 := hb4.size
  simp only [World.size_alloc] at s1 s2 s3 s4 hb1 hb2 hb3 hb4 hb5
  have b1 := ((Below.refl w.heap.size w).alloc (Nat.le_refl _) (.cells #[.int .u8 195, .int .u8 164] 5)).trans (hb1.mono (by omega))
  have b2 := (b1.alloc (by omega) _).trans (hb2.mono (by omega))
  have b3 := (b2.alloc (by omega) _).trans (hb3.mono (by omega))
  have b4 := (b3.alloc (by omega) _).trans (hb4.mono (by omega))
  exact (b4.alloc (by omega) _).trans (hb5.mono (by omega))

theorem kinds_first (c : Int) (h : first c = true) : next c = true ∧ fine c = true := by
  refine ⟨(next_iff c).2 (.inl h), ?_⟩
  rw [first_iff] at h; rw [fine_iff]; rw [fine_iff] at h; omega
theorem kinds_next (c : Int) (h : next c = true) : part c = true ∧ fine c = true := by
  refine ⟨(part_iff c).2 (.inl h), ?_⟩
  rcases (next_iff c).1 h with h | h
  · exact (kinds_first c h).2
  · rw [fine_iff]; omega
theorem kinds_space (c : Int) (h : space c = true) : part c = false ∧ fine c = true := by
  rw [space_iff] at h
  refine ⟨?_, by rw [fine_iff]; omega⟩
  rw [← Bool.not_eq_true, part_iff, next_iff, first_iff]; omega

end Go.Proofs.YtceabdoeffahmaaDoor.Utf
