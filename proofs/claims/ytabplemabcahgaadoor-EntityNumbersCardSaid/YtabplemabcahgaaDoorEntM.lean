/- Layer 3: the document's examples; the walks of EntityTells and EntityEscapes. -/
import Derived.Test.YtabplemabcahgaaDoorEntI
import Derived.Test.YtabplemabcahgaaDoorEntK
import Derived.Test.YtabplemabcahgaaDoorEntL
import Derived.Test.YtabplemabcahgaaDoorEntMath2
set_option linter.unusedVariables false
set_option linter.unusedSimpArgs false
namespace Go.Proofs.YtabplemabcahgaaDoor.Ent
open Go Go.Proofs.YtabplemabcahgaaDoor Go.Proofs.YtabplemabcahgaaDoor.Utf Go.RowKit
set_option maxRecDepth 100000

/-- What all statements ask of the world: the library's tables, and its error. -/
def Fit (w : World) : Prop := Tabs w ∧ Errs w
theorem Fit.below {w w' : World} (h : Fit w) (hb : Below w.heap.size w w') : Fit w' := ⟨h.1.below hb (Nat.le_refl _), h.2.below hb (Nat.le_refl _)⟩

theorem Text_eq (l : List UInt8) (hl : l.length ≤ 1000000) (x : List UInt8) (n k : Nat) (h : tell false l = (x, n, k)) (a : ByteArray) (ha : a = text l) (w : World) (hw : Fit w) :
    Calls Tryd.prog 10 #[.string a] w fun e w' => e = .returned (.tuple #[.string (text x), .int .i64 n, .int .i64 k]) ∧ Below w.heap.size w w' := by
  subst ha
  have := Text_any l hl w hw.1 hw.2
  rw [h] at this; exact this
theorem Value_eq (l : List UInt8) (hl : l.length ≤ 1000000) (x : List UInt8) (n k : Nat) (h : tell true l = (x, n, k)) (a : ByteArray) (ha : a = text l) (w : World) (hw : Fit w) :
    Calls Tryd.prog 11 #[.string a] w fun e w' => e = .returned (.tuple #[.string (text x), .int .i64 n, .int .i64 k]) ∧ Below w.heap.size w w' := by
  subst ha
  have := Value_any l hl w hw.1 hw.2
  rw [h] at this; exact this

set_option maxHeartbeats 1000000 in
theorem alive_any (w : World) (hw : Fit w) :
    Calls Tryd.prog 9 #[] w fun e w' => e = .returned (.bool true) ∧ Below w.heap.size w w' := by
  have q1 := list_yes (show ([97, 65, 60] : List UInt8) = [97, 65, 60] from rfl)
  have q2 := list_yes (show ([97, 32, 98] : List UInt8) = [97, 32, 98] from rfl)
  have HW := hid hw
  clear hw
  go_enter Tryd.func9, Tryd.ntmps9
  go_wp2_with fail
  refine (Text_eq [97, 38, 35, 54, 53, 59, 38, 108, 116, 59] (by decide) _ _ _ alive_1 _ rfl _ HW.out).mono ?_
  rintro e w1 ⟨rfl, hb1⟩
  go_wp2_with fail
  refine (Value_eq [97, 13, 10, 98] (by decide) _ _ _ alive_2 _ rfl _ (HW.out.below hb1)).mono ?_
  rintro e w2 ⟨rfl, hb2⟩
  have HB2 := hid (bt hb1 hb2)
  clear hb1 hb2
  go_wp2_with fail
  refine (Text_eq [97, 38, 98] (by decide) _ _ _ alive_3 _ rfl _ (HW.out.below HB2.out)).mono ?_
  rintro e w3 ⟨rfl, hb3⟩
  go_wp2
  go_ret
  exact ⟨rfl, bt HB2.out hb3⟩

set_option maxHeartbeats 1000000 in
theorem EntityTells_walk (s : ByteArray) (w : World) (hw : Fit w) :
    Calls Tryd.prog 3 #[.string s] w fun e w' => e = .returned (.bool true) ∧ Below w.heap.size w w' := by
  have HW := hid hw
  clear hw
  obtain ⟨l, rfl, hls⟩ := text_of s
  have s1 : (text l).size = l.length := text_size l
  clear hls
  by_cases hl : l.length ≤ 2000
  · obtain ⟨x, n, k, h1⟩ : ∃ x n k, tell false l = (x, n, k) := ⟨_, _, _, rfl⟩
    obtain ⟨y, m, j, h2⟩ : ∃ y m j, tell true l = (y, m, j) := ⟨_, _, _, rfl⟩
    have t1 := fun w hw => Text_eq l (by omega) x n k h1 _ rfl w hw
    have t2 := fun w hw => Value_eq l (by omega) y m j h2 _ rfl w hw
    have r1 := fun w => RTell_any false l (by omega) w
    have r2 := fun w => RTell_any true l (by omega) w
    rw [h1] at r1
    rw [h2] at r2
    unfold tellV at r1 r2
    dsimp only at r1 r2
    have T1 := hid t1
    have T2 := hid t2
    have R1 := hid r1
    have R2 := hid r2
    clear t1 t2 r1 r2 h1 h2
    go_enter Tryd.func3, Tryd.ntmps3
    go_wp2_with fail
    refine (T1.out _ HW.out).mono ?_
    rintro e w1 ⟨rfl, hb1⟩
    go_wp2_with fail
    refine (T2.out _ (HW.out.below hb1)).mono ?_
    rintro e w2 ⟨rfl, hb2⟩
    have HB2 := hid (bt hb1 hb2)
    clear hb1 hb2
    go_wp2_with fail
    refine (R1.out _).mono ?_
    rintro e w3 ⟨rfl, hb3⟩
    go_wp2_with fail
    refine (R2.out _).mono ?_
    rintro e w4 ⟨rfl, hb4⟩
    have HB4 := hid (bt HB2.out (bt hb3 hb4))
    clear hb3 hb4 HB2
    go_wp2_with fail
    refine (alive_any _ (HW.out.below HB4.out)).mono ?_
    rintro e w5 ⟨rfl, hb5⟩
    go_wp2
    go_ret
    exact ⟨rfl, bt HB4.out hb5⟩
  · go_enter Tryd.func3, Tryd.ntmps3
    go_wp2_with fail
    refine (alive_any _ HW.out).mono ?_
    rintro e w5 ⟨rfl, hb5⟩
    go_wp2
    go_ret
    exact ⟨rfl, hb5⟩

set_option maxHeartbeats 1000000 in
theorem EntityEscapes_walk (s : ByteArray) (w : World) (hw : Fit w) :
    Calls Tryd.prog 4 #[.string s] w fun e w' => e = .returned (.bool true) ∧ Below w.heap.size w w' := by
  have HW := hid hw
  clear hw
  obtain ⟨l, rfl, hls⟩ := text_of s
  have s1 : (text l).size = l.length := text_size l
  clear hls
  by_cases hl : l.length ≤ 2000
  · have t1 := fun w => EscapeText_any l (by omega) w
    have t2 := fun w => EscapeValue_any l (by omega) w
    have r1 := fun w => REscape_any false l (by omega) w
    have r2 := fun w => REscape_any true l (by omega) w
    unfold escV at t1 t2
    unfold rescV at r1 r2
    by_cases hc : check l = l.length
    · rw [if_pos hc] at t1 t2 r1 r2
      have T1 := hid t1
      have T2 := hid t2
      have R1 := hid r1
      have R2 := hid r2
      clear t1 t2 r1 r2 hc
      go_enter Tryd.func4, Tryd.ntmps4
      go_wp2_with fail
      refine (T1.out _).mono ?_
      rintro e w1 ⟨rfl, hb1⟩
      go_wp2_with fail
      refine (T2.out _).mono ?_
      rintro e w2 ⟨rfl, hb2⟩
      have HB2 := hid (bt hb1 hb2)
      clear hb1 hb2
      go_wp2_with fail
      refine (R1.out _).mono ?_
      rintro e w3 ⟨rfl, hb3⟩
      go_wp2_with fail
      refine (R2.out _).mono ?_
      rintro e w4 ⟨rfl, hb4⟩
      have HB4 := hid (bt HB2.out (bt hb3 hb4))
      clear hb3 hb4 HB2
      go_wp2_with fail
      refine (alive_any _ (HW.out.below HB4.out)).mono ?_
      rintro e w5 ⟨rfl, hb5⟩
      go_wp2
      go_ret
      exact ⟨rfl, bt HB4.out hb5⟩
    · rw [if_neg hc] at t1 t2 r1 r2
      have T1 := hid t1
      have T2 := hid t2
      have R1 := hid r1
      have R2 := hid r2
      clear t1 t2 r1 r2 hc
      go_enter Tryd.func4, Tryd.ntmps4
      go_wp2_with fail
      refine (T1.out _).mono ?_
      rintro e w1 ⟨rfl, hb1⟩
      go_wp2_with fail
      refine (T2.out _).mono ?_
      rintro e w2 ⟨rfl, hb2⟩
      have HB2 := hid (bt hb1 hb2)
      clear hb1 hb2
      go_wp2_with fail
      refine (R1.out _).mono ?_
      rintro e w3 ⟨rfl, hb3⟩
      go_wp2_with fail
      refine (R2.out _).mono ?_
      rintro e w4 ⟨rfl, hb4⟩
      have HB4 := hid (bt HB2.out (bt hb3 hb4))
      clear hb3 hb4 HB2
      go_wp2_with fail
      refine (alive_any _ (HW.out.below HB4.out)).mono ?_
      rintro e w5 ⟨rfl, hb5⟩
      go_wp2
      go_ret
      exact ⟨rfl, bt HB4.out hb5⟩
  · go_enter Tryd.func4, Tryd.ntmps4
    go_wp2_with fail
    refine (alive_any _ HW.out).mono ?_
    rintro e w5 ⟨rfl, hb5⟩
    go_wp2
    go_ret
    exact ⟨rfl, hb5⟩
end Go.Proofs.YtabplemabcahgaaDoor.Ent
