/- Layer 1: contracts of Put, and of the document's own answers. -/
import Derived.Test.YthggoohchjifnaaDoorUtfD
import Derived.Lib.RuneBytes
set_option linter.unusedVariables false
set_option linter.unusedSimpArgs false
namespace Go.Proofs.YthggoohchjifnaaDoor.Utf
open Go Go.Proofs.YthggoohchjifnaaDoor Go.RowKit

/-- A character's bytes. -/
def enc (c : Int) : List UInt8 := Lib.encodeRune c
theorem cells_enc (c : Int) : Lib.runeCells c = cellsOf (enc c) := (Lib.byteCells_encodeRune c).symm
theorem enc_len (c : Int) : 1 ≤ (enc c).length ∧ (enc c).length ≤ 4 := by
  have h := Lib.runeCells_le c
  rw [Lib.runeCells_length] at h
  exact h

theorem enc_one {c : Int} (h : 0 ≤ c) (h' : c < 128) : cellsOf (enc c) = [.int .u8 c] := by
  rw [← cells_enc, Lib.runeCells, Lib.encodeRuneZ_one h (by omega)]; rfl
theorem enc_two {c : Int} (h : 128 ≤ c) (h' : c < 2048) : cellsOf (enc c) = [.int .u8 (192 + c / 64), .int .u8 (128 + c % 64)] := by
  rw [← cells_enc, Lib.runeCells, Lib.encodeRuneZ_two h (by omega)]; rfl
theorem enc_three {c : Int} (h : 2048 ≤ c) (h' : c < 65536) (hf : fine c = true) : cellsOf (enc c) = [.int .u8 (224 + c / 4096), .int .u8 (128 + c / 64 % 64), .int .u8 (128 + c % 64)] := by
  have := (fine_iff c).1 hf
  rw [← cells_enc, Lib.runeCells, Lib.encodeRuneZ_three (by omega)]; rfl
theorem enc_four {c : Int} (h : 65536 ≤ c) (hf : fine c = true) : cellsOf (enc c) = [.int .u8 (240 + c / 262144), .int .u8 (128 + c / 4096 % 64), .int .u8 (128 + c / 64 % 64), .int .u8 (128 + c % 64)] := by
  have := (fine_iff c).1 hf
  rw [← cells_enc, Lib.runeCells, Lib.encodeRuneZ_four h (by omega)]; rfl
theorem enc_width {c : Nat} (hf : fine (c : Int) = true) : (enc c).length = width c := by
  have hl : (enc c).length = (cellsOf (enc (c : Int))).length := by rw [cellsOf_length]
  rw [hl]
  rcases (by omega : c < 128 ∨ (128 ≤ c ∧ c < 2048) ∨ (2048 ≤ c ∧ c < 65536) ∨ 65536 ≤ c) with h | ⟨h, h'⟩ | ⟨h, h'⟩ | h
  · rw [width_one h, enc_one (by omega) (by omega)]; rfl
  · rw [width_two h h', enc_two (by omega) (by omega)]; rfl
  · rw [width_three h h', enc_three (by omega) (by omega) hf]; rfl
  · rw [width_four h, enc_four (by omega) hf]; rfl

/-- The document's bytes of a character that may be. -/
theorem RPut_any (c : Int) (hf : fine c = true) (w : World) :
    Calls Tryd.prog 81 #[.int .i64 c] w fun e w' => ∃ v', e = .returned v' ∧ Bytes w' v' (enc c) ∧ Below w.heap.size w w' := by
  have hr := (fine_iff c).1 hf
  have h0 : 0 ≤ c := by omega
  have h1 : c ≤ 1114111 := by omega
  clear hr
  have hl : (enc c).length = (cellsOf (enc c)).length := by rw [cellsOf_length]
  rcases (by omega : c < 128 ∨ (128 ≤ c ∧ c < 2048) ∨ (2048 ≤ c ∧ c < 65536) ∨ 65536 ≤ c) with h | ⟨h, h'⟩ | ⟨h, h'⟩ | h
  · have he := enc_one h0 h
    have HE := hid he
    have HL := hid hl
    clear he hl hf
    go_enter Tryd.func81, Tryd.ntmps81
    go_wp2
    go_ret
    refine ⟨_, rfl, ?_, (Below.refl _ _).alloc (Nat.le_refl _) _⟩
    unfold Bytes
    rw [HL.out, HE.out]
    exact Row.ofBuild w _ _ _ rfl (by simp)
  · have he := enc_two h h'
    have HE := hid he
    have HL := hid hl
    clear he hl hf
    go_enter Tryd.func81, Tryd.ntmps81
    go_wp2
    go_ret
    refine ⟨_, rfl, ?_, (Below.refl _ _).alloc (Nat.le_refl _) _⟩
    unfold Bytes
    rw [HL.out, HE.out]
    exact Row.ofBuild w _ _ _ rfl (by simp)
  · have he := enc_three h h' hf
    have HE := hid he
    have HL := hid hl
    clear he hl hf
    go_enter Tryd.func81, Tryd.ntmps81
    go_wp2
    go_ret
    refine ⟨_, rfl, ?_, (Below.refl _ _).alloc (Nat.le_refl _) _⟩
    unfold Bytes
    rw [HL.out, HE.out]
    exact Row.ofBuild w _ _ _ rfl (by simp)
  · have he := enc_four h hf
    have HE := hid he
    have HL := hid hl
    clear he hl hf
    go_enter Tryd.func81, Tryd.ntmps81
    go_wp2
    go_ret
    refine ⟨_, rfl, ?_, (Below.refl _ _).alloc (Nat.le_refl _) _⟩
    unfold Bytes
    rw [HL.out, HE.out]
    exact Row.ofBuild w _ _ _ rfl (by simp)

end Go.Proofs.YthggoohchjifnaaDoor.Utf
