/- Layer 1: contract of Check. -/
import Derived.Test.YthggoohchjifnaaDoorUtfC
set_option linter.unusedVariables false
set_option linter.unusedSimpArgs false
namespace Go.Proofs.YthggoohchjifnaaDoor.Utf
open Go Go.Proofs.YthggoohchjifnaaDoor Go.RowKit

/-- The error that Check answers. -/
def checkE (l : List UInt8) : Int := if check l = l.length then 0 else 4
theorem checkE_ok {l : List UInt8} (h : check l = l.length) : checkE l = 0 := by unfold checkE; rw [if_pos h]
theorem checkE_no {l : List UInt8} (h : check l ≠ l.length) : checkE l = 4 := by unfold checkE; rw [if_neg h]

/-- Ahead of pos all is right. -/
def Upto (l : List UInt8) (pos : Nat) : Prop := pos ≤ l.length ∧ check l = pos + check (l.drop pos)
theorem Upto.start (l : List UInt8) : Upto l 0 := ⟨by omega, by simp⟩
theorem Upto.next {l : List UInt8} {pos : Nat} (h : Upto l pos) (hr : (rune (l.drop pos)).2 ≠ 0) : Upto l (pos + (rune (l.drop pos)).2) := by
  have h1 := rune_le (l.drop pos)
  have h2 := check_step hr
  rw [List.drop_drop] at h2
  simp at h1
  exact ⟨by have := h.1; omega, by rw [h.2, h2]; omega⟩
theorem Upto.stop {l : List UInt8} {pos : Nat} (h : Upto l pos) (hp : pos < l.length) (hr : (rune (l.drop pos)).2 = 0) : check l = pos ∧ checkE l = 4 := by
  have e : check l = pos := by rw [h.2, check_stop hr]; omega
  exact ⟨e, checkE_no (by omega)⟩
theorem Upto.done {l : List UInt8} {pos : Nat} (h : Upto l pos) (hp : ¬ pos < l.length) : check l = l.length ∧ checkE l = 0 := by
  have e : pos = l.length := by have := h.1; omega
  have e2 : check l = l.length := by rw [h.2, e]; simp [check_nil]
  exact ⟨e2, checkE_ok e2⟩

set_option maxHeartbeats 1000000 in
set_option maxRecDepth 100000 in
theorem Check_any (v : Value) (l : List UInt8) (w : World) (hv : Bytes w v l) :
    Calls Tryd.prog 90 #[v] w fun e w' => e = .returned (.tuple #[.int .i64 (check l), .int .i64 (checkE l)]) ∧ Below w.heap.size w w' := by
  have hlen := fun W => hv.len (P := Tryd.prog) 44 3 5 underB W
  have hc := hv.conv (P := Tryd.prog) 44 9 5 underB under8 under9
  have hle := hv.le
  have hsz := text_size l
  have HS := hid hsz
  clear hsz hv
  go_enter Tryd.func90, Tryd.ntmps90
  go_wp2_with fail
  go_loopw [5] (fun _ w' => ∃ pos : Nat, w' = w.iter (text l) pos ∧ Upto l pos) (fun _ w' => l.length - w'.iterPos w.heap.size)
  case atStart => exact ⟨0, rfl, Upto.start l⟩
  case round =>
    obtain ⟨pos, rfl, hu⟩ := hrel
    by_cases hp : pos < l.length
    · have hps : pos < (text l).size := by rw [HS.out]; exact hp
      have hnx : ∀ ty, (Instr.next (.pointer (some ⟨w.heap.size, 0, none⟩)) true ty).run Tryd.prog (w.iter (text l) pos) = _ := fun ty => run_next_any w (text l) pos ty hps
      have hd1 := decode_le (text l) pos
      have hdr := decode_rune l pos hp
      obtain ⟨d, hdd⟩ : ∃ d, Utf8.decode (text l) pos = d := ⟨_, rfl⟩
      rw [hdd] at hdr hd1 hnx
      have hbt := fun w => begins_any (text (l.drop pos)) d.1 (by omega) (by omega) w
      rw [text_data] at hbt
      have CB := hid hbt
      have hx : (text l).extract pos (text l).size = text (l.drop pos) := text_extract l pos
      have HU := hid hu
      have hnn : (0 : Int) ≤ (pos : Int) := by omega
      have hpn : (pos : Int) ≤ ((text l).size : Int) := by omega
      clear hbt hdd hu
      rcases hdr with ⟨z, hb⟩ | ⟨z, hb, hdr⟩
      · rw [hb] at CB
        have Z := hid z
        clear z hb
        go_wp2_with (first
          | (go_at_call 95; refine (CB.out _).mono ?_; rintro e w' ⟨rfl, rfl⟩))
        go_ret2
        have := HU.out.stop hp Z.out
        refine ⟨by rw [this.1, this.2]; rfl, ?_⟩
        exact (Below.refl _ _).alloc (Nat.le_refl _) _
      · rw [hb] at CB
        have Z := hid z
        have ZD := hid hdr
        clear z hb hdr
        go_wp2_with (first
          | (go_at_call 95; refine (CB.out _).mono ?_; rintro e w' ⟨rfl, rfl⟩))
        go_roundw
        case rel => exact ⟨_, rfl, by rw [ZD.out]; exact HU.out.next Z.out⟩
        case measure =>
          have := (rune_some (l := l.drop pos) (c := (rune (l.drop pos)).1) (k := (rune (l.drop pos)).2) rfl Z.out).2.2.2.1
          rw [← ZD.out] at this
          simp
          omega
    · have hps : ¬ pos < (text l).size := by rw [HS.out]; exact hp
      have hnx : ∀ ty, (Instr.next (.pointer (some ⟨w.heap.size, 0, none⟩)) true ty).run Tryd.prog (w.iter (text l) pos) = _ := fun ty => run_next_end w (text l) pos ty hps
      have HU := hid hu
      clear hu
      go_wp2
      go_ret2
      have := HU.out.done hp
      refine ⟨by rw [this.1, this.2]; rfl, ?_⟩
      exact (Below.refl _ _).alloc (Nat.le_refl _) _

end Go.Proofs.YthggoohchjifnaaDoor.Utf
