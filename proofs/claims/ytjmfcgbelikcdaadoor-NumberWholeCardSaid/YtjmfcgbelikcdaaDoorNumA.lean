/- Layer 7: contracts of the tests whether a text is digits: the code's and the document's. -/
import Derived.Test.YtjmfcgbelikcdaaDoorNumRow
set_option linter.unusedVariables false
set_option linter.unusedSimpArgs false
namespace Go.Proofs.YtjmfcgbelikcdaaDoor.Num
open Go Go.Proofs.YtjmfcgbelikcdaaDoor Go.RowKit
set_option maxRecDepth 100000

theorem all_step {l : List UInt8} {k : Nat} (hk : k < l.length) (h : (l.take k).all isd = true) (hd : isd l[k] = true) : (l.take (k + 1)).all isd = true := by
  rw [List.take_succ_eq_append_getElem hk, List.all_append, h]; simp [hd]
theorem digs_stop {l : List UInt8} {k : Nat} (hk : k < l.length) (hd : isd l[k] = false) : digs l = false := by
  unfold digs
  rw [Bool.and_eq_false_iff]
  refine .inl ?_
  rw [List.all_eq_false]
  exact ⟨l[k], List.getElem_mem hk, by rw [hd]; simp⟩
theorem digs_end {l : List UInt8} {k : Nat} (hk : ¬ k < l.length) (h : (l.take k).all isd = true) : digs l = (l != []) := by
  rw [List.take_of_length_le (by omega)] at h
  unfold digs; rw [h]; simp

set_option maxHeartbeats 1000000 in
theorem areDigits_any (l : List UInt8) (hl : l.length ≤ 1000000000) (w : World) :
    Calls Tryd.prog 34 #[.string (text l)] w fun e w' => e = .returned (.bool (digs l)) ∧ w = w' := by
  have HSZ := hid (text_size l)
  go_enter Tryd.func34, Tryd.ntmps34
  go_wp2_with fail
  go_loop [6] (fun i => ∃ k : Nat, i = .int .i64 k ∧ k ≤ l.length ∧ (l.take k).all isd = true) (fun i => l.length - (intOf i).toNat)
  case atStart => exact ⟨0, rfl, by omega, rfl⟩
  case round =>
    obtain ⟨k, rfl, hk, hall⟩ := hrel
    have HALL := hid hall
    clear hall
    by_cases hlt : k < l.length
    · have hps : k < (text l).size := by rw [HSZ.out]; exact hlt
      obtain ⟨x, hx⟩ : ∃ x : Nat, ((text l)[k]'hps).toNat = x := ⟨_, rfl⟩
      have hx2 : (l[k]'hlt).toNat = x := hx
      by_cases hd : isd (l[k]'hlt) = true
      · have hr := (isd_iff _).1 hd
        rw [hx2] at hr
        have HST := hid (all_step hlt HALL.out hd)
        clear hd hx2
        go_wp2
        go_round
        case rel => exact ⟨k + 1, by go_num, by omega, HST.out⟩
        case measure => simp [intOf]; omega
      · have hr : ¬ (48 ≤ x ∧ x ≤ 57) := by rw [← hx2]; exact fun h => hd ((isd_iff _).2 h)
        have HST := hid (digs_stop hlt (by simpa using hd))
        clear hd hx2
        by_cases c : x < 48
        · clear hr
          go_wp2
          go_ret
          exact ⟨by rw [HST.out]; rfl, rfl⟩
        · have c2 : 57 < x := by omega
          clear hr
          go_wp2
          go_ret
          exact ⟨by rw [HST.out]; rfl, rfl⟩
    · have HE := hid (digs_end hlt HALL.out)
      have hps : ¬ (k : Int) < ((text l).size : Int) := by rw [HSZ.out]; omega
      by_cases h0 : l = []
      · have HF := hid (list_yes h0)
        have HX := hid h0
        clear h0
        go_wp2
        go_ret
        exact ⟨ret_bool (by rw [HE.out, text_list]; simp [HX.out]), rfl⟩
      · have q0 := list_no h0
        have HX := hid h0
        clear h0
        go_wp2
        go_ret
        exact ⟨ret_bool (by rw [HE.out]; simp [HX.out]), rfl⟩

set_option maxHeartbeats 1000000 in
theorem rdigits_any (l : List UInt8) (hl : l.length ≤ 1000000000) (w : World) :
    Calls Tryd.prog 24 #[.string (text l)] w fun e w' => e = .returned (.bool (digs l)) ∧ w = w' := by
  have HSZ := hid (text_size l)
  go_enter Tryd.func24, Tryd.ntmps24
  go_wp2_with fail
  go_loop [3] (fun i => ∃ k : Nat, i = .int .i64 k ∧ k ≤ l.length ∧ (l.take k).all isd = true) (fun i => l.length - (intOf i).toNat)
  case atStart => exact ⟨0, rfl, by omega, rfl⟩
  case round =>
    obtain ⟨k, rfl, hk, hall⟩ := hrel
    have HALL := hid hall
    clear hall
    by_cases hlt : k < l.length
    · have hps : k < (text l).size := by rw [HSZ.out]; exact hlt
      obtain ⟨x, hx⟩ : ∃ x : Nat, ((text l)[k]'hps).toNat = x := ⟨_, rfl⟩
      have hx2 : (l[k]'hlt).toNat = x := hx
      by_cases hd : isd (l[k]'hlt) = true
      · have hr := (isd_iff _).1 hd
        rw [hx2] at hr
        have HST := hid (all_step hlt HALL.out hd)
        clear hd hx2
        go_wp2
        go_round
        case rel => exact ⟨k + 1, by go_num, by omega, HST.out⟩
        case measure => simp [intOf]; omega
      · have hr : ¬ (48 ≤ x ∧ x ≤ 57) := by rw [← hx2]; exact fun h => hd ((isd_iff _).2 h)
        have HST := hid (digs_stop hlt (by simpa using hd))
        clear hd hx2
        by_cases c : x < 48
        · clear hr
          go_wp2
          go_ret
          exact ⟨by rw [HST.out]; rfl, rfl⟩
        · have c2 : 57 < x := by omega
          clear hr
          go_wp2
          go_ret
          exact ⟨by rw [HST.out]; rfl, rfl⟩
    · have HE := hid (digs_end hlt HALL.out)
      have hps : ¬ (k : Int) < ((text l).size : Int) := by rw [HSZ.out]; omega
      by_cases h0 : l = []
      · have hz : (text l).size = 0 := by rw [HSZ.out, h0]; rfl
        have HX := hid h0
        clear h0
        go_wp2
        go_ret
        exact ⟨by rw [HE.out, HX.out]; rfl, rfl⟩
      · have hz : 0 < (text l).size := by rw [HSZ.out]; exact List.length_pos_iff.2 h0
        have HX := hid h0
        clear h0
        go_wp2
        go_ret
        exact ⟨ret_bool (by rw [HE.out]; simp [HX.out]), rfl⟩
end Go.Proofs.YtjmfcgbelikcdaaDoor.Num
