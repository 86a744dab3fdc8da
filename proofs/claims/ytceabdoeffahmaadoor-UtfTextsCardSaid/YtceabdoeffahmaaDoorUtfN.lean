/- Layer 1: the walk of the statement UtfBack. -/
import Derived.Test.YtceabdoeffahmaaDoorUtfM
set_option linter.unusedVariables false
set_option linter.unusedSimpArgs false
namespace Go.Proofs.YtceabdoeffahmaaDoor
open Go Go.RowKit
namespace Utf
open Go.Proofs.YtceabdoeffahmaaDoor
set_option maxRecDepth 100000

theorem enc_first (c : Nat) (hf : fine (c : Int) = true) : (c < 128 → nth (enc (c : Int)) 0 = c) ∧ (128 ≤ c → c < 2048 → nth (enc (c : Int)) 0 = 192 + c / 64) ∧ (2048 ≤ c → c < 65536 → nth (enc (c : Int)) 0 = 224 + c / 4096) ∧ (65536 ≤ c → nth (enc (c : Int)) 0 = 240 + c / 262144) := by
  refine ⟨fun h => ?_, fun h h' => ?_, fun h h' => ?_, fun h => ?_⟩
  · have := (enc_nth c [(c : Int)] (enc_one (by omega) (by omega))).2 0 (by simp)
    simp at this; omega
  · have := (enc_nth c [192 + (c : Int) / 64, 128 + (c : Int) % 64] (enc_two (by omega) (by omega))).2 0 (by simp)
    simp at this; omega
  · have := (enc_nth c [224 + (c : Int) / 4096, 128 + (c : Int) / 64 % 64, 128 + (c : Int) % 64] (enc_three (by omega) (by omega) hf)).2 0 (by simp)
    simp at this; omega
  · have := (enc_nth c [240 + (c : Int) / 262144, 128 + (c : Int) / 4096 % 64, 128 + (c : Int) / 64 % 64, 128 + (c : Int) % 64] (enc_four (by omega) hf)).2 0 (by simp)
    simp at this; omega
theorem chk_eq {x j c k : Nat} (h : chk x j = (c, k)) (hk : k ≠ 0) : x = c ∧ fine (c : Int) = true ∧ width c = j := by
  rcases chk_cases x j with e | ⟨e, e1, e2⟩
  · rw [e] at h; cases h; exact absurd rfl hk
  · rw [e] at h; cases h; exact ⟨rfl, e1, e2⟩
/-- A character's first byte hangs on it. -/
theorem rune_first (l : List UInt8) (c k : Nat) (h : rune l = (c, k)) (hk : k ≠ 0) : nth (enc (c : Int)) 0 = nth l 0 := by
  unfold rune runeN at h
  have no : ((0 : Nat), (0 : Nat)) = (c, k) → False := by intro e; cases e; exact hk rfl
  split at h
  · exact (no h).elim
  · split at h
    · obtain ⟨h1, h2, h3⟩ := chk_eq h hk
      have hw := width_iff c
      rw [(enc_first c h2).1 (by omega)]; exact h1.symm
    · split at h
      · exact (no h).elim
      · split at h
        · split at h
          · obtain ⟨h1, h2, h3⟩ := chk_eq h hk
            have hw := width_iff c
            rw [(enc_first c h2).2.1 (by omega) (by omega)]; omega
          · exact (no h).elim
        · split at h
          · split at h
            · obtain ⟨h1, h2, h3⟩ := chk_eq h hk
              have hw := width_iff c
              rw [(enc_first c h2).2.2.1 (by omega) (by omega)]; omega
            · exact (no h).elim
          · split at h
            · split at h
              · rename_i hc
                obtain ⟨h1, h2, h3⟩ := chk_eq h hk
                have hw := width_iff c
                rw [(enc_first c h2).2.2.2 (by omega)]
                have e0 : nth l 1 - 128 < 64 := by omega
                have e1 : nth l 2 - 128 < 64 := by omega
                have e2 : nth l 3 - 128 < 64 := by omega
                unfold val4 at h1
                generalize nth l 1 - 128 = a1 at *
                generalize nth l 2 - 128 = a2 at *
                generalize nth l 3 - 128 = a3 at *
                clear hc hw
                omega
              · exact (no h).elim
            · exact (no h).elim

/-- A byte with one bit turned is another one. -/
theorem turned_all : ((List.range 256).all fun x => (List.range 8).all fun j => decide (0 ≤ bits .xor .u8 (x : Int) (2 ^ j % 256)) && decide (bits .xor .u8 (x : Int) (2 ^ j % 256) < 256) && decide (bits .xor .u8 (x : Int) (2 ^ j % 256) ≠ x)) = true := by decide +kernel
theorem turned (x : Nat) (hx : x < 256) (j : Nat) (hj : j < 8) : ∃ y : Nat, bits .xor .u8 (x : Int) (2 ^ j % 256) = (y : Int) ∧ y < 256 ∧ y ≠ x := by
  have h1 := List.all_eq_true.1 turned_all x (List.mem_range.2 hx)
  have h2 := List.all_eq_true.1 h1 j (List.mem_range.2 hj)
  simp only [Bool.and_eq_true, decide_eq_true_eq] at h2
  obtain ⟨⟨a, b⟩, c⟩ := h2
  obtain ⟨y, hy⟩ := Int.eq_ofNat_of_zero_le a
  exact ⟨y, hy, by omega, by omega⟩

/-- A turned first byte: another character, or none. -/
theorem rune_turned (d : Nat) (m : List UInt8) (hm : enc (d : Int) = m) (y : Nat) (hy : y < 256) (hne : y ≠ nth m 0) (hl : 0 < m.length) :
    runeR (m.set 0 (UInt8.ofNat y)) 0 = (0, 0, 4) ∨ ∃ x k : Nat, runeR (m.set 0 (UInt8.ofNat y)) 0 = (x, k, 0) ∧ x ≠ d ∧ k ≤ m.length := by
  have hl2 : ((m.set 0 (UInt8.ofNat y)).length : Int) = m.length := by simp
  have hn : nth (m.set 0 (UInt8.ofNat y)) 0 = y := by
    simp [nth, List.getD, hl]; omega
  unfold runeR
  rw [if_neg (by omega), show (0 : Int).toNat = 0 from rfl, List.drop_zero]
  by_cases h : (rune (m.set 0 (UInt8.ofNat y))).2 = 0
  · rw [if_pos h]; exact .inl rfl
  · rw [if_neg h]
    refine .inr ⟨_, _, rfl, fun e => ?_, ?_⟩
    · have := rune_first _ _ _ (show rune (m.set 0 (UInt8.ofNat y)) = ((rune (m.set 0 (UInt8.ofNat y))).1, (rune (m.set 0 (UInt8.ofNat y))).2) from rfl) h
      rw [e, hm, hn] at this
      exact hne this.symm
    · have := rune_le (m.set 0 (UInt8.ofNat y))
      simp at this; exact this.1
theorem cells_set (m : List UInt8) (y : Nat) (hy : y < 256) : (cellsOf m).set 0 (.int .u8 y) = cellsOf (m.set 0 (UInt8.ofNat y)) := by
  cases m with
  | nil => rfl
  | cons a r => simp [cellsOf]; omega

theorem rune_short (d : Nat) (hf : fine (d : Int) = true) (i : Nat) (hi : i < (enc (d : Int)).length) : rune ((enc (d : Int)).take i) = (0, 0) := by
  refine rune_none ?_
  by_cases h : (rune ((enc (d : Int)).take i)).2 = 0
  · exact h
  · exfalso
    have hl := rune_le ((enc (d : Int)).take i)
    simp at hl
    obtain ⟨k, hk⟩ : ∃ k, (rune ((enc (d : Int)).take i)).2 = k := ⟨_, rfl⟩
    have e := rune_own _ (enc (d : Int)) k hk (by omega) (by omega) (fun j hj => (nth_take _ _ _ (by omega)).symm)
    have e2 := rune_enc d hf []
    rw [List.append_nil] at e2
    rw [e2] at e
    rw [← e] at hl
    simp at hl
    omega

set_option maxHeartbeats 4000000 in
theorem UtfBack_walk (c : Int) (v : Value) (l : List UInt8) (bit : Int) (w : World) (hT : Tabs w) (hv : Bytes w v l) (hll : l.length ≤ 140737488351232) (hbit : 0 ≤ bit ∧ bit ≤ 255) :
    Calls Tryd.prog 5 #[.int .i64 c, v, .int .u8 bit] w fun e w' => e = .returned (.bool true) ∧ Below w.heap.size w w' := by
  obtain ⟨i0, hi, hz0, hz1, hz2⟩ := info_parts info8
  have HV := hid hv
  have HT := hid hT
  clear hv hT
  cases hf : fine c
  · have HP := hid (fun W => Put_no c hf W)
    clear hf
    go_enter Tryd.func5, Tryd.ntmps5
    go_wp2_with fail
    refine (HP.out _).mono ?_
    rintro e w3 ⟨rfl, rfl⟩
    go_wp2_with fail
    refine (alive_any _ HT.out).mono ?_
    rintro e w4 ⟨rfl, hb4⟩
    go_wp2_with fail
    go_ret
    exact ⟨rfl, hb4⟩
  · have HP := hid (fun W => Put_yes c hf W)
    obtain ⟨d, rfl⟩ := Int.eq_ofNat_of_zero_le (by have := (fine_iff c).1 hf; omega : 0 ≤ c)
    have hd : (d : Int) ≤ 1114111 := by have := (fine_iff (d : Int)).1 hf; omega
    have he := enc_len d
    have hre := rune_enc d hf l
    have HS := hid (fun i hi => rune_short d hf i hi)
    have HF := hid hf
    have hrr : runeR (enc (d : Int) ++ l) 0 = (d, (enc (d : Int)).length, 0) := by
      unfold runeR
      rw [if_neg (by rw [List.length_append]; omega), show (0 : Int).toNat = 0 from rfl, List.drop_zero, hre, if_neg (by show (enc (d : Int)).length ≠ 0; omega)]
    have HR := hid hrr
    clear hf hre hrr
    obtain ⟨m, hm⟩ : ∃ m, enc (d : Int) = m := ⟨_, rfl⟩
    rw [hm] at HP HS HR he
    have HM := hid hm
    clear hm
    go_enter Tryd.func5, Tryd.ntmps5
    go_wp2_with fail
    refine (HP.out _).mono ?_
    rintro e w3 ⟨v3, rfl, hown3, hb3⟩
    have HO3 := hid hown3
    have HV3 := hid (Bytes.ofOwns hown3 (by omega))
    have hlen3 := fun W => HV3.out.len (P := Tryd.prog) 22 3 5 underB W
    clear hown3
    go_wp2_with (at_builtin; refine wpList_append_row rfl _ _ 22 rfl w3.heap.size 5 i0 (.int .u8 0) 1 1 underB hi hz0 hz1 hz2 rfl (by decide) _ _ _ rfl (owns_empty w3 _ 1 _ (Nat.le_refl _)) _ _ _ rfl (HV3.out.alloc _) (cellsOf_one _) ?c1 ?c2 ?c3 ?_)
    case c1 => omega
    case c2 => unfold maxLen; omega
    case c3 => simp
    intro v4 w4 hown4 hg4
    have hb34 := grown_below (ba (b0 w3) _) (owns_empty w3 5 1 _ (Nat.le_refl _)) (Nat.le_refl _) hg4
    clear hg4
    go_wp2_with (at_builtin; refine wpList_append_row rfl _ _ 22 rfl w3.heap.size 5 i0 (.int .u8 0) 1 1 underB hi hz0 hz1 hz2 rfl (by decide) _ _ _ rfl hown4 _ _ _ rfl (HV.out.below (bt hb3 hb34) (Nat.le_refl _)) (cellsOf_one _) ?d1 ?d2 ?d3 ?_)
    case d1 => omega
    case d2 => unfold maxLen; omega
    case d3 => exact hb34.size
    intro v5 w5 hown5 hg5
    have hb35 := grown_below hb34 hown4 (Nat.le_refl _) hg5
    have HJ := hid (Bytes_join hown5 (by omega))
    clear hown4 hown5 hg5 hb34
    go_wp2_with fail
    refine (Rune_eq _ _ 0 _ (HT.out.below (bt hb3 hb35) (Nat.le_refl _)) HJ.out _ _ _ HR.out).mono ?_
    rintro e w6 ⟨rfl, hb6⟩
    have hb36 := bt hb35 hb6
    clear hb35 hb6
    go_wp2_with fail
    go_loopw [12] (fun i wr => ∃ k : Nat, i = .int .i64 k ∧ 1 ≤ k ∧ k ≤ m.length ∧ Below w3.heap.size w3 wr) (fun i _ => m.length - (intOf i).toNat)
    case atStart => exact ⟨1, rfl, by omega, by omega, hb36⟩
    case round =>
      obtain ⟨k, rfl, hk1, hk2, hbr⟩ := hrel
      by_cases hlt : k < m.length
      · obtain ⟨v', _, _, a3, hv'⟩ := (HV3.out.below hbr (Nat.le_refl _)).sub 0 k (by omega) (by omega) 22 5 underB size8
        have a4 := a3 rfl
        rw [List.drop_zero, Nat.sub_zero] at hv'
        have hs := HS.out k hlt
        have hrs : runeR (m.take k) 0 = (0, 0, 4) := by
          unfold runeR
          rw [if_neg (by rw [List.length_take]; omega), show (0 : Int).toNat = 0 from rfl, List.drop_zero, hs]
          rfl
        have HRK := hid (Rune_eq v' _ 0 _ (HT.out.below (bt hb3 hbr) (Nat.le_refl _)) hv' _ _ _ hrs)
        have HB := hid hbr
        clear a3 hv' hs hrs hbr
        go_wp2_with fail
        refine HRK.out.mono ?_
        rintro e w7 ⟨rfl, hb7⟩
        go_wp2_with fail
        go_roundw
        case rel => exact ⟨k + 1, by go_num, by omega, by omega, bt HB.out hb7⟩
        case measure => simp [intOf]; omega
      · obtain ⟨g, a1, a2, a3, a4, a5, a6⟩ := owns_at (owns_later HO3.out hbr) 0 (by omega) 22 underB size8
        have a1' : ∀ k W, (Instr.indexAt 22 v3 (.int k 0)).run Tryd.prog W = .ok (.pointer (some ⟨g, 0, none⟩)) W := a1
        have hc0 : wr.cell? ⟨g, 0, none⟩ = some (.int .u8 (nth m 0)) := a2 _ (by
          rw [← nth_get (l := m) (i := 0) (by omega)]
          simp [cellsOf, show 0 < m.length from by omega])
        obtain ⟨y, hy, hy8, hyn⟩ := turned (nth m 0) (nth_lt _ _) (bit % 8).toNat (by omega)
        have hown := a6 (.int .u8 y)
        rw [cells_set m y hy8] at hown
        have hml : m.length = (m.set 0 (UInt8.ofNat y)).length := by simp
        have hB := Bytes.ofOwns (l := m.set 0 (UInt8.ofNat y)) (by rw [← hml]; exact hown) (by rw [← hml]; omega)
        have hbs := (bt hb3 hbr).setCell (p := ⟨g, 0, none⟩) a4 (.int .u8 y)
        have HBS := hid hbs
        have HB := hid hB
        have HY := hid hy
        have hcase := rune_turned d m HM.out y hy8 hyn (by omega)
        have HC := hid hcase
        clear a1 a2 hy hown hml hB hbs a4 a5 a6 hbr hcase
        go_wp2_with fail
        rw [HY.out]
        rcases HC.out with hr | ⟨x, kk, hr, hx, hkk⟩
        · refine (Rune_eq _ _ 0 _ (HT.out.below HBS.out (Nat.le_refl _)) HB.out _ _ _ hr).mono ?_
          rintro e w8 ⟨rfl, hb8⟩
          clear hr
          go_wp2_with fail
          refine (alive_any _ (HT.out.below (bt HBS.out hb8) (Nat.le_refl _))).mono ?_
          rintro e w9 ⟨rfl, hb9⟩
          go_wp2_with fail
          go_ret
          exact ⟨rfl, bt (bt HBS.out hb8) hb9⟩
        · refine (Rune_eq _ _ 0 _ (HT.out.below HBS.out (Nat.le_refl _)) HB.out _ _ _ hr).mono ?_
          rintro e w8 ⟨rfl, hb8⟩
          have hx2 : ((x : Int) != d) = true := by rw [bne_iff_ne]; omega
          clear hr hx
          go_wp2_with fail
          refine (alive_any _ (HT.out.below (bt HBS.out hb8) (Nat.le_refl _))).mono ?_
          rintro e w9 ⟨rfl, hb9⟩
          go_wp2_with fail
          go_ret
          refine ⟨?_, bt (bt HBS.out hb8) hb9⟩
          first | rfl | (simp; done) | (simp; omega)
end Utf
end Go.Proofs.YtceabdoeffahmaaDoor
