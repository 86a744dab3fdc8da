/- Layer 8: contracts of the document's own answers: hex, sign. (gen_flB.py) -/
import Derived.Test.YtblpckeimdmpaaaGreatDoorFlA
set_option linter.unusedVariables false
set_option linter.unusedSimpArgs false
namespace Go.Proofs.YtblpckeimdmpaaaGreatDoor.Fl
open Go Go.Proofs.YtblpckeimdmpaaaGreatDoor Go.Proofs.YtblpckeimdmpaaaGreatDoor.Utf Go.Proofs.YtblpckeimdmpaaaGreatDoor.Names Go.RowKit
set_option maxRecDepth 100000

theorem list_no {x y : List UInt8} (h : ¬ x = y) : ((text x).toList == y) = false := by rw [Lib.toList_data, text_data, beq_eq_false_iff_ne]; exact h
theorem list_yes {x y : List UInt8} (h : x = y) : ((text x).toList == y) = true := by rw [Lib.toList_data, text_data, beq_iff_eq]; exact h
theorem hexF_step {k x : Nat} {l : List UInt8} {i : Nat} {b : UInt8} (h : l[i]? = some b) : hexF (k + 1) x (l.drop i) = match hexV b.toNat with | some v => hexF k (16 * x + v) (l.drop (i + 1)) | none => none := by
  obtain ⟨h1, rfl⟩ := List.getElem?_eq_some_iff.1 h
  rw [List.drop_eq_getElem_cons h1]; rfl
theorem hexF_end {k x : Nat} {l : List UInt8} {i : Nat} (h : l.length ≤ i) : hexF (k + 1) x (l.drop i) = none := by
  rw [List.drop_eq_nil_of_le h]; rfl
def hexZ : Option Nat → Int
  | some x => x
  | none => -1
theorem pow16 {j : Nat} (h : j ≤ 4) : 16 ^ j ≤ 65536 := by
  have : 16 ^ j ≤ 16 ^ 4 := Nat.pow_le_pow_right (by omega) h
  omega

set_option maxHeartbeats 1000000 in
theorem hex_any (l : List UInt8) (i : Nat) (hl : l.length ≤ 1000000000) (hi : i ≤ 1000000010) (w : World) :
    Calls Tryz.prog 48 #[.string (text l), .int .i64 i] w fun e w' => e = .returned (.int .i64 (hexZ (hex4 (l.drop i)))) ∧ w = w' := by
  have s1 := text_size l
  obtain ⟨R, hR⟩ : ∃ R, hex4 (l.drop i) = R := ⟨_, rfl⟩
  rw [hR]
  unfold hex4 at hR
  have HR := hid hR
  clear hR
  go_enter Tryz.func48, Tryz.ntmps48
  go_wp2_with fail
  go_loop [5, 6] (fun x k => ∃ j y : Nat, j ≤ 4 ∧ x = .int .i64 y ∧ k = .int .i64 ((i + j : Nat) : Int) ∧ y < 16 ^ j ∧ Hid (hexF (4 - j) y (l.drop (i + j)) = R)) (fun _ k => i + 4 - (intOf k).toNat)
  case atStart => exact ⟨0, 0, by omega, rfl, rfl, by omega, HR⟩
  case round =>
    obtain ⟨j, y, hj, rfl, rfl, hy, HJ⟩ := hrel
    have hp := pow16 hj
    have hk1 : i + (j + 1) = i + j + 1 := by omega
    have hki : i ≤ i + j := by omega
    have hki4 : (((i + j : Nat) : Int) < (i : Int) + 4) ↔ j < 4 := by omega
    have hp1 : 16 ^ (j + 1) = 16 * 16 ^ j := by rw [Nat.pow_succ]; omega
    have hkm : i + j ≤ 1000000020 := by omega
    rcases Nat.lt_or_ge j 4 with hj4 | hj4
    · have g1 : ((i + j : Nat) : Int) < (i : Int) + 4 := hki4.2 hj4
      have g2 : i + j < i + 4 := by omega
      obtain ⟨t, ht⟩ : ∃ t, 4 - j = t + 1 := ⟨3 - j, by omega⟩
      have ht' : 4 - (j + 1) = t := by omega
      have hH := HJ.out
      rw [ht] at hH
      have hmeas : i + 4 - (i + j + 1) < i + 4 - (i + j) := by omega
      generalize i + j = k at *
      clear hki4
      rcases Nat.lt_or_ge k l.length with hlt | hge
      · obtain ⟨b, hbk⟩ : ∃ b, l[k]? = some b := ⟨l[k], List.getElem?_eq_getElem hlt⟩
        have hx : k < (text l).size := by omega
        have hn : ((text l)[k]'hx) = b := (List.getElem?_eq_some_iff.1 hbk).2
        rw [hexF_step hbk, ← hn] at hH
        clear hbk hn
        have hb : ((text l)[k]'hx).toNat < 256 := UInt8.toNat_lt _
        have hq1 : ¬ (l.length : Int) ≤ (k : Int) := by omega
        have hq2 : ¬ l.length ≤ k := by omega
        have hwr : IntKind.i64.wrap (((text l)[k]'hx).toNat : Int) = (((text l)[k]'hx).toNat : Int) := IntWalk.i64_in _ ⟨by omega, by omega⟩
        have hcase : ∀ n : Nat, n < 48 ∨ (48 ≤ n ∧ n ≤ 57) ∨ (58 ≤ n ∧ n ≤ 64) ∨ (65 ≤ n ∧ n ≤ 70) ∨ (71 ≤ n ∧ n ≤ 96) ∨ (97 ≤ n ∧ n ≤ 102) ∨ 103 ≤ n := by intro n; omega
        rcases hcase ((text l)[k]'hx).toNat with hc | hc | hc | hc | hc | hc | hc
        · skip
          have e0 : ¬ (48 ≤ (((text l)[k]'hx).toNat : Int)) := by omega
          have r0 : ¬ (48 ≤ ((text l)[k]'hx).toNat) := by omega
          have e1 : (((text l)[k]'hx).toNat : Int) ≤ 57 := by omega
          have r1 : ((text l)[k]'hx).toNat ≤ 57 := by omega
          have e2 : ¬ (97 ≤ (((text l)[k]'hx).toNat : Int)) := by omega
          have r2 : ¬ (97 ≤ ((text l)[k]'hx).toNat) := by omega
          have e3 : (((text l)[k]'hx).toNat : Int) ≤ 102 := by omega
          have r3 : ((text l)[k]'hx).toNat ≤ 102 := by omega
          have e4 : ¬ (65 ≤ (((text l)[k]'hx).toNat : Int)) := by omega
          have r4 : ¬ (65 ≤ ((text l)[k]'hx).toNat) := by omega
          have e5 : (((text l)[k]'hx).toNat : Int) ≤ 70 := by omega
          have r5 : ((text l)[k]'hx).toNat ≤ 70 := by omega
          have hv : hexV ((text l)[k]'hx).toNat = none := by unfold hexV; rw [if_neg (by omega), if_neg (by omega), if_neg (by omega)]
          rw [hv] at hH
          have HE := hid hH
          clear hH hv hc HJ hk1 hp hp1 hki hkm ht ht' hmeas hy hj hj4 hb
          go_wp2
          go_ret
          exact ⟨by rw [← HE.out]; rfl, rfl⟩
        · skip
          have e0 : 48 ≤ (((text l)[k]'hx).toNat : Int) := by omega
          have r0 : 48 ≤ ((text l)[k]'hx).toNat := by omega
          have e1 : (((text l)[k]'hx).toNat : Int) ≤ 57 := by omega
          have r1 : ((text l)[k]'hx).toNat ≤ 57 := by omega
          have e2 : ¬ (97 ≤ (((text l)[k]'hx).toNat : Int)) := by omega
          have r2 : ¬ (97 ≤ ((text l)[k]'hx).toNat) := by omega
          have e3 : (((text l)[k]'hx).toNat : Int) ≤ 102 := by omega
          have r3 : ((text l)[k]'hx).toNat ≤ 102 := by omega
          have e4 : ¬ (65 ≤ (((text l)[k]'hx).toNat : Int)) := by omega
          have r4 : ¬ (65 ≤ ((text l)[k]'hx).toNat) := by omega
          have e5 : (((text l)[k]'hx).toNat : Int) ≤ 70 := by omega
          have r5 : ((text l)[k]'hx).toNat ≤ 70 := by omega
          obtain ⟨v, hv0⟩ : ∃ v, ((text l)[k]'hx).toNat - 48 = v := ⟨_, rfl⟩
          have hv : hexV ((text l)[k]'hx).toNat = some v := by unfold hexV; rw [if_pos (by omega)]; rw [hv0]
          have hv16 : v < 16 := by omega
          have hvi : (((text l)[k]'hx).toNat : Int) - 48 = (v : Int) := by omega
          rw [hv] at hH
          have hy2 : 16 * y + v < 16 ^ (j + 1) := by omega
          have HE := hid (show hexF (4 - (j + 1)) (16 * y + v) (l.drop (k + 1)) = R by rw [ht']; exact hH)
          have hyb : y ≤ 65536 := by omega
          have HF := hid (And.intro hj4 (And.intro hk1 (And.intro hy2 hmeas)))
          clear hH hv hc HJ hv0 hk1 hp hp1 hki hkm ht ht' hmeas hy hy2 hj hj4 hb
          go_wp2
          go_round
          case rel => exact ⟨j + 1, 16 * y + v, HF.out.1, by go_num, by rw [HF.out.2.1]; go_num, HF.out.2.2.1, by rw [HF.out.2.1]; exact HE⟩
          case measure => have := HF.out.2.2.2; simp [intOf]; omega
        · skip
          have e0 : 48 ≤ (((text l)[k]'hx).toNat : Int) := by omega
          have r0 : 48 ≤ ((text l)[k]'hx).toNat := by omega
          have e1 : ¬ ((((text l)[k]'hx).toNat : Int) ≤ 57) := by omega
          have r1 : ¬ (((text l)[k]'hx).toNat ≤ 57) := by omega
          have e2 : ¬ (97 ≤ (((text l)[k]'hx).toNat : Int)) := by omega
          have r2 : ¬ (97 ≤ ((text l)[k]'hx).toNat) := by omega
          have e3 : (((text l)[k]'hx).toNat : Int) ≤ 102 := by omega
          have r3 : ((text l)[k]'hx).toNat ≤ 102 := by omega
          have e4 : ¬ (65 ≤ (((text l)[k]'hx).toNat : Int)) := by omega
          have r4 : ¬ (65 ≤ ((text l)[k]'hx).toNat) := by omega
          have e5 : (((text l)[k]'hx).toNat : Int) ≤ 70 := by omega
          have r5 : ((text l)[k]'hx).toNat ≤ 70 := by omega
          have hv : hexV ((text l)[k]'hx).toNat = none := by unfold hexV; rw [if_neg (by omega), if_neg (by omega), if_neg (by omega)]
          rw [hv] at hH
          have HE := hid hH
          clear hH hv hc HJ hk1 hp hp1 hki hkm ht ht' hmeas hy hj hj4 hb
          go_wp2
          go_ret
          exact ⟨by rw [← HE.out]; rfl, rfl⟩
        · skip
          have e0 : 48 ≤ (((text l)[k]'hx).toNat : Int) := by omega
          have r0 : 48 ≤ ((text l)[k]'hx).toNat := by omega
          have e1 : ¬ ((((text l)[k]'hx).toNat : Int) ≤ 57) := by omega
          have r1 : ¬ (((text l)[k]'hx).toNat ≤ 57) := by omega
          have e2 : ¬ (97 ≤ (((text l)[k]'hx).toNat : Int)) := by omega
          have r2 : ¬ (97 ≤ ((text l)[k]'hx).toNat) := by omega
          have e3 : (((text l)[k]'hx).toNat : Int) ≤ 102 := by omega
          have r3 : ((text l)[k]'hx).toNat ≤ 102 := by omega
          have e4 : 65 ≤ (((text l)[k]'hx).toNat : Int) := by omega
          have r4 : 65 ≤ ((text l)[k]'hx).toNat := by omega
          have e5 : (((text l)[k]'hx).toNat : Int) ≤ 70 := by omega
          have r5 : ((text l)[k]'hx).toNat ≤ 70 := by omega
          obtain ⟨v, hv0⟩ : ∃ v, ((text l)[k]'hx).toNat - 55 = v := ⟨_, rfl⟩
          have hv : hexV ((text l)[k]'hx).toNat = some v := by unfold hexV; rw [if_neg (by omega), if_neg (by omega), if_pos (by omega)]; rw [hv0]
          have hv16 : v < 16 := by omega
          have hvi : (((text l)[k]'hx).toNat : Int) - 55 = (v : Int) := by omega
          rw [hv] at hH
          have hy2 : 16 * y + v < 16 ^ (j + 1) := by omega
          have HE := hid (show hexF (4 - (j + 1)) (16 * y + v) (l.drop (k + 1)) = R by rw [ht']; exact hH)
          have hyb : y ≤ 65536 := by omega
          have HF := hid (And.intro hj4 (And.intro hk1 (And.intro hy2 hmeas)))
          clear hH hv hc HJ hv0 hk1 hp hp1 hki hkm ht ht' hmeas hy hy2 hj hj4 hb
          go_wp2
          go_round
          case rel => exact ⟨j + 1, 16 * y + v, HF.out.1, by go_num, by rw [HF.out.2.1]; go_num, HF.out.2.2.1, by rw [HF.out.2.1]; exact HE⟩
          case measure => have := HF.out.2.2.2; simp [intOf]; omega
        · skip
          have e0 : 48 ≤ (((text l)[k]'hx).toNat : Int) := by omega
          have r0 : 48 ≤ ((text l)[k]'hx).toNat := by omega
          have e1 : ¬ ((((text l)[k]'hx).toNat : Int) ≤ 57) := by omega
          have r1 : ¬ (((text l)[k]'hx).toNat ≤ 57) := by omega
          have e2 : ¬ (97 ≤ (((text l)[k]'hx).toNat : Int)) := by omega
          have r2 : ¬ (97 ≤ ((text l)[k]'hx).toNat) := by omega
          have e3 : (((text l)[k]'hx).toNat : Int) ≤ 102 := by omega
          have r3 : ((text l)[k]'hx).toNat ≤ 102 := by omega
          have e4 : 65 ≤ (((text l)[k]'hx).toNat : Int) := by omega
          have r4 : 65 ≤ ((text l)[k]'hx).toNat := by omega
          have e5 : ¬ ((((text l)[k]'hx).toNat : Int) ≤ 70) := by omega
          have r5 : ¬ (((text l)[k]'hx).toNat ≤ 70) := by omega
          have hv : hexV ((text l)[k]'hx).toNat = none := by unfold hexV; rw [if_neg (by omega), if_neg (by omega), if_neg (by omega)]
          rw [hv] at hH
          have HE := hid hH
          clear hH hv hc HJ hk1 hp hp1 hki hkm ht ht' hmeas hy hj hj4 hb
          go_wp2
          go_ret
          exact ⟨by rw [← HE.out]; rfl, rfl⟩
        · skip
          have e0 : 48 ≤ (((text l)[k]'hx).toNat : Int) := by omega
          have r0 : 48 ≤ ((text l)[k]'hx).toNat := by omega
          have e1 : ¬ ((((text l)[k]'hx).toNat : Int) ≤ 57) := by omega
          have r1 : ¬ (((text l)[k]'hx).toNat ≤ 57) := by omega
          have e2 : 97 ≤ (((text l)[k]'hx).toNat : Int) := by omega
          have r2 : 97 ≤ ((text l)[k]'hx).toNat := by omega
          have e3 : (((text l)[k]'hx).toNat : Int) ≤ 102 := by omega
          have r3 : ((text l)[k]'hx).toNat ≤ 102 := by omega
          have e4 : 65 ≤ (((text l)[k]'hx).toNat : Int) := by omega
          have r4 : 65 ≤ ((text l)[k]'hx).toNat := by omega
          have e5 : ¬ ((((text l)[k]'hx).toNat : Int) ≤ 70) := by omega
          have r5 : ¬ (((text l)[k]'hx).toNat ≤ 70) := by omega
          obtain ⟨v, hv0⟩ : ∃ v, ((text l)[k]'hx).toNat - 87 = v := ⟨_, rfl⟩
          have hv : hexV ((text l)[k]'hx).toNat = some v := by unfold hexV; rw [if_neg (by omega), if_pos (by omega)]; rw [hv0]
          have hv16 : v < 16 := by omega
          have hvi : (((text l)[k]'hx).toNat : Int) - 87 = (v : Int) := by omega
          rw [hv] at hH
          have hy2 : 16 * y + v < 16 ^ (j + 1) := by omega
          have HE := hid (show hexF (4 - (j + 1)) (16 * y + v) (l.drop (k + 1)) = R by rw [ht']; exact hH)
          have hyb : y ≤ 65536 := by omega
          have HF := hid (And.intro hj4 (And.intro hk1 (And.intro hy2 hmeas)))
          clear hH hv hc HJ hv0 hk1 hp hp1 hki hkm ht ht' hmeas hy hy2 hj hj4 hb
          go_wp2
          go_round
          case rel => exact ⟨j + 1, 16 * y + v, HF.out.1, by go_num, by rw [HF.out.2.1]; go_num, HF.out.2.2.1, by rw [HF.out.2.1]; exact HE⟩
          case measure => have := HF.out.2.2.2; simp [intOf]; omega
        · skip
          have e0 : 48 ≤ (((text l)[k]'hx).toNat : Int) := by omega
          have r0 : 48 ≤ ((text l)[k]'hx).toNat := by omega
          have e1 : ¬ ((((text l)[k]'hx).toNat : Int) ≤ 57) := by omega
          have r1 : ¬ (((text l)[k]'hx).toNat ≤ 57) := by omega
          have e2 : 97 ≤ (((text l)[k]'hx).toNat : Int) := by omega
          have r2 : 97 ≤ ((text l)[k]'hx).toNat := by omega
          have e3 : ¬ ((((text l)[k]'hx).toNat : Int) ≤ 102) := by omega
          have r3 : ¬ (((text l)[k]'hx).toNat ≤ 102) := by omega
          have e4 : 65 ≤ (((text l)[k]'hx).toNat : Int) := by omega
          have r4 : 65 ≤ ((text l)[k]'hx).toNat := by omega
          have e5 : ¬ ((((text l)[k]'hx).toNat : Int) ≤ 70) := by omega
          have r5 : ¬ (((text l)[k]'hx).toNat ≤ 70) := by omega
          have hv : hexV ((text l)[k]'hx).toNat = none := by unfold hexV; rw [if_neg (by omega), if_neg (by omega), if_neg (by omega)]
          rw [hv] at hH
          have HE := hid hH
          clear hH hv hc HJ hk1 hp hp1 hki hkm ht ht' hmeas hy hj hj4 hb
          go_wp2
          go_ret
          exact ⟨by rw [← HE.out]; rfl, rfl⟩
      · rw [hexF_end hge] at hH
        have HE := hid hH
        have hq1 : (l.length : Int) ≤ (k : Int) := by omega
        clear hH HJ hk1 hp hp1 hki hkm ht ht' hmeas hy hj hj4
        go_wp2
        go_ret
        exact ⟨by rw [← HE.out]; rfl, rfl⟩
    · have hj' : j = 4 := by omega
      subst hj'
      have HE := hid (show some y = R from HJ.out)
      have g1 : ¬ ((i + 4 : Nat) : Int) < (i : Int) + 4 := by omega
      have g2 : ¬ i + 4 < i + 4 := by omega
      clear HJ hki4 hk1 hp hp1 hki hkm hy hj hj4
      go_wp2
      go_ret
      exact ⟨by rw [← HE.out]; rfl, rfl⟩

end Go.Proofs.YtblpckeimdmpaaaGreatDoor.Fl
