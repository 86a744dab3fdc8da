/- Layer 3: the walk of EntityPlain. -/
import Derived.Test.YtabplemabcahgaaDoorEntM
set_option linter.unusedVariables false
set_option linter.unusedSimpArgs false
namespace Go.Proofs.YtabplemabcahgaaDoor.Ent
open Go Go.Proofs.YtabplemabcahgaaDoor Go.Proofs.YtabplemabcahgaaDoor.Utf Go.Proofs.YtabplemabcahgaaDoor.Names Go.RowKit
set_option maxRecDepth 100000

theorem fin_zero (l o : List UInt8) (n k : Nat) : fin l n (o, k, 0) = (l ++ o, n + k, 0) := rfl
theorem plain_end1 : tell false [38, 35, 120, 50, 54, 59] = ([38], 6, 0) := by decide +kernel
theorem plain_end2 : tell true [38, 35, 49, 48, 59] = ([10], 5, 0) := by decide +kernel
theorem plain_1 (v : Bool) (l : List UInt8) (h : check l = l.length) (hc : calm l) : tell v l = (l, l.length, 0) := by
  have := tell_calm v l h [] hc
  rw [List.append_nil, tell_nil, fin_zero, List.append_nil, Nat.add_zero] at this
  exact this
theorem plain_2 (l : List UInt8) (h : check l = l.length) (hc : calm l) : tell false ([38, 108, 116, 59] ++ l ++ [38, 35, 120, 50, 54, 59]) = ([60] ++ l ++ [38], 4 + (l.length + 6), 0) := by
  have e : [38, 108, 116, 59] ++ l ++ [38, 35, 120, 50, 54, 59] = 38 :: (([108, 116] : List UInt8) ++ 59 :: (l ++ [38, 35, 120, 50, 54, 59])) := by simp
  rw [e, tell_ref (by decide) (show referred [108, 116] = some 60 from by decide), tell_calm false l h _ hc, plain_end1, fin_zero, fin_zero, enc_low (by omega)]
  simp
theorem plain_3 (l : List UInt8) (h : check l = l.length) (hc : calm l) : tell true ([38, 113, 117, 111, 116, 59] ++ l ++ [38, 35, 49, 48, 59]) = ([34] ++ l ++ [10], 6 + (l.length + 5), 0) := by
  have e : [38, 113, 117, 111, 116, 59] ++ l ++ [38, 35, 49, 48, 59] = 38 :: (([113, 117, 111, 116] : List UInt8) ++ 59 :: (l ++ [38, 35, 49, 48, 59])) := by simp
  rw [e, tell_ref (by decide) (show referred [113, 117, 111, 116] = some 34 from by decide), tell_calm true l h _ hc, plain_end2, fin_zero, fin_zero, enc_low (by omega)]
  simp
theorem add_text (p l q : List UInt8) (a b : Array UInt8) (ha : a.toList = p) (hb : b.toList = q) : (⟨a⟩ : ByteArray) ++ text l ++ (⟨b⟩ : ByteArray) = text (p ++ l ++ q) := by
  have e1 : (⟨a⟩ : ByteArray) = text p := by rw [← ha]; simp [text]
  have e2 : (⟨b⟩ : ByteArray) = text q := by rw [← hb]; simp [text]
  rw [e1, e2, text_append, text_append]
theorem size_lit (a : Array UInt8) : (⟨a⟩ : ByteArray).size = a.size := rfl

set_option maxHeartbeats 2000000 in
theorem EntityPlain_walk (s : ByteArray) (w : World) (hw : Fit w) :
    Calls Tryd.prog 8 #[.string s] w fun e w' => e = .returned (.bool true) ∧ Below w.heap.size w w' := by
  have HW := hid hw
  clear hw
  obtain ⟨l, rfl, hls⟩ := text_of s
  have s1 : (text l).size = l.length := text_size l
  clear hls
  by_cases hl : l.length ≤ 1000
  · obtain ⟨vb, w1, hcv, hvb, hb1, _⟩ := conv_at (P := Tryd.prog) l (by omega) 9 34 5 under9 underB under8 w
    have HC := hid (RCheck_any vb l w1 (hvb w1 rfl))
    have HB1 := hid hb1
    clear hvb hb1
    by_cases hc : check l = l.length
    · rw [hc] at HC
      have HCK := hid hc
      have hl2 : ¬ (1000 : Int) < (l.length : Int) := by omega
      clear hc
      go_enter Tryd.func8, Tryd.ntmps8
      go_wp2_with fail
      refine HC.out.mono ?_
      rintro e w2 ⟨rfl, hb2⟩
      have HB2 := hid (bt HB1.out hb2)
      clear hb2 hcv
      go_wp2_with fail
      go_loop [31] (fun i => ∃ k : Nat, k ≤ l.length ∧ i = .int .i64 k ∧ calm (l.take k)) (fun i => l.length - (intOf i).toNat)
      case atStart => exact ⟨0, by omega, rfl, fun b hb => by simp at hb⟩
      case round =>
        obtain ⟨k, hk, rfl, hcm⟩ := hrel
        have HCM := hid hcm
        clear hcm
        by_cases hlt : k < l.length
        · have hps : k < (text l).size := by rw [s1]; exact hlt
          have hg := text_get l k hlt
          have hb256 : (((text l)[k]'hps)).toNat < 256 := UInt8.toNat_lt _
          have hnx : (((text l)[k]'hps).toNat ≠ 38 ∧ ((text l)[k]'hps).toNat ≠ 60 ∧ ((text l)[k]'hps).toNat ≠ 13 ∧ ((text l)[k]'hps).toNat ≠ 10 ∧ ((text l)[k]'hps).toNat ≠ 9) → calm (l.take (k + 1)) := by
            intro h b hb
            rw [List.take_succ_eq_append_getElem hlt, List.mem_append] at hb
            rcases hb with hb | hb
            · exact HCM.out b hb
            · obtain rfl : b = l[k]'hlt := by simpa using hb
              have h' : (l[k]'hlt).toNat ≠ 38 ∧ (l[k]'hlt).toNat ≠ 60 ∧ (l[k]'hlt).toNat ≠ 13 ∧ (l[k]'hlt).toNat ≠ 10 ∧ (l[k]'hlt).toNat ≠ 9 := h
              refine ⟨fun e => ?_, fun e => ?_, fun e => ?_, fun e => ?_, fun e => ?_⟩ <;> (rw [e] at h'; simp at h')
          have HNX := hid hnx
          clear hnx hg
          by_cases c : ((text l)[k]'hps).toNat ≠ 38 ∧ ((text l)[k]'hps).toNat ≠ 60 ∧ ((text l)[k]'hps).toNat ≠ 13 ∧ ((text l)[k]'hps).toNat ≠ 10 ∧ ((text l)[k]'hps).toNat ≠ 9
          · have HX := hid (HNX.out c)
            obtain ⟨c1, c2, c3, c4, c5⟩ := c
            have d1 : ¬ (((text l)[k]'hps).toNat : Int) = 38 := by omega
            have d2 : ¬ (((text l)[k]'hps).toNat : Int) = 60 := by omega
            have d3 : ¬ (((text l)[k]'hps).toNat : Int) = 13 := by omega
            have d4 : ¬ (((text l)[k]'hps).toNat : Int) = 10 := by omega
            have d5 : ¬ (((text l)[k]'hps).toNat : Int) = 9 := by omega
            clear c1 c2 c3 c4 c5 HNX
            go_wp2_with fail
            all_goals first
              | (exfalso; omega)
              | (exfalso; simp_all; done)
              | (go_round
                 case rel => exact ⟨k + 1, by omega, by go_num, HX.out⟩
                 case measure => simp [intOf]; omega)
          · have hor : (((text l)[k]'hps).toNat : Int) = 38 ∨ (¬ (((text l)[k]'hps).toNat : Int) = 38 ∧ (((text l)[k]'hps).toNat : Int) = 60) ∨ (¬ (((text l)[k]'hps).toNat : Int) = 38 ∧ ¬ (((text l)[k]'hps).toNat : Int) = 60 ∧ (((text l)[k]'hps).toNat : Int) = 13) ∨ (¬ (((text l)[k]'hps).toNat : Int) = 38 ∧ ¬ (((text l)[k]'hps).toNat : Int) = 60 ∧ ¬ (((text l)[k]'hps).toNat : Int) = 13 ∧ (((text l)[k]'hps).toNat : Int) = 10) ∨ (¬ (((text l)[k]'hps).toNat : Int) = 38 ∧ ¬ (((text l)[k]'hps).toNat : Int) = 60 ∧ ¬ (((text l)[k]'hps).toNat : Int) = 13 ∧ ¬ (((text l)[k]'hps).toNat : Int) = 10 ∧ (((text l)[k]'hps).toNat : Int) = 9) := by omega
            clear c HNX
            rcases hor with d1 | ⟨d1, d2⟩ | ⟨d1, d2, d3⟩ | ⟨d1, d2, d3, d4⟩ | ⟨d1, d2, d3, d4, d5⟩
            all_goals
              go_wp2_with fail
              all_goals first
                | (exfalso; omega)
                | (refine (alive_any _ (HW.out.below HB2.out)).mono ?_
                   rintro e w5 ⟨rfl, hb5⟩
                   go_wp2
                   go_ret
                   exact ⟨rfl, bt HB2.out hb5⟩)
                | (exfalso; simp_all; done)
        · have hkl : k = l.length := by omega
          have hcl : calm l := by have := HCM.out; rwa [hkl, List.take_length] at this
          have p1 := plain_1 false l HCK.out hcl
          have p2 := plain_1 true l HCK.out hcl
          have p3 := plain_2 l HCK.out hcl
          have p4 := plain_3 l HCK.out hcl
          have t1 := fun w hw => Text_eq l (by omega) _ _ _ p1 _ rfl w hw
          have t2 := fun w hw => Value_eq l (by omega) _ _ _ p2 _ rfl w hw
          have t3 := fun w hw => Text_eq _ (by simp; omega) _ _ _ p3 _ rfl w hw
          have t4 := fun w hw => Value_eq _ (by simp; omega) _ _ _ p4 _ rfl w hw
          rw [← add_text _ _ _ #[38, 108, 116, 59] #[38, 35, 120, 50, 54, 59] rfl rfl] at t3
          rw [← add_text _ _ _ #[38, 113, 117, 111, 116, 59] #[38, 35, 49, 48, 59] rfl rfl] at t4
          have u1 : (⟨#[60]⟩ : ByteArray) ++ text l ++ (⟨#[38]⟩ : ByteArray) = text ([60] ++ l ++ [38]) := add_text _ _ _ _ _ rfl rfl
          have u2 : (⟨#[34]⟩ : ByteArray) ++ text l ++ (⟨#[10]⟩ : ByteArray) = text ([34] ++ l ++ [10]) := add_text _ _ _ _ _ rfl rfl
          generalize [60] ++ l ++ [38] = x3 at *
          generalize [34] ++ l ++ [10] = x4 at *
          have v1 : (⟨#[38, 108, 116, 59]⟩ : ByteArray) ++ text l = text ([38, 108, 116, 59] ++ l) := by rw [show (⟨#[38, 108, 116, 59]⟩ : ByteArray) = text [38, 108, 116, 59] from rfl, text_append]
          have v2 : (⟨#[38, 113, 117, 111, 116, 59]⟩ : ByteArray) ++ text l = text ([38, 113, 117, 111, 116, 59] ++ l) := by rw [show (⟨#[38, 113, 117, 111, 116, 59]⟩ : ByteArray) = text [38, 113, 117, 111, 116, 59] from rfl, text_append]
          have v3 : (⟨#[60]⟩ : ByteArray) ++ text l = text ([60] ++ l) := by rw [show (⟨#[60]⟩ : ByteArray) = text [60] from rfl, text_append]
          have v4 : (⟨#[34]⟩ : ByteArray) ++ text l = text ([34] ++ l) := by rw [show (⟨#[34]⟩ : ByteArray) = text [34] from rfl, text_append]
          have y1 : (⟨#[38, 108, 116, 59]⟩ : ByteArray).size + (text l).size ≤ 9223372036854775807 := by rw [size_lit, text_size]; simp; omega
          have y2 : (⟨#[38, 113, 117, 111, 116, 59]⟩ : ByteArray).size + (text l).size ≤ 9223372036854775807 := by rw [size_lit, text_size]; simp; omega
          have y3 : (⟨#[60]⟩ : ByteArray).size + (text l).size ≤ 9223372036854775807 := by rw [size_lit, text_size]; simp; omega
          have y4 : (⟨#[34]⟩ : ByteArray).size + (text l).size ≤ 9223372036854775807 := by rw [size_lit, text_size]; simp; omega
          rw [v1] at t3
          rw [v2] at t4
          rw [v3] at u1
          rw [v4] at u2
          have z1 : (text ([38, 108, 116, 59] ++ l)).size + (⟨#[38, 35, 120, 50, 54, 59]⟩ : ByteArray).size ≤ 9223372036854775807 := by rw [text_size, size_lit]; simp; omega
          have z2 : (text ([38, 113, 117, 111, 116, 59] ++ l)).size + (⟨#[38, 35, 49, 48, 59]⟩ : ByteArray).size ≤ 9223372036854775807 := by rw [text_size, size_lit]; simp; omega
          have z3 : (text ([60] ++ l)).size + (⟨#[38]⟩ : ByteArray).size ≤ 9223372036854775807 := by rw [text_size, size_lit]; simp; omega
          have z4 : (text ([34] ++ l)).size + (⟨#[10]⟩ : ByteArray).size ≤ 9223372036854775807 := by rw [text_size, size_lit]; simp; omega
          generalize [38, 108, 116, 59] ++ l = m1 at *
          generalize [38, 113, 117, 111, 116, 59] ++ l = m2 at *
          generalize [60] ++ l = m3 at *
          generalize [34] ++ l = m4 at *
          have T1 := hid t1
          have T2 := hid t2
          have T3 := hid t3
          have T4 := hid t4
          clear t1 t2 t3 t4 p1 p2 p3 p4 hcl hkl
          go_wp2_with fail
          refine (T1.out _ (HW.out.below HB2.out)).mono ?_
          rintro e w3 ⟨rfl, hb3⟩
          have HB3 := hid (bt HB2.out hb3)
          clear hb3
          go_wp2_with fail
          refine (T2.out _ (HW.out.below HB3.out)).mono ?_
          rintro e w4 ⟨rfl, hb4⟩
          have HB4 := hid (bt HB3.out hb4)
          clear hb4
          go_wp2_with fail
          refine (T3.out _ (HW.out.below HB4.out)).mono ?_
          rintro e w5 ⟨rfl, hb5⟩
          have HB5 := hid (bt HB4.out hb5)
          clear hb5
          go_wp2_with fail
          refine (T4.out _ (HW.out.below HB5.out)).mono ?_
          rintro e w6 ⟨rfl, hb6⟩
          have HB6 := hid (bt HB5.out hb6)
          clear hb6
          go_wp2_with fail
          refine (alive_any _ (HW.out.below HB6.out)).mono ?_
          rintro e w7 ⟨rfl, hb7⟩
          go_wp2
          go_ret
          exact ⟨rfl, bt HB6.out hb7⟩
    · have hcl : ¬ (check l : Int) = (l.length : Int) := by omega
      have hl2 : ¬ (1000 : Int) < (l.length : Int) := by omega
      have hbn : ((check l : Int) != (l.length : Int)) = true := by rw [bne_iff_ne]; exact hcl
      clear hc
      go_enter Tryd.func8, Tryd.ntmps8
      go_wp2_with fail
      refine HC.out.mono ?_
      rintro e w2 ⟨rfl, hb2⟩
      have HB2 := hid (bt HB1.out hb2)
      clear hb2 hcv
      go_wp2_with fail
      refine (alive_any _ (HW.out.below HB2.out)).mono ?_
      rintro e w5 ⟨rfl, hb5⟩
      go_wp2
      go_ret
      exact ⟨rfl, bt HB2.out hb5⟩
  · go_enter Tryd.func8, Tryd.ntmps8
    go_wp2_with fail
    refine (alive_any _ HW.out).mono ?_
    rintro e w5 ⟨rfl, hb5⟩
    go_wp2
    go_ret
    exact ⟨rfl, hb5⟩
end Go.Proofs.YtabplemabcahgaaDoor.Ent
