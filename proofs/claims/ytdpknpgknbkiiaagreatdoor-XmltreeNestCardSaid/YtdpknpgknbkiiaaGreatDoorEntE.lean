/- Layer 3: strconv.ParseUint of a few digits, to the base 10 or 16, as numbered calls it. -/
import Derived.Test.YtdpknpgknbkiiaaGreatDoorEntC
import Derived.Test.YtdpknpgknbkiiaaGreatDoorConv
set_option linter.unusedVariables false
set_option linter.unusedSimpArgs false
namespace Go.Proofs.YtdpknpgknbkiiaaGreatDoor.Ent
open Go Go.Proofs.YtdpknpgknbkiiaaGreatDoor Go.Proofs.YtdpknpgknbkiiaaGreatDoor.Utf Go.RowKit
set_option maxRecDepth 100000

theorem lower_all : ((List.range 256).all fun n => decide (0 ≤ bits .or .u8 (n : Int) 32) && decide (bits .or .u8 (n : Int) 32 < 256) && (if 65 ≤ n ∧ n ≤ 90 then decide (bits .or .u8 (n : Int) 32 = (n : Int) + 32) else if 97 ≤ n ∧ n ≤ 122 then decide (bits .or .u8 (n : Int) 32 = (n : Int)) else !decide (97 ≤ bits .or .u8 (n : Int) 32 ∧ bits .or .u8 (n : Int) 32 ≤ 122))) = true := by decide +kernel
theorem lower_is (n : Nat) (h : n < 256) : ∃ y : Nat, bits .or .u8 (n : Int) 32 = (y : Int) ∧ y < 256 ∧ (65 ≤ n ∧ n ≤ 90 → y = n + 32) ∧ (97 ≤ n ∧ n ≤ 122 → y = n) ∧ (¬ (65 ≤ n ∧ n ≤ 90) → ¬ (97 ≤ n ∧ n ≤ 122) → ¬ (97 ≤ y ∧ y ≤ 122)) := by
  have h1 := List.all_eq_true.1 lower_all n (List.mem_range.2 h)
  simp only [Bool.and_eq_true, decide_eq_true_eq] at h1
  obtain ⟨⟨h0, h2⟩, h3⟩ := h1
  obtain ⟨y, hy⟩ := Int.eq_ofNat_of_zero_le h0
  refine ⟨y, hy, by omega, ?_⟩
  rw [hy] at h3
  by_cases c1 : 65 ≤ n ∧ n ≤ 90
  · rw [if_pos c1] at h3
    simp at h3
    exact ⟨fun _ => by omega, fun c => by omega, fun c => absurd c1 c⟩
  · rw [if_neg c1] at h3
    by_cases c2 : 97 ≤ n ∧ n ≤ 122
    · rw [if_pos c2] at h3
      simp at h3
      exact ⟨fun c => absurd c c1, fun _ => by omega, fun _ c => absurd c2 c⟩
    · rw [if_neg c2] at h3
      simp at h3
      exact ⟨fun c => absurd c c1, fun c => absurd c c2, fun _ _ => by omega⟩

theorem lower_any (n y : Nat) (h : bits .or .u8 (n : Int) 32 = (y : Int)) (w : World) :
    Calls Tryz.prog 134 #[.int .u8 n] w fun e w' => e = .returned (.int .u8 y) ∧ w = w' := by
  refine (Tryz.internal_strconv_lower (n : Int) w).mono ?_
  rintro e w' ⟨rfl, rfl⟩
  exact ⟨by rw [h], rfl⟩

/-- What the digits tell, or that they are none. -/
def puV (base : Nat) (l : List UInt8) : Value := if l.all (isd base) = true then .tuple #[.int .u64 (val base 0 l : Nat), .nilIface] else .tuple #[.int .u64 0, .iface 177 (.int .i64 2)]
theorem puV_no {base : Nat} {l : List UInt8} {k : Nat} (hk : k < l.length) (hd : isd base l[k] = false) : puV base l = .tuple #[.int .u64 0, .iface 177 (.int .i64 2)] := by
  unfold puV
  rw [if_neg]
  intro h
  have := List.all_eq_true.1 h l[k] (List.getElem_mem hk)
  rw [hd] at this; cases this

set_option maxHeartbeats 4000000 in
theorem inner_10 (l : List UInt8) (hl : l.length ≤ 7) (hne : l ≠ []) (w : World) :
    Calls Tryz.prog 132 #[.string (text l), .int .i64 10, .int .i64 31] w fun e w' => e = .returned (puV 10 l) ∧ Below w.heap.size w w' := by
  obtain ⟨v, w1, hcv, hv, hb1, _⟩ := conv_at (P := Tryz.prog) l (by omega) 9 22 5 under9 underB under8 w
  have hv1 := hv w1 rfl
  have hlen := fun W => hv1.len (P := Tryz.prog) 22 3 5 underB W
  have s1 : (text l).size = l.length := text_size l
  have hl0 : 0 < l.length := List.length_pos_iff.2 hne
  have he : ((text l).toList == ([] : List UInt8)) = false := by rw [text_list, beq_eq_false_iff_ne]; exact hne
  have HB := hid hb1
  have HV := hid hv1
  have HNE := hid hne
  clear hv hb1 hv1 hne
  go_enter Tryz.func132, Tryz.ntmps132
  go_wp2_with fail
  have HCV := hid hcv
  clear hcv he
  generalize hcut : (1844674407370955162 : Int) = cut
  have hcut2 : (4294967296 : Int) ≤ cut := by omega
  clear hcut
  go_loop [12, 13, 101] (fun us x i => us = .bool false ∧ ∃ k : Nat, i = .int .i64 k ∧ Digs 10 l k ∧ x = .int .u64 (val 10 0 (l.take k) : Nat)) (fun _ _ i => l.length - (intOf i).toNat)
  case atStart => exact ⟨rfl, 0, rfl, Digs.start _ _, rfl⟩
  case round =>
    obtain ⟨rfl, k, rfl, hD, rfl⟩ := hrel
    have hk7 := hD.1
    have hv := hD.lt (by omega) (by omega) (by omega)
    have HD := hid hD
    clear hD
    generalize hx : val 10 0 (l.take k) = x at *
    have HX := hid hx
    clear hx
    by_cases hlt : k < l.length
    · obtain ⟨b, o, hat, hcl⟩ := HV.out.at (P := Tryz.prog) k hlt 22 5 underB size8
      have hbyte : l[k].toNat < 256 := UInt8.toNat_lt l[k]
      obtain ⟨y, hy, hy1, hy2, hy3, hy4⟩ := lower_is l[k].toNat (by omega)
      have hlow := fun w => lower_any l[k].toNat y hy w
      have HL := hid hlow
      have hgood : isd 10 l[k] = true → Digs 10 l (k + 1) ∧ val 10 0 (l.take (k + 1)) = 10 * x + dv l[k].toNat := fun hd => by
        have := HD.out.next hlt hd
        rwa [HX.out] at this
      have hbad : isd 10 l[k] = false → puV 10 l = _ := puV_no hlt
      have hisd : isd 10 l[k] = decide (dv l[k].toNat < 10) := rfl
      have hdv : dv l[k].toNat = if 48 ≤ l[k].toNat ∧ l[k].toNat ≤ 57 then l[k].toNat - 48 else if 97 ≤ l[k].toNat ∧ l[k].toNat ≤ 102 then l[k].toNat - 87 else if 65 ≤ l[k].toNat ∧ l[k].toNat ≤ 70 then l[k].toNat - 55 else 99 := rfl
      generalize l[k].toNat = n at *
      generalize dv n = d at *
      generalize isd 10 l[k] = q at *
      clear hy hlow
      have H2 := hid hy2
      have H3 := hid hy3
      have H4 := hid hy4
      have HG := hid hgood
      have HBD := hid hbad
      have HQ := hid hisd
      have HDV := hid hdv
      clear hy2 hy3 hy4 hgood hbad hisd hdv
      by_cases c1 : 48 ≤ n ∧ n ≤ 57
      · have hd : d = n - 48 := by have := HDV.out; rw [if_pos c1] at this; exact this
        have hq : q = true := by rw [HQ.out, decide_eq_true_eq]; omega
        obtain ⟨g1, g2⟩ := HG.out hq
        obtain ⟨c1a, c1b⟩ := c1
        have hsum : ((n : Int) - 48) = (d : Int) := by omega
        have hd9 : d ≤ 9 := by omega
        have hnext := g1.lt (by omega) (by omega) (by omega)
        have t3 : (x : Int) * 10 + ((n : Int) - 48) ≤ 268435455 := by omega
        have t4 : ¬ (2147483647 : Int) < (x : Int) * 10 + ((n : Int) - 48) := by omega
        have t5 : ¬ ((x : Int) * 10 + ((n : Int) - 48) < (x : Int) * 10) := by omega
        have c1c : (n : Int) ≤ 57 := by omega
        have c1d : (48 : Int) ≤ (n : Int) := by omega
        have c95 : ((n : Int) == 95) = false := by rw [beq_eq_false_iff_ne]; omega
        have t6 : ¬ (10 : Int) ≤ (n : Int) - 48 := by omega
        clear hnext
        have G1 := hid g1
        have G2 := hid g2
        have HS := hid hsum
        clear g1 g2 hq hsum hd
        go_wp2_with fail
        all_goals
          go_round
          case rel => exact ⟨rfl, k + 1, by go_num, G1.out, by rw [G2.out]; have := HS.out; congr 1; omega⟩
          case measure => simp [intOf]; omega
      · by_cases c2 : (65 ≤ n ∧ n ≤ 90) ∨ (97 ≤ n ∧ n ≤ 122)
        · have hyy : 97 ≤ y ∧ y ≤ 122 := by
            rcases c2 with c2 | c2
            · have := H2.out c2; omega
            · have := H3.out c2; omega
          have hd : d = if y ≤ 102 then y - 87 else 99 := by
            have := HDV.out; rw [if_neg c1] at this; rw [this]
            rcases c2 with c2 | c2
            · have := H2.out c2
              rw [if_neg (by omega)]
              by_cases z : n ≤ 70
              · rw [if_pos (by omega), if_pos (by omega)]; omega
              · rw [if_neg (by omega), if_neg (by omega)]
            · have := H3.out c2
              by_cases z : n ≤ 102
              · rw [if_pos (by omega), if_pos (by omega)]; omega
              · rw [if_neg (by omega), if_neg (by omega), if_neg (by omega)]
          obtain ⟨hy97, hy122⟩ := hyy
          have hyc : (97 : Int) ≤ (y : Int) := by omega
          have hyd : (y : Int) ≤ 122 := by omega
          have c1' : ¬ ((48 : Int) ≤ (n : Int) ∧ (n : Int) ≤ 57) := by omega
          have c95 : ((n : Int) == 95) = false := by rw [beq_eq_false_iff_ne]; omega
          have hn57 : ¬ ((n : Int) ≤ 57) := by omega
          by_cases c3 : y - 87 < 10
          · omega
          · have hq : q = false := by rw [HQ.out, decide_eq_false_iff_not, hd]; split <;> omega
            have hp := HBD.out hq
            have HP := hid hp
            clear hq hp hd c1 c2 c1'
            have t2 : (10 : Int) ≤ (y : Int) - 97 + 10 := by omega
            go_wp2_with fail
            refine (HL.out _).mono ?_
            rintro e w2 ⟨rfl, rfl⟩
            go_wp2_with fail
            refine (HL.out _).mono ?_
            rintro e w2 ⟨rfl, rfl⟩
            go_wp2_with fail
            refine (HL.out _).mono ?_
            rintro e w2 ⟨rfl, rfl⟩
            go_wp2_with fail
            all_goals
              go_ret2
              exact ⟨by rw [HP.out]; rfl, HB.out⟩
        · have hd : d = 99 := by
            have := HDV.out
            rw [if_neg c1, if_neg (by omega), if_neg (by omega)] at this; exact this
          have hq : q = false := by rw [HQ.out, decide_eq_false_iff_not]; omega
          have hp := HBD.out hq
          have hyn := H4.out (by omega) (by omega)
          have HP := hid hp
          clear hq hp hd c2
          have t1 : ¬ ((48 : Int) ≤ (n : Int) ∧ (n : Int) ≤ 57) := by omega
          have t2 : ¬ ((97 : Int) ≤ (y : Int) ∧ (y : Int) ≤ 122) := by omega
          clear c1 hyn
          rcases Bool.eq_false_or_eq_true ((n : Int) == 95) with h95 | h95
          all_goals
            by_cases z1 : (97 : Int) ≤ (y : Int)
            · have z2 : ¬ (y : Int) ≤ 122 := by omega
              clear t2
              by_cases z3 : (48 : Int) ≤ (n : Int)
              · have z4 : ¬ (n : Int) ≤ 57 := by omega
                clear t1
                go_wp2_with fail
                all_goals
                  refine (HL.out _).mono ?_
                  rintro e w2 ⟨rfl, rfl⟩
                  go_wp2_with fail
                  refine (HL.out _).mono ?_
                  rintro e w2 ⟨rfl, rfl⟩
                  go_wp2_with fail
                  go_ret2
                  exact ⟨by rw [HP.out]; rfl, HB.out⟩
              · clear t1
                go_wp2_with fail
                all_goals
                  refine (HL.out _).mono ?_
                  rintro e w2 ⟨rfl, rfl⟩
                  go_wp2_with fail
                  refine (HL.out _).mono ?_
                  rintro e w2 ⟨rfl, rfl⟩
                  go_wp2_with fail
                  go_ret2
                  exact ⟨by rw [HP.out]; rfl, HB.out⟩
            · clear t2
              by_cases z3 : (48 : Int) ≤ (n : Int)
              · have z4 : ¬ (n : Int) ≤ 57 := by omega
                clear t1
                go_wp2_with fail
                all_goals
                  refine (HL.out _).mono ?_
                  rintro e w2 ⟨rfl, rfl⟩
                  go_wp2_with fail
                  go_ret2
                  exact ⟨by rw [HP.out]; rfl, HB.out⟩
              · clear t1
                go_wp2_with fail
                all_goals
                  refine (HL.out _).mono ?_
                  rintro e w2 ⟨rfl, rfl⟩
                  go_wp2_with fail
                  go_ret2
                  exact ⟨by rw [HP.out]; rfl, HB.out⟩
    · have hkl : k = l.length := by omega
      have hall : l.all (isd 10) = true := by
        have := HD.out.2
        rwa [hkl, List.take_length] at this
      have hval : val 10 0 l = x := by rw [← HX.out, hkl, List.take_length]
      have HA := hid hall
      have HVA := hid hval
      clear hkl hall hval
      go_wp2
      go_ret2
      exact ⟨by unfold puV; rw [if_pos HA.out, HVA.out]; rfl, HB.out⟩

set_option maxHeartbeats 4000000 in
theorem inner_16 (l : List UInt8) (hl : l.length ≤ 7) (hne : l ≠ []) (w : World) :
    Calls Tryz.prog 132 #[.string (text l), .int .i64 16, .int .i64 31] w fun e w' => e = .returned (puV 16 l) ∧ Below w.heap.size w w' := by
  obtain ⟨v, w1, hcv, hv, hb1, _⟩ := conv_at (P := Tryz.prog) l (by omega) 9 22 5 under9 underB under8 w
  have hv1 := hv w1 rfl
  have hlen := fun W => hv1.len (P := Tryz.prog) 22 3 5 underB W
  have s1 : (text l).size = l.length := text_size l
  have hl0 : 0 < l.length := List.length_pos_iff.2 hne
  have he : ((text l).toList == ([] : List UInt8)) = false := by rw [text_list, beq_eq_false_iff_ne]; exact hne
  have HB := hid hb1
  have HV := hid hv1
  have HNE := hid hne
  clear hv hb1 hv1 hne
  go_enter Tryz.func132, Tryz.ntmps132
  go_wp2_with fail
  have HCV := hid hcv
  clear hcv he
  generalize hcut : (1152921504606846976 : Int) = cut
  have hcut2 : (4294967296 : Int) ≤ cut := by omega
  clear hcut
  go_loop [12, 13, 101] (fun us x i => us = .bool false ∧ ∃ k : Nat, i = .int .i64 k ∧ Digs 16 l k ∧ x = .int .u64 (val 16 0 (l.take k) : Nat)) (fun _ _ i => l.length - (intOf i).toNat)
  case atStart => exact ⟨rfl, 0, rfl, Digs.start _ _, rfl⟩
  case round =>
    obtain ⟨rfl, k, rfl, hD, rfl⟩ := hrel
    have hk7 := hD.1
    have hv := hD.lt (by omega) (by omega) (by omega)
    have HD := hid hD
    clear hD
    generalize hx : val 16 0 (l.take k) = x at *
    have HX := hid hx
    clear hx
    by_cases hlt : k < l.length
    · obtain ⟨b, o, hat, hcl⟩ := HV.out.at (P := Tryz.prog) k hlt 22 5 underB size8
      have hbyte : l[k].toNat < 256 := UInt8.toNat_lt l[k]
      obtain ⟨y, hy, hy1, hy2, hy3, hy4⟩ := lower_is l[k].toNat (by omega)
      have hlow := fun w => lower_any l[k].toNat y hy w
      have HL := hid hlow
      have hgood : isd 16 l[k] = true → Digs 16 l (k + 1) ∧ val 16 0 (l.take (k + 1)) = 16 * x + dv l[k].toNat := fun hd => by
        have := HD.out.next hlt hd
        rwa [HX.out] at this
      have hbad : isd 16 l[k] = false → puV 16 l = _ := puV_no hlt
      have hisd : isd 16 l[k] = decide (dv l[k].toNat < 16) := rfl
      have hdv : dv l[k].toNat = if 48 ≤ l[k].toNat ∧ l[k].toNat ≤ 57 then l[k].toNat - 48 else if 97 ≤ l[k].toNat ∧ l[k].toNat ≤ 102 then l[k].toNat - 87 else if 65 ≤ l[k].toNat ∧ l[k].toNat ≤ 70 then l[k].toNat - 55 else 99 := rfl
      generalize l[k].toNat = n at *
      generalize dv n = d at *
      generalize isd 16 l[k] = q at *
      clear hy hlow
      have H2 := hid hy2
      have H3 := hid hy3
      have H4 := hid hy4
      have HG := hid hgood
      have HBD := hid hbad
      have HQ := hid hisd
      have HDV := hid hdv
      clear hy2 hy3 hy4 hgood hbad hisd hdv
      by_cases c1 : 48 ≤ n ∧ n ≤ 57
      · have hd : d = n - 48 := by have := HDV.out; rw [if_pos c1] at this; exact this
        have hq : q = true := by rw [HQ.out, decide_eq_true_eq]; omega
        obtain ⟨g1, g2⟩ := HG.out hq
        obtain ⟨c1a, c1b⟩ := c1
        have hsum : ((n : Int) - 48) = (d : Int) := by omega
        have hd9 : d ≤ 9 := by omega
        have hnext := g1.lt (by omega) (by omega) (by omega)
        have t3 : (x : Int) * 16 + ((n : Int) - 48) ≤ 268435455 := by omega
        have t4 : ¬ (2147483647 : Int) < (x : Int) * 16 + ((n : Int) - 48) := by omega
        have t5 : ¬ ((x : Int) * 16 + ((n : Int) - 48) < (x : Int) * 16) := by omega
        have c1c : (n : Int) ≤ 57 := by omega
        have c1d : (48 : Int) ≤ (n : Int) := by omega
        have c95 : ((n : Int) == 95) = false := by rw [beq_eq_false_iff_ne]; omega
        have t6 : ¬ (16 : Int) ≤ (n : Int) - 48 := by omega
        clear hnext
        have G1 := hid g1
        have G2 := hid g2
        have HS := hid hsum
        clear g1 g2 hq hsum hd
        go_wp2_with fail
        all_goals
          go_round
          case rel => exact ⟨rfl, k + 1, by go_num, G1.out, by rw [G2.out]; have := HS.out; congr 1; omega⟩
          case measure => simp [intOf]; omega
      · by_cases c2 : (65 ≤ n ∧ n ≤ 90) ∨ (97 ≤ n ∧ n ≤ 122)
        · have hyy : 97 ≤ y ∧ y ≤ 122 := by
            rcases c2 with c2 | c2
            · have := H2.out c2; omega
            · have := H3.out c2; omega
          have hd : d = if y ≤ 102 then y - 87 else 99 := by
            have := HDV.out; rw [if_neg c1] at this; rw [this]
            rcases c2 with c2 | c2
            · have := H2.out c2
              rw [if_neg (by omega)]
              by_cases z : n ≤ 70
              · rw [if_pos (by omega), if_pos (by omega)]; omega
              · rw [if_neg (by omega), if_neg (by omega)]
            · have := H3.out c2
              by_cases z : n ≤ 102
              · rw [if_pos (by omega), if_pos (by omega)]; omega
              · rw [if_neg (by omega), if_neg (by omega), if_neg (by omega)]
          obtain ⟨hy97, hy122⟩ := hyy
          have hyc : (97 : Int) ≤ (y : Int) := by omega
          have hyd : (y : Int) ≤ 122 := by omega
          have c1' : ¬ ((48 : Int) ≤ (n : Int) ∧ (n : Int) ≤ 57) := by omega
          have c95 : ((n : Int) == 95) = false := by rw [beq_eq_false_iff_ne]; omega
          have hn57 : ¬ ((n : Int) ≤ 57) := by omega
          by_cases c3 : y - 87 < 16
          · have hd2 : d = y - 87 := by rw [hd, if_pos (by omega)]
            have hq : q = true := by rw [HQ.out, decide_eq_true_eq]; omega
            obtain ⟨g1, g2⟩ := HG.out hq
            have G1 := hid g1
            have G2 := hid g2
            have HS := hid hd2
            clear g1 g2 hq hd2 hd c1 c2 c1'
            have hnext := G1.out.lt (by omega) (by omega) (by omega)
            rw [G2.out, HS.out] at hnext
            have t3 : (x : Int) * 16 + ((y : Int) - 97 + 10) ≤ 268435455 := by omega
            have t4 : ¬ (2147483647 : Int) < (x : Int) * 16 + ((y : Int) - 97 + 10) := by omega
            have t5 : ¬ ((x : Int) * 16 + ((y : Int) - 97 + 10) < (x : Int) * 16) := by omega
            clear hnext
            have t2 : ¬ (16 : Int) ≤ (y : Int) - 97 + 10 := by omega
            go_wp2_with fail
            refine (HL.out _).mono ?_
            rintro e w2 ⟨rfl, rfl⟩
            go_wp2_with fail
            refine (HL.out _).mono ?_
            rintro e w2 ⟨rfl, rfl⟩
            go_wp2_with fail
            refine (HL.out _).mono ?_
            rintro e w2 ⟨rfl, rfl⟩
            go_wp2_with fail
            all_goals
              go_round
              case rel => exact ⟨rfl, k + 1, by go_num, G1.out, by rw [G2.out]; have := HS.out; congr 1; omega⟩
              case measure => simp [intOf]; omega
          · have hq : q = false := by rw [HQ.out, decide_eq_false_iff_not, hd]; split <;> omega
            have hp := HBD.out hq
            have HP := hid hp
            clear hq hp hd c1 c2 c1'
            have t2 : (16 : Int) ≤ (y : Int) - 97 + 10 := by omega
            go_wp2_with fail
            refine (HL.out _).mono ?_
            rintro e w2 ⟨rfl, rfl⟩
            go_wp2_with fail
            refine (HL.out _).mono ?_
            rintro e w2 ⟨rfl, rfl⟩
            go_wp2_with fail
            refine (HL.out _).mono ?_
            rintro e w2 ⟨rfl, rfl⟩
            go_wp2_with fail
            all_goals
              go_ret2
              exact ⟨by rw [HP.out]; rfl, HB.out⟩
        · have hd : d = 99 := by
            have := HDV.out
            rw [if_neg c1, if_neg (by omega), if_neg (by omega)] at this; exact this
          have hq : q = false := by rw [HQ.out, decide_eq_false_iff_not]; omega
          have hp := HBD.out hq
          have hyn := H4.out (by omega) (by omega)
          have HP := hid hp
          clear hq hp hd c2
          have t1 : ¬ ((48 : Int) ≤ (n : Int) ∧ (n : Int) ≤ 57) := by omega
          have t2 : ¬ ((97 : Int) ≤ (y : Int) ∧ (y : Int) ≤ 122) := by omega
          clear c1 hyn
          rcases Bool.eq_false_or_eq_true ((n : Int) == 95) with h95 | h95
          all_goals
            by_cases z1 : (97 : Int) ≤ (y : Int)
            · have z2 : ¬ (y : Int) ≤ 122 := by omega
              clear t2
              by_cases z3 : (48 : Int) ≤ (n : Int)
              · have z4 : ¬ (n : Int) ≤ 57 := by omega
                clear t1
                go_wp2_with fail
                all_goals
                  refine (HL.out _).mono ?_
                  rintro e w2 ⟨rfl, rfl⟩
                  go_wp2_with fail
                  refine (HL.out _).mono ?_
                  rintro e w2 ⟨rfl, rfl⟩
                  go_wp2_with fail
                  go_ret2
                  exact ⟨by rw [HP.out]; rfl, HB.out⟩
              · clear t1
                go_wp2_with fail
                all_goals
                  refine (HL.out _).mono ?_
                  rintro e w2 ⟨rfl, rfl⟩
                  go_wp2_with fail
                  refine (HL.out _).mono ?_
                  rintro e w2 ⟨rfl, rfl⟩
                  go_wp2_with fail
                  go_ret2
                  exact ⟨by rw [HP.out]; rfl, HB.out⟩
            · clear t2
              by_cases z3 : (48 : Int) ≤ (n : Int)
              · have z4 : ¬ (n : Int) ≤ 57 := by omega
                clear t1
                go_wp2_with fail
                all_goals
                  refine (HL.out _).mono ?_
                  rintro e w2 ⟨rfl, rfl⟩
                  go_wp2_with fail
                  go_ret2
                  exact ⟨by rw [HP.out]; rfl, HB.out⟩
              · clear t1
                go_wp2_with fail
                all_goals
                  refine (HL.out _).mono ?_
                  rintro e w2 ⟨rfl, rfl⟩
                  go_wp2_with fail
                  go_ret2
                  exact ⟨by rw [HP.out]; rfl, HB.out⟩
    · have hkl : k = l.length := by omega
      have hall : l.all (isd 16) = true := by
        have := HD.out.2
        rwa [hkl, List.take_length] at this
      have hval : val 16 0 l = x := by rw [← HX.out, hkl, List.take_length]
      have HA := hid hall
      have HVA := hid hval
      clear hkl hall hval
      go_wp2
      go_ret2
      exact ⟨by unfold puV; rw [if_pos HA.out, HVA.out]; rfl, HB.out⟩

end Go.Proofs.YtdpknpgknbkiiaaGreatDoor.Ent
