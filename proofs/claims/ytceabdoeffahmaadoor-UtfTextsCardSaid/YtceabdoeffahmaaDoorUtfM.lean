/- Layer 1: the walk of the statement UtfPlaces. -/
import Derived.Test.YtceabdoeffahmaaDoorUtfL
import Derived.Test.YtceabdoeffahmaaDoorUtfK
import Derived.Test.YtceabdoeffahmaaDoorApp
set_option linter.unusedVariables false
set_option linter.unusedSimpArgs false
namespace Go.Proofs.YtceabdoeffahmaaDoor.Utf
open Go Go.Proofs.YtceabdoeffahmaaDoor Go.RowKit
set_option maxRecDepth 100000

theorem Bytes_join {w : World} {B : Nat} {e : TypeId} {v : Value} {m l : List UInt8} (h : w.ownsRow B e 1 v (m.length + l.length) (cellsOf m ++ cellsOf l)) (hn : m.length + l.length ≤ 281474976710656) : Bytes w v (m ++ l) := by
  unfold Bytes
  rw [List.length_append, cellsOf_append]
  exact Row.ofOwns h hn

/-- The table's row of the bytes' type. -/
theorem info8 : (Tryd.prog.info? 5).map (fun i => (i.zero, i.size, i.bytes)) = some (some (.int .u8 0), 1, 1) := by kernel_rfl

theorem checkE_enc (c : Nat) (hf : fine (c : Int) = true) (m : List UInt8) : checkE (enc c ++ m) = checkE m := by
  unfold checkE
  rw [check_enc c hf m, List.length_append]
  by_cases h : check m = m.length
  · rw [if_pos h, if_pos (by omega)]
  · rw [if_neg h, if_neg (by omega)]

set_option maxHeartbeats 4000000 in
theorem UtfPlaces_walk (v : Value) (l : List UInt8) (c : Int) (w : World) (hT : Tabs w) (hv : Bytes w v l) (hll : l.length ≤ 140737488351232) :
    Calls Tryd.prog 8 #[v, .int .i64 c] w fun e w' => e = .returned (.bool true) ∧ Below w.heap.size w w' := by
  have hlen := fun W => hv.len (P := Tryd.prog) 22 3 5 underB W
  obtain ⟨i0, hi, hz0, hz1, hz2⟩ := info_parts info8
  have HV := hid hv
  have HT := hid hT
  have hcl := check_le l
  obtain ⟨v', _, _, a3, hv'⟩ := hv.sub 0 (check l) (by omega) hcl 22 5 underB size8
  have a4 := a3 rfl
  rw [List.drop_zero, Nat.sub_zero] at hv'
  have HV' := hid hv'
  have hk2 := check_take l
  have hE2 : checkE (l.take (check l)) = 0 := checkE_ok (by rw [hk2]; simp; omega)
  have hat := check_at l
  have HK2 := hid hk2
  have HE2 := hid hE2
  have hr0 : check l < l.length → runeR l (check l : Int) = (0, 0, 4) := fun h => by
    unfold runeR; rw [if_neg (by omega), Int.toNat_natCast, if_pos hat]
  have HR0 := hid hr0
  have hpe := fun (d : Nat) (hf : fine (d : Int) = true) => check_enc d hf l
  have hpE := fun (d : Nat) (hf : fine (d : Int) = true) => checkE_enc d hf l
  have HPE := hid hpe
  have HPEE := hid hpE
  have hcc := check_cases l
  have HU := hid under8
  clear hv hT hv' hk2 hE2 hat a3 hr0 hpe hpE
  generalize hck : check l = ck at *
  have HCK := hid hck
  clear hck
  rcases hcc with ⟨hc, hE⟩ | ⟨hc, hE⟩
  · have HE := hid hE
    have hlt : ck ≠ l.length → ck < l.length := by omega
    have HLT := hid hlt
    have HNE : Hid ((((ck : Int) == (l.length : Int))) = true) := hc
    rw [hE] at HPEE
    clear hE hlt
    cases hf : fine c
    · have HP := hid (fun W => Put_no c hf W)
      clear hf
      go_enter Tryd.func8, Tryd.ntmps8
      go_wp2_with fail
      refine (Check_eq v l _ HV.out ck _ HCK.out HE.out).mono ?_
      rintro e w1 ⟨rfl, hb1⟩
      go_wp2_with fail
      refine (Check_eq v' _ _ (HV'.out.below hb1 (Nat.le_refl _)) ck _ HK2.out HE2.out).mono ?_
      rintro e w2 ⟨rfl, hb2⟩
      have hbK := bt hb1 hb2
      go_wp2_with fail
      refine (HP.out _).mono ?_
      rintro e w3 ⟨rfl, rfl⟩
      go_wp2_with fail
      refine (alive_any _ (HT.out.below hbK (Nat.le_refl _))).mono ?_
      rintro e w4 ⟨rfl, hb4⟩
      go_wp2_with fail
      go_ret
      exact ⟨rfl, bt hbK hb4⟩
    · have HP := hid (fun W => Put_yes c hf W)
      obtain ⟨d, rfl⟩ := Int.eq_ofNat_of_zero_le (by have := (fine_iff c).1 hf; omega : 0 ≤ c)
      have he := enc_len d
      have HA := hid (HPE.out d hf)
      have HB := hid (HPEE.out d hf)
      clear hf
      generalize enc (d : Int) = m at *
      go_enter Tryd.func8, Tryd.ntmps8
      go_wp2_with fail
      refine (Check_eq v l _ HV.out ck _ HCK.out HE.out).mono ?_
      rintro e w1 ⟨rfl, hb1⟩
      go_wp2_with fail
      refine (Check_eq v' _ _ (HV'.out.below hb1 (Nat.le_refl _)) ck _ HK2.out HE2.out).mono ?_
      rintro e w2 ⟨rfl, hb2⟩
      have hbK := bt hb1 hb2
      go_wp2_with fail
      refine (HP.out _).mono ?_
      rintro e w3 ⟨v3, rfl, hown3, hb3⟩
      have hb123 := bt hbK hb3
      have HV3 := hid (Bytes.ofOwns hown3 (by omega))
      have hlen3 := fun W => HV3.out.len (P := Tryd.prog) 22 3 5 underB W
      clear hown3
      go_wp2_with (at_builtin; refine wpList_append_row rfl _ _ 22 rfl w3.heap.size 5 i0 (.int .u8 0) 1 1 underB hi hz0 hz1 hz2 rfl (by decide) _ _ _ rfl (owns_empty w3 _ 1 _ (Nat.le_refl _)) _ _ _ rfl (HV3.out.alloc _) (cellsOf_one _) ?c1 ?c2 ?c3 ?_)
      case c1 => omega
      case c2 => unfold maxLen; omega
      case c3 => simp
      intro v4 w4 hown4 hg4
      have hb4 := grown_below (ba hb123 _) (owns_empty w3 5 1 _ (Nat.le_refl _)) hb123.size hg4
      have hs4 := hg4.size
      simp only [World.size_alloc] at hs4
      clear hg4
      go_wp2_with (at_builtin; refine wpList_append_row rfl _ _ 22 rfl w3.heap.size 5 i0 (.int .u8 0) 1 1 underB hi hz0 hz1 hz2 rfl (by decide) _ _ _ rfl hown4 _ _ _ rfl (HV.out.below hb4 (Nat.le_refl _)) (cellsOf_one _) ?d1 ?d2 ?d3 ?_)
      case d1 => omega
      case d2 => unfold maxLen; omega
      case d3 => omega
      intro v5 w5 hown5 hg5
      have hb5 := grown_below hb4 hown4 hb123.size hg5
      have HJ := hid (Bytes_join hown5 (by omega))
      clear hown4 hown5 hg5
      go_wp2_with fail
      refine (Check_eq _ _ _ HJ.out _ _ HA.out HB.out).mono ?_
      rintro e w6 ⟨rfl, hb6⟩
      go_wp2_with fail
      refine (alive_any _ (HT.out.below (bt hb5 hb6) (Nat.le_refl _))).mono ?_
      rintro e w7 ⟨rfl, hb7⟩
      go_wp2_with fail
      go_ret
      refine ⟨?_, bt (bt hb5 hb6) hb7⟩
      first | rfl | (simp; done) | (simp; omega)
  · have HE := hid hE
    have hlt : ck ≠ l.length → ck < l.length := by omega
    have HLT := hid hlt
    have HNE : Hid ((((ck : Int) == (l.length : Int))) = false) := hc
    rw [hE] at HPEE
    clear hE hlt
    cases hf : fine c
    · have HP := hid (fun W => Put_no c hf W)
      clear hf
      go_enter Tryd.func8, Tryd.ntmps8
      go_wp2_with fail
      refine (Check_eq v l _ HV.out ck _ HCK.out HE.out).mono ?_
      rintro e w1 ⟨rfl, hb1⟩
      go_wp2_with fail
      refine (Check_eq v' _ _ (HV'.out.below hb1 (Nat.le_refl _)) ck _ HK2.out HE2.out).mono ?_
      rintro e w2 ⟨rfl, hb2⟩
      go_wp2_with fail
      refine (Rune_eq v l ck _ (HT.out.below (bt hb1 hb2) (Nat.le_refl _)) (HV.out.below (bt hb1 hb2) (Nat.le_refl _)) 0 0 4 (HR0.out (HLT.out (by have := HNE.out; rw [beq_eq_false_iff_ne] at this; omega)))).mono ?_
      rintro e w2b ⟨rfl, hb2b⟩
      have hbK := bt (bt hb1 hb2) hb2b
      go_wp2_with fail
      refine (HP.out _).mono ?_
      rintro e w3 ⟨rfl, rfl⟩
      go_wp2_with fail
      refine (alive_any _ (HT.out.below hbK (Nat.le_refl _))).mono ?_
      rintro e w4 ⟨rfl, hb4⟩
      go_wp2_with fail
      go_ret
      exact ⟨rfl, bt hbK hb4⟩
    · have HP := hid (fun W => Put_yes c hf W)
      obtain ⟨d, rfl⟩ := Int.eq_ofNat_of_zero_le (by have := (fine_iff c).1 hf; omega : 0 ≤ c)
      have he := enc_len d
      have HA := hid (HPE.out d hf)
      have HB := hid (HPEE.out d hf)
      clear hf
      generalize enc (d : Int) = m at *
      go_enter Tryd.func8, Tryd.ntmps8
      go_wp2_with fail
      refine (Check_eq v l _ HV.out ck _ HCK.out HE.out).mono ?_
      rintro e w1 ⟨rfl, hb1⟩
      go_wp2_with fail
      refine (Check_eq v' _ _ (HV'.out.below hb1 (Nat.le_refl _)) ck _ HK2.out HE2.out).mono ?_
      rintro e w2 ⟨rfl, hb2⟩
      go_wp2_with fail
      refine (Rune_eq v l ck _ (HT.out.below (bt hb1 hb2) (Nat.le_refl _)) (HV.out.below (bt hb1 hb2) (Nat.le_refl _)) 0 0 4 (HR0.out (HLT.out (by have := HNE.out; rw [beq_eq_false_iff_ne] at this; omega)))).mono ?_
      rintro e w2b ⟨rfl, hb2b⟩
      have hbK := bt (bt hb1 hb2) hb2b
      go_wp2_with fail
      refine (HP.out _).mono ?_
      rintro e w3 ⟨v3, rfl, hown3, hb3⟩
      have hb123 := bt hbK hb3
      have HV3 := hid (Bytes.ofOwns hown3 (by omega))
      have hlen3 := fun W => HV3.out.len (P := Tryd.prog) 22 3 5 underB W
      clear hown3
      go_wp2_with (at_builtin; refine wpList_append_row rfl _ _ 22 rfl w3.heap.size 5 i0 (.int .u8 0) 1 1 underB hi hz0 hz1 hz2 rfl (by decide) _ _ _ rfl (owns_empty w3 _ 1 _ (Nat.le_refl _)) _ _ _ rfl (HV3.out.alloc _) (cellsOf_one _) ?c1 ?c2 ?c3 ?_)
      case c1 => omega
      case c2 => unfold maxLen; omega
      case c3 => simp
      intro v4 w4 hown4 hg4
      have hb4 := grown_below (ba hb123 _) (owns_empty w3 5 1 _ (Nat.le_refl _)) hb123.size hg4
      have hs4 := hg4.size
      simp only [World.size_alloc] at hs4
      clear hg4
      go_wp2_with (at_builtin; refine wpList_append_row rfl _ _ 22 rfl w3.heap.size 5 i0 (.int .u8 0) 1 1 underB hi hz0 hz1 hz2 rfl (by decide) _ _ _ rfl hown4 _ _ _ rfl (HV.out.below hb4 (Nat.le_refl _)) (cellsOf_one _) ?d1 ?d2 ?d3 ?_)
      case d1 => omega
      case d2 => unfold maxLen; omega
      case d3 => omega
      intro v5 w5 hown5 hg5
      have hb5 := grown_below hb4 hown4 hb123.size hg5
      have HJ := hid (Bytes_join hown5 (by omega))
      clear hown4 hown5 hg5
      go_wp2_with fail
      refine (Check_eq _ _ _ HJ.out _ _ HA.out HB.out).mono ?_
      rintro e w6 ⟨rfl, hb6⟩
      go_wp2_with fail
      refine (alive_any _ (HT.out.below (bt hb5 hb6) (Nat.le_refl _))).mono ?_
      rintro e w7 ⟨rfl, hb7⟩
      go_wp2_with fail
      go_ret
      refine ⟨?_, bt (bt hb5 hb6) hb7⟩
      first | rfl | (simp; done) | (simp; omega)

end Go.Proofs.YtceabdoeffahmaaDoor.Utf
