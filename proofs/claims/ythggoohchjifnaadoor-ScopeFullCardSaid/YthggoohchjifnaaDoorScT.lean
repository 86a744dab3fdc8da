/- Layer 9: the walk of the statement ScopeFull. -/
import Derived.Test.YthggoohchjifnaaDoorScS
set_option linter.unusedVariables false
set_option linter.unusedSimpArgs false
namespace Go.Proofs.YthggoohchjifnaaDoor.Sc
open Go Go.Proofs.YthggoohchjifnaaDoor Go.Proofs.YthggoohchjifnaaDoor.Utf Go.Proofs.YthggoohchjifnaaDoor.Names Go.RowKit
set_option maxRecDepth 100000

theorem u8_nat {n : Nat} (h : n < 256) : ((UInt8.ofNat n).toNat : Int) = (n : Int) := by
  have : (UInt8.ofNat n).toNat = n := by simp [Nat.mod_eq_of_lt h]
  rw [this]

set_option maxHeartbeats 8000000 in
theorem ScopeFull_walk (x0 : Int) (w : World) :
    Calls Tryd.prog 8 #[.int .i64 x0] w fun e w' => e = .returned (.bool true) ∧ Below w.heap.size w w' := by
  obtain ⟨i0, hi, hz0, hz1, hz2⟩ := info_parts infoT
  have underS := Tryd.underlying22
  go_enter Tryd.func8, Tryd.ntmps8
  go_wp2_with fail
  obtain ⟨k, hk, hk1, hk2⟩ : ∃ k : Nat, 4093 + max 0 x0 % 6 = (k : Int) ∧ k ≤ 4098 ∧ 4093 ≤ k := ⟨(4093 + max 0 x0 % 6).toNat, by omega, by omega, by omega⟩
  rw [hk]
  clear hk
  generalize max 0 x0 % 6 = m6 at *
  generalize max 0 x0 = m0 at *
  go_loopg [4, 17] k (fun kx s4 s17 wr => ∃ i : Nat, s17 = .int .i64 i ∧ i ≤ k ∧ k - i ≤ kx ∧ Hid (OwnS w.heap.size wr s4 (manyN i) ∧ Below w.heap.size w wr))
  case atStart => exact ⟨0, rfl, Nat.zero_le _, by omega, hid ⟨OwnS.nil _ _, Below.refl _ _⟩⟩
  case round =>
    obtain ⟨i, rfl, hik, hg, I⟩ := hrel
    by_cases hil : i < k
    · obtain ⟨a1, ha1⟩ : ∃ a1, i % 16 = a1 := ⟨_, rfl⟩
      obtain ⟨a2, ha2⟩ : ∃ a2, i / 16 % 16 = a2 := ⟨_, rfl⟩
      obtain ⟨a3, ha3⟩ : ∃ a3, i / 256 = a3 := ⟨_, rfl⟩
      have e1 : bits BinOp.and IntKind.i64 (i : Int) 15 = (a1 : Int) := by rw [and15 i (by omega), ha1]
      have e2 : bits BinOp.and IntKind.i64 ((i : Int) / 16) 15 = (a2 : Int) := by
        rw [show (i : Int) / 16 = ((i / 16 : Nat) : Int) by omega, and15 (i / 16) (by omega), ha2]
      have e3 : (i : Int) / 256 = (a3 : Int) := by omega
      have l1 : a1 < 16 := by omega
      have l2 : a2 < 16 := by omega
      have l3 : a3 < 20 := by omega
      have hnm : nameOf i = 110 :: [UInt8.ofNat (97 + a1), UInt8.ofNat (97 + a2), UInt8.ofNat (97 + a3)] := by unfold nameOf; rw [ha1, ha2, ha3]
      have hb := Row.ofBuild (sz := 1) wr #[.int .u8 (97 + (a1 : Int)), .int .u8 (97 + (a2 : Int)), .int .u8 (97 + (a3 : Int))] 5 3 rfl (by omega)
      have hby : Bytes (wr.alloc (.cells #[.int .u8 (97 + (a1 : Int)), .int .u8 (97 + (a2 : Int)), .int .u8 (97 + (a3 : Int))] 5)) (.slice (some ⟨wr.heap.size, 0, none⟩) 3 3) [UInt8.ofNat (97 + a1), UInt8.ofNat (97 + a2), UInt8.ofNat (97 + a3)] := by
        have e : (#[Value.int .u8 (97 + (a1 : Int)), .int .u8 (97 + (a2 : Int)), .int .u8 (97 + (a3 : Int))] : Array Value).toList = cellsOf [UInt8.ofNat (97 + a1), UInt8.ofNat (97 + a2), UInt8.ofNat (97 + a3)] := by
          show _ = [Value.int .u8 ((UInt8.ofNat (97 + a1)).toNat : Int), .int .u8 ((UInt8.ofNat (97 + a2)).toNat : Int), .int .u8 ((UInt8.ofNat (97 + a3)).toNat : Int)]
          rw [u8_nat (by omega), u8_nat (by omega), u8_nat (by omega)]
          simp
        rw [e] at hb
        exact hb
      have hcv := Bytes.conv (P := Tryd.prog) hby 44 9 5 Tryd.underlying44 Tryd.underlying5 Tryd.underlying9
      obtain ⟨T, hT⟩ : ∃ T, ([UInt8.ofNat (97 + a1), UInt8.ofNat (97 + a2), UInt8.ofNat (97 + a3)] : List UInt8) = T := ⟨_, rfl⟩
      rw [hT] at hcv hnm
      have hTl : T.length = 3 := by rw [← hT]; rfl
      have hadd : (⟨#[110]⟩ : ByteArray) ++ text T = text (nameOf i) := by
        have : (⟨#[110]⟩ : ByteArray) = text [110] := rfl
        rw [this, Names.text_append, hnm]; rfl
      have hsz : (⟨#[110]⟩ : ByteArray).size + (text T).size ≤ 9223372036854775807 := by
        have h1 : (⟨#[110]⟩ : ByteArray).size = 1 := rfl
        rw [h1, text_size, hTl]; omega
      have ba1 := ba (b0 wr) (.cells #[.int .u8 (97 + (a1 : Int)), .int .u8 (97 + (a2 : Int)), .int .u8 (97 + (a3 : Int))] 5)
      have ba2 := ba ba1 (.cells #[.string (text (nameOf i))] 9)
      have hr1 := (Row.ofBuild (sz := 1) (wr.alloc (.cells #[.int .u8 (97 + (a1 : Int)), .int .u8 (97 + (a2 : Int)), .int .u8 (97 + (a3 : Int))] 5)) #[.string (text (nameOf i))] 9 1 rfl (by omega))
      rw [World.size_alloc] at hr1
      have HR := hid hr1
      clear hr1
      have HO := hid (I.out.1.later ba2)
      have HBB := hid (I.out.2.trans (ba2.mono I.out.2.size))
      have hol : (manyN i).length = i := many_len i
      have hwz : w.heap.size ≤ wr.heap.size := I.out.2.size
      clear hb hby hT hTl hnm ba1 ba2 ha1 ha2 ha3
      go_wp2_with (at_builtin; refine wpList_append_row rfl _ _ 22 rfl w.heap.size 9 i0 _ 1 16 underS hi hz0 hz1 hz2 rfl (by decide) _ _ _ rfl HO.out _ 1 [.string (text (nameOf i))] rfl HR.out ?d0 ?d1 ?d2 ?d3 ?_)
      case d0 => simp [Value.oneCell']
      case d1 => omega
      case d2 => unfold maxLen; omega
      case d3 => first | omega | (simp; omega)
      intro v6 w6 hown6 hg6
      have HB6 := hid (grown_below HBB.out HO.out (Nat.le_refl _) hg6)
      have HW6 : Hid (OwnS w.heap.size w6 v6 (manyN (i + 1))) := hid (by
        unfold OwnS
        rw [many_succ, List.length_append, strsOf_append, many_len]
        exact hown6)
      clear hown6 hg6 hcv hadd hsz
      go_wp2_with fail
      go_roundg (k - (i + 1))
      case measure => omega
      case rel => exact ⟨i + 1, by go_num, by omega, Nat.le_refl _, hid ⟨HW6.out, HB6.out⟩⟩
    · have e : i = k := by omega
      subst e
      have HS := hid (I.out.1.strs (by rw [many_len]; omega))
      have HB := hid I.out.2
      have hal : (manyN i).all rightB = true := List.all_eq_true.2 fun z hz => by
        obtain ⟨j, hj, rfl⟩ := many_mem hz
        exact name_right (by omega)
      have hpl : (put [] (manyN i)).length = i := by
        have := put_len (N := []) (m := manyN i) (by simp [Rise]) (by simpa using many_nodup (by omega))
        rw [this, many_len]; simp
      have hxl : ∀ x ∈ manyN i, x.length ≤ 100000 := fun x hx => by
        obtain ⟨j, hj, rfl⟩ := many_mem hx
        simp [nameOf]
      have HAL := hid hal
      have HPL := hid hpl
      have HXL := hid hxl
      have HMM := hid (fun z => put_mem (manyN i) [] z)
      clear I hal hpl hxl
      go_wp2_with fail
      refine (New_any _ (manyN i) _ HS.out (by rw [many_len]; omega) HXL.out).mono ?_
      rintro e w3 ⟨po, er, rfl, hg3, hb3⟩
      have HB3 := hid (bt HB.out hb3)
      have HS3 := hid (HS.out.below hb3 (Nat.le_refl _))
      clear hb3
      by_cases hbig : 4096 < i
      · have hbz : (4096 : Int) < (i : Int) := by omega
        rcases hg3 with ⟨_, _, h⟩ | ⟨rfl, rfl, _, h⟩ | ⟨_, _, _, h, _⟩
        · rw [HAL.out] at h; cases h
        · clear h hbig
          go_wp2_with fail
          refine (alive_any _).mono ?_
          rintro e w4 ⟨rfl, hb4⟩
          have HB4 := hid (bt HB3.out hb4)
          clear hb4
          go_wp2
          go_ret
          exact ⟨rfl, HB4.out⟩
        · rw [HPL.out] at h; omega
      · have hbz : ¬ (4096 : Int) < (i : Int) := by omega
        rcases hg3 with ⟨_, _, h⟩ | ⟨_, _, _, h⟩ | ⟨rfl, ⟨b, rfl⟩, _, _, hs⟩
        · rw [HAL.out] at h; cases h
        · rw [HPL.out] at h; omega
        obtain ⟨N, hN⟩ : ∃ N, put [] (manyN i) = N := ⟨_, rfl⟩
        rw [hN] at hs
        have HNL : Hid (N.length = i) := hid (by rw [← hN]; exact HPL.out)
        have HNM : Hid (∀ z, z ∈ N ↔ z ∈ manyN i) := hid (fun z => by rw [← hN, HMM.out]; simp)
        have HSC := hid hs
        have hNl := HNL.out
        clear hs hbig hN
        have hlen1 := SLen_any _ N w3 HSC.out
        rw [hNl] at hlen1
        have HL1 := hid hlen1
        clear hlen1
        go_wp2_with fail
        refine HL1.out.mono ?_
        rintro e w4 ⟨rfl, hw4⟩
        subst hw4
        obtain ⟨v5, _, _, r3, hv5⟩ := Row.sub (P := Tryd.prog) HS3.out 0 5 (by omega) (by rw [many_len]; omega) 22 9 Tryd.underlying22 Tryd.sizeOf9
        have r3' : ∀ kh W, (Instr.slice 22 u4 none (some (.int kh 5)) none).run Tryd.prog W = .ok v5 W := r3 rfl
        have HV5 : Hid (Strs w4 v5 ((manyN i).take 5)) := hid (by
          have e1 : ((strsOf (manyN i)).drop (0 * 1)).take ((5 - 0) * 1) = strsOf ((manyN i).take 5) := by simp [strsOf, List.map_take]
          rw [e1] at hv5
          unfold Strs
          rw [show ((manyN i).take 5).length = 5 - 0 by rw [List.length_take, many_len]; omega]
          exact hv5)
        clear r3 hv5
        go_wp2_with fail
        refine (With_any _ N v5 ((manyN i).take 5) _ HSC.out HV5.out (by rw [List.length_take]; omega) (fun x hx => HXL.out x (List.mem_of_mem_take hx))).mono ?_
        rintro e w5 ⟨pt, et, rfl, hgt, hb5⟩
        have HB5 := hid (bt HB3.out hb5)
        have HSC5 := hid (HSC.out.later hb5)
        have hold : put N ((manyN i).take 5) = N := put_old HSC.out.rise fun z hz => (HNM.out z).2 (List.mem_of_mem_take hz)
        obtain ⟨rfl, ⟨bt5, rfl⟩, HT5⟩ : et = 0 ∧ (∃ b, pt = some ⟨b, 0, none⟩) ∧ Hid (ScAt w5 pt N) := by
          rcases hgt with ⟨_, _, h⟩ | ⟨_, _, _, h⟩ | ⟨h1, h2, _, _, hs⟩
          · exfalso
            rw [List.all_eq_false] at h
            obtain ⟨z, hz, hz2⟩ := h
            exact hz2 (List.all_eq_true.1 HAL.out z (List.mem_of_mem_take hz))
          · exfalso
            rw [hold, hNl] at h; omega
          · rw [hold] at hs
            exact ⟨h1, h2, hid hs⟩
        clear hgt hb5 hold
        go_wp2_with fail
        have h3 := Row.ofBuild (sz := 1) w5 #[.string (text [120]), .string (text [121]), .string (text [122])] 9 3 rfl (by omega)
        have hba : Below w5.heap.size w5 (w5.alloc (.cells #[.string (text [120]), .string (text [121]), .string (text [122])] 9)) := (Below.refl _ w5).alloc (Nat.le_refl _) _
        refine (With_any _ N _ xyz _ (HSC5.out.later hba) (show Strs _ _ xyz from h3) (by decide) (by decide)).mono ?_
        rintro e w6 ⟨pu, eu, rfl, hgu, hb6⟩
        have HB6 := hid (HB5.out.trans ((hba.trans (hb6.mono hba.size)).mono HB5.out.size))
        have HT6 := hid ((HT5.out.later hba).later hb6)
        have hlen3 : (put N xyz).length = i + 3 := by
          have h9 : (N ++ xyz).Nodup := by
            refine List.nodup_append.2 ⟨HSC.out.rise.nodup, by decide, fun a ha c hc e => ?_⟩
            subst e
            obtain ⟨j, _, rfl⟩ := many_mem ((HNM.out a).1 ha)
            simp [xyz, nameOf] at hc
          rw [put_len HSC.out.rise h9, hNl]; rfl
        have HL3 := hid hlen3
        have HGU := hid hgu
        clear h3 hba hb6 hgu hlen3
        go_wp2_with fail
        refine (alive_any _).mono ?_
        rintro e w7 ⟨rfl, hb7⟩
        have HB7 := hid (bt HB6.out hb7)
        have hlt := SLen_any _ N w7 (HT6.out.later hb7)
        rw [hNl] at hlt
        have HLT := hid hlt
        have HB67 := hid hb7
        clear hlt hb7
        by_cases h3 : i + 3 ≤ 4096
        · have h3z : (i : Int) + 3 ≤ 4096 := by omega
          obtain ⟨rfl, ⟨bu, rfl⟩, HU⟩ : eu = 0 ∧ (∃ b, pu = some ⟨b, 0, none⟩) ∧ Hid (ScAt w6 pu (put N xyz)) := by
            rcases HGU.out with ⟨_, _, h⟩ | ⟨_, _, _, h⟩ | ⟨h1, h2, _, _, hs⟩
            · exfalso; rw [xyz_right] at h; cases h
            · exfalso; rw [HL3.out] at h; omega
            · exact ⟨h1, h2, hid hs⟩
          have hlu := SLen_any _ (put N xyz) w7 (HU.out.later HB67.out)
          rw [HL3.out] at hlu
          have HLU := hid hlu
          have hcast : ((i + 3 : Nat) : Int) = (i : Int) + 3 := by omega
          rw [hcast] at HLU
          clear hlu h3 hcast
          go_wp2_with fail
          refine HLT.out.mono ?_
          rintro e w8 ⟨rfl, hw8⟩
          subst hw8
          go_wp2_with fail
          refine HLU.out.mono ?_
          rintro e w9 ⟨rfl, hw9⟩
          subst hw9
          go_wp2
          go_ret
          exact ⟨rfl, HB7.out⟩
        · have h3z : decide ((i : Int) + 3 ≤ 4096) = false := decide_eq_false (by omega)
          obtain ⟨rfl, rfl⟩ : eu = 19 ∧ pu = none := by
            rcases HGU.out with ⟨_, _, h⟩ | ⟨h1, h2, _, _⟩ | ⟨_, _, _, h, _⟩
            · exfalso; rw [xyz_right] at h; cases h
            · exact ⟨h1, h2⟩
            · exfalso; rw [HL3.out] at h; omega
          clear h3
          go_wp2_with fail
          refine HLT.out.mono ?_
          rintro e w8 ⟨rfl, hw8⟩
          subst hw8
          go_wp2
          go_ret
          exact ⟨rfl, HB7.out⟩
end Go.Proofs.YthggoohchjifnaaDoor.Sc
