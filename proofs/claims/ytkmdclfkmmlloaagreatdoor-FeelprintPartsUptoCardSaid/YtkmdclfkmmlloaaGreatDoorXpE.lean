/- Layer 10: contracts of check, Check, Scoped. -/
import Derived.Test.YtkmdclfkmmlloaaGreatDoorXpD
import Derived.Test.YtkmdclfkmmlloaaGreatDoorXpQ
import Derived.StillTailTactics
set_option linter.unusedVariables false
set_option linter.unusedSimpArgs false
namespace Go.Proofs.YtkmdclfkmmlloaaGreatDoor.Xp
open Go Go.Proofs.YtkmdclfkmmlloaaGreatDoor Go.Proofs.YtkmdclfkmmlloaaGreatDoor.Utf Go.Proofs.YtkmdclfkmmlloaaGreatDoor.Names Go.Proofs.YtkmdclfkmmlloaaGreatDoor.Sc Go.RowKit
set_option maxRecDepth 100000

set_option maxHeartbeats 8000000 in
theorem check_any : ∀ (M : Nat) (e : Ex), e.size ≤ M → ∀ (w : World) (mb b o : Nat) (nv pv : Value) (t : Bool), KindsAt w mb → ExAt w b o e nv pv → e.fit → e.mass ≤ 2000000 →
    Calls Tryz.prog 51 #[.map (some mb), .pointer (some ⟨b, o, none⟩), .bool t] w fun r w' => r = .returned (.int .i64 (chk e t)) ∧ Below w.heap.size w w' := by
  intro M
  induction M with
  | zero => intro e hM; have := e.size_pos; omega
  | succ M ih =>
    intro e hM w mb b o nv pv t hK hX hf hm
    have CA := hid (checkAlone_any hK hX hf hm t)
    obtain ⟨k, s, nm, l⟩ := e
    have c0 := hX.c0
    have c3 := hX.c3
    have hp := hX.is.parts.2
    simp only [Ex.kind, Ex.s, Ex.nm, Ex.l, Ex.fit, Ex.mass] at c0 c3 hp hf hm CA ⊢
    obtain ⟨po, pn, pc, rfl⟩ := hp.form
    have plen := fun W => hp.len (ty := 3) W
    have hblt : b < w.heap.size := World.block_lt_of_cell? _ _ c0
    have hlm : l.length ≤ 2000000 := by have := sizeL_len l; have := sizeL_mass l; omega
    have HFL := hid hf.2
    have HIH := hid ih
    have HK := hid hK
    have HP := hid hp
    have HSZ := hid (show sizeL l ≤ M by simp only [Ex.size] at hM; omega)
    have HML := hid (show massL l ≤ 2000000 by omega)
    have HCH := hid (chk_mk k s nm l t)
    obtain ⟨al, hal⟩ : ∃ al, alone k s nm l.length t = al := ⟨_, rfl⟩
    rw [hal] at CA HCH
    clear hK hX hf hm hM ih hp hal
    by_cases h0 : al = 0
    · subst h0
      have HCH2 := hid (HCH.out.trans (if_neg (by simp)))
      clear HCH
      go_enter Tryz.func51, Tryz.ntmps51
      go_wp2_with fail
      refine CA.out.mono ?_
      rintro r0 w1 ⟨rfl, hb1⟩
      have HB1 := hid hb1
      have d3 := (hb1.cell (p := ⟨b, o + 3, none⟩) hblt).trans c3
      clear hb1
      go_wp2_with fail
      go_loopg [22, 8, 9] l.length (fun gk iv _ _ X => ∃ i : Nat, iv = .int .i64 i ∧ i + gk = l.length ∧ Hid (chkL k l 0 = chkL k (l.drop i) i) ∧ Hid (Below w.heap.size w X))
      case atStart => exact ⟨0, rfl, by omega, hid (by rw [List.drop_zero]), HB1⟩
      case round =>
        rename World => X
        obtain ⟨i, rfl, hig, HE, HX⟩ := hrel
        have e0 := (HX.out.cell (p := ⟨b, o, none⟩) hblt).trans c0
        have e3 := (HX.out.cell (p := ⟨b, o + 3, none⟩) hblt).trans c3
        by_cases hi : i < l.length
        · obtain ⟨pb, po2, nv2, pv2, ix, hat⟩ := HP.out.at i hi
          have ix' := fun W => ix .i64 W
          have HDR := hid (List.drop_eq_getElem_cons hi)
          have IH := hid (fun (Y : World) (tt : Bool) (hY : Below w.heap.size w Y) => HIH.out l[i] (by have := sizeL_mem (List.getElem_mem hi); have := HSZ.out; omega) Y mb pb po2 nv2 pv2 tt (HK.out.later hY) (hat.later hY) (fitL_mem HFL.out _ (List.getElem_mem hi)) (by have := massL_mem (List.getElem_mem hi); have := HML.out; omega))
          have HCC := hid (chkL_cons k l[i] (l.drop (i + 1)) i)
          generalize l[i] = q at *
          clear ix hat
          have hbl := hid (show ∀ Y : World, Y = X.drew ∨ Y = X ∨ Y = X.drewN 1 → Below w.heap.size w Y from by
            have hb := HX.out
            rintro Y (rfl | rfl | rfl)
            · exact ⟨hb.os, hb.tape, hb.output, hb.size, hb.block⟩
            · exact hb
            · exact ⟨hb.os, hb.tape, hb.output, hb.size, hb.block⟩)
          by_cases h7 : k = 7
          · subst h7
            by_cases h1 : i = 1
            · subst h1
              have HDC := hid (show decide ((7 : Int) = 7 ∧ (1 : Nat) = 1) = true from by decide)
              have ix1 : ∀ W, (Instr.indexAt 23 (.slice po pn pc) (.int .i64 1)).run Tryz.prog W = .ok (.pointer (some ⟨pb, po2, none⟩)) W := ix'
              have HC2 := hid (show chkL 7 l 0 = if chk q true ≠ 0 then chk q true else chkL 7 (l.drop (1 + 1)) (1 + 1) from by rw [HE.out, HDR.out, HCC.out, HDC.out])
              have IH2 := hid (fun Y hY => IH.out Y true hY)
              obtain ⟨cv, hcv⟩ : ∃ cv, chk q true = cv := ⟨_, rfl⟩
              rw [hcv] at HC2
              simp only [hcv] at IH2
              clear hcv
              go_wp2_with fail
              go_region_with (
                go_at_call 51
                with_reducible refine (IH2.out _ ?hx).mono ?_
                case hx => first | exact hbl.out _ (.inl rfl) | exact hbl.out _ (.inr (.inl rfl))
                rintro r2 w2 ⟨rfl, hb2⟩
                have HB2 := hid (show Below w.heap.size w w2 from HX.out.trans ((show Below X.heap.size X w2 from ⟨hb2.os, hb2.tape, hb2.output, hb2.size, hb2.block⟩).mono HX.out.size))
                clear hb2)
              all_goals (
                by_cases hcz : cv = 0
                · subst hcz
                  have HT := hid (HC2.out.trans (if_neg (by simp)))
                  go_wp2
                  go_roundg (gk - 1)
                  case measure => omega
                  case rel => exact ⟨1 + 1, by go_num, by omega, HT, HB2⟩
                · have HT := hid (HC2.out.trans (if_pos hcz))
                  go_wp2
                  go_ret
                  rw [HCH2.out, HT.out]
                  exact ⟨rfl, HB2.out⟩)
            · have hb1 : ((i : Int) == 1) = false := by rw [beq_eq_false_iff_ne]; omega
              have HDC := hid (show decide ((7 : Int) = 7 ∧ i = 1) = false from by simp [h1])
              clear h1
              have HC2 := hid (show chkL 7 l 0 = if chk q false ≠ 0 then chk q false else chkL 7 (l.drop (i + 1)) (i + 1) from by rw [HE.out, HDR.out, HCC.out, HDC.out])
              have IH2 := hid (fun Y hY => IH.out Y false hY)
              obtain ⟨cv, hcv⟩ : ∃ cv, chk q false = cv := ⟨_, rfl⟩
              rw [hcv] at HC2
              simp only [hcv] at IH2
              clear hcv
              go_wp2_with fail
              go_region_with (
                go_at_call 51
                with_reducible refine (IH2.out _ ?hx).mono ?_
                case hx => first | exact hbl.out _ (.inl rfl) | exact hbl.out _ (.inr (.inl rfl))
                rintro r2 w2 ⟨rfl, hb2⟩
                have HB2 := hid (show Below w.heap.size w w2 from HX.out.trans ((show Below X.heap.size X w2 from ⟨hb2.os, hb2.tape, hb2.output, hb2.size, hb2.block⟩).mono HX.out.size))
                clear hb2)
              all_goals (
                by_cases hcz : cv = 0
                · subst hcz
                  have HT := hid (HC2.out.trans (if_neg (by simp)))
                  go_wp2
                  go_roundg (gk - 1)
                  case measure => omega
                  case rel => exact ⟨i + 1, by go_num, by omega, HT, HB2⟩
                · have HT := hid (HC2.out.trans (if_pos hcz))
                  go_wp2
                  go_ret
                  rw [HCH2.out, HT.out]
                  exact ⟨rfl, HB2.out⟩)
          · have hb7 : (k == 7) = false := by rw [beq_eq_false_iff_ne]; exact h7
            have HDC := hid (show decide (k = 7 ∧ i = 1) = false from by simp [h7])
            have hd7 : decide (k = 7) = false := decide_eq_false h7
            have HC2 := hid (show chkL k l 0 = if chk q false ≠ 0 then chk q false else chkL k (l.drop (i + 1)) (i + 1) from by rw [HE.out, HDR.out, HCC.out, HDC.out])
            have IH2 := hid (fun Y hY => IH.out Y false hY)
            obtain ⟨cv, hcv⟩ : ∃ cv, chk q false = cv := ⟨_, rfl⟩
            rw [hcv] at HC2
            simp only [hcv] at IH2
            clear hcv
            go_wp2_with fail
            go_still_tail 16, (by kernel_rfl)
            have e0' : X.drew.cell? ⟨b, o, none⟩ = some (.int .i64 k) := e0
            have e3' : X.drew.cell? ⟨b, o + 3, none⟩ = some (.slice po pn pc) := e3
            have HXD := hid (show Below w.heap.size w X.drew from hbl.out _ (.inl rfl))
            clear hbl
            change wpList _ _ _ _ _ X.drew
            generalize X.drew = X1 at *
            go_wp2_with fail
            refine (IH2.out _ HXD.out).mono ?_
            rintro r2 w2 ⟨rfl, hb2⟩
            have HB2 := hid (HXD.out.trans (hb2.mono HXD.out.size))
            clear hb2
            all_goals (
              by_cases hcz : cv = 0
              · subst hcz
                have HT := hid (HC2.out.trans (if_neg (by simp)))
                go_wp2
                go_roundg (gk - 1)
                case measure => omega
                case rel => exact ⟨i + 1, by go_num, by omega, HT, HB2⟩
              · have HT := hid (HC2.out.trans (if_pos hcz))
                go_wp2
                go_ret
                rw [HCH2.out, HT.out]
                exact ⟨rfl, HB2.out⟩)
        · have hd : l.drop i = [] := List.drop_eq_nil_of_le (by omega)
          have HT := hid (show chkL k l 0 = 0 from by rw [HE.out, hd, chkL])
          clear hd
          go_wp2
          go_ret
          rw [HCH2.out, HT.out]
          exact ⟨rfl, HX.out⟩
    · have HCH2 := hid (HCH.out.trans (if_pos h0))
      clear HCH
      go_enter Tryz.func51, Tryz.ntmps51
      go_wp2_with fail
      refine CA.out.mono ?_
      rintro r0 w1 ⟨rfl, hb1⟩
      have HB1 := hid hb1
      clear hb1
      go_wp2
      go_ret
      rw [HCH2.out]
      exact ⟨rfl, HB1.out⟩
theorem boxE (w : World) (e : Ex) (ao : Option Addr) (an ac : Nat) (po : Option Addr) (pn pc : Nat) (h : IsE w e (.slice ao an ac) (.slice po pn pc)) :
    ExAt (w.alloc (.cells #[.int .i64 e.kind, .string (text e.s), .slice ao an ac, .slice po pn pc] 25)) w.heap.size 0 e (.slice ao an ac) (.slice po pn pc) := by
  have hk := heap_alloc_new w (.cells #[.int .i64 e.kind, .string (text e.s), .slice ao an ac, .slice po pn pc] 25)
  exact ⟨by rw [Lib.cell_of_heap hk]; rfl, by rw [Lib.cell_of_heap hk]; rfl, by rw [Lib.cell_of_heap hk]; rfl, by rw [Lib.cell_of_heap hk]; rfl, boxed h⟩
set_option maxHeartbeats 4000000 in
theorem Check_any (e : Ex) (ao : Option Addr) (an ac : Nat) (po : Option Addr) (pn pc : Nat) (w : World) (hw : Num.Fit w) (h : IsE w e (.slice ao an ac) (.slice po pn pc)) (hf : e.fit) (hm : e.mass ≤ 2000000) :
    Calls Tryz.prog 31 #[exV e (.slice ao an ac) (.slice po pn pc)] w fun r w' => r = .returned (.int .i64 (checkV e)) ∧ Below w.heap.size w w' := by
  have hsz := size_mass e
  have B1 := ba (b0 w) (.cells #[.int .i64 e.kind, .string (text e.s), .slice ao an ac, .slice po pn pc] 25)
  have TD := hid (tooDeep_any e ao an ac po pn pc _ (boxed h) (by omega))
  have HX := hid (boxE w e ao an ac po pn pc h)
  have HW := hid (hw.at B1)
  have HF := hid hf
  have HM := hid hm
  have HCV := hid (show checkV e = if 200 < e.depth then 9 else chk e true from rfl)
  unfold exV at TD ⊢
  obtain ⟨V, hV⟩ : ∃ V, w.alloc (.cells #[.int .i64 e.kind, .string (text e.s), .slice ao an ac, .slice po pn pc] 25) = V := ⟨_, rfl⟩
  rw [hV] at B1 HX HW
  have HB := hid B1
  have HV := hid hV
  clear h hf hm hsz B1 hw
  by_cases hd : 200 < e.depth
  · have HC9 := hid (HCV.out.trans (if_pos hd))
    rw [decide_eq_true hd] at TD
    clear hd hV
    go_enter Tryz.func31, Tryz.ntmps31
    go_wp2_with fail
    refine TD.out.mono ?_
    rintro r w1 ⟨rfl, hb1⟩
    have HB1 := hid (show Below w.heap.size w w1 from by rw [HV.out] at hb1; exact HB.out.trans (hb1.mono HB.out.size))
    clear hb1
    go_wp2
    go_ret
    rw [HC9.out]
    exact ⟨rfl, HB1.out⟩
  · have HC0 := hid (HCV.out.trans (if_neg hd))
    rw [decide_eq_false hd] at TD
    clear hd hV
    go_enter Tryz.func31, Tryz.ntmps31
    go_wp2_with fail
    refine TD.out.mono ?_
    rintro r w1 ⟨rfl, hb1⟩
    rw [HV.out] at hb1
    have HB1 := hid (HB.out.trans (hb1.mono HB.out.size))
    have HX1 := hid (HX.out.later hb1)
    have RW := hid (rows_any w1 (HW.out.at hb1))
    clear hb1
    go_wp2_with fail
    refine RW.out.mono ?_
    rintro r2 w2 ⟨mb, rfl, hk, hb2⟩
    have HB2 := hid (bt HB1.out hb2)
    have CK := hid (check_any e.size e (Nat.le_refl _) w2 mb w.heap.size 0 _ _ true hk (HX1.out.later hb2) HF.out HM.out)
    clear hk hb2
    go_wp2_with fail
    refine CK.out.mono ?_
    rintro r3 w3 ⟨rfl, hb3⟩
    have HB3 := hid (bt HB2.out hb3)
    clear hb3
    go_wp2
    go_ret
    rw [HC0.out]
    exact ⟨rfl, HB3.out⟩
end Go.Proofs.YtkmdclfkmmlloaaGreatDoor.Xp
