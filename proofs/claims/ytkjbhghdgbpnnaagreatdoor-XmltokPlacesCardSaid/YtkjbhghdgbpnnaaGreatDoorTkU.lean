/- Layer 4: the walk of the statement XmltokPlaces. -/
import Derived.Test.YtkjbhghdgbpnnaaGreatDoorTkG
set_option linter.unusedVariables false
set_option linter.unusedSimpArgs false
namespace Go.Proofs.YtkjbhghdgbpnnaaGreatDoor.Tok
open Go Go.Proofs.YtkjbhghdgbpnnaaGreatDoor Go.Proofs.YtkjbhghdgbpnnaaGreatDoor.Utf Go.Proofs.YtkjbhghdgbpnnaaGreatDoor.Names Go.Proofs.YtkjbhghdgbpnnaaGreatDoor.Ent Go.RowKit
set_option maxRecDepth 100000

theorem nth_some {l : List UInt8} {i : Nat} {c : UInt8} (h : l[i]? = some c) : nth l i = c.toNat := by
  unfold nth
  rw [List.getD_eq_getElem?_getD, h]; rfl

set_option maxHeartbeats 8000000 in
theorem XmltokPlaces_walk (v : Value) (l : List UInt8) (W : World) (hb : Bytes W v l) (hw : FitM W) :
    Calls Tryz.prog 5 #[v] W fun e w' => e = .returned (.bool true) ∧ Below W.heap.size W w' := by
  have hlen := fun X => hb.len (P := Tryz.prog) 25 3 5 underB X
  have AL := hid alive_any
  have HW := hid hw
  by_cases hl : 3000 < l.length
  · have hcmp : (3000 : Int) < (l.length : Int) := by omega
    clear hb hw
    go_enter Tryz.func5, Tryz.ntmps5
    go_wp2_with fail
    refine (AL.out _ HW.out).mono ?_
    rintro e w1 ⟨rfl, hb1⟩
    have HB1 := hid hb1
    clear hb1
    go_wp2_with fail
    refine (AL.out _ (HW.out.below HB1.out)).mono ?_
    rintro e w2 ⟨rfl, hb2⟩
    go_wp2
    go_ret
    exact ⟨rfl, bt HB1.out hb2⟩
  · have hcmp : ¬ (3000 : Int) < (l.length : Int) := by omega
    have TK := fun X (hX : Below W.heap.size W X) => Tokens_any (hb.below hX (Nat.le_refl _)) (hw.below hX) (by omega)
    obtain ⟨ts, n, e, ht⟩ : ∃ ts n e, tokens l = (ts, n, e) := ⟨_, _, _, rfl⟩
    rw [ht] at TK
    dsimp only at TK
    have T0 := hid TK
    have HB := hid hb
    clear TK hb hw
    by_cases he : e = 0
    · subst he
      obtain ⟨hn, hr⟩ := tokens_rise ht
      subst hn
      have HR := hid hr
      clear ht hr
      go_enter Tryz.func5, Tryz.ntmps5
      go_wp2_with fail
      refine (AL.out _ HW.out).mono ?_
      rintro e w1 ⟨rfl, hb1⟩
      have HB1 := hid hb1
      clear hb1
      go_wp2_with fail
      refine (T0.out _ HB1.out).mono ?_
      rintro e w2 ⟨⟨tv, rfl, ht2⟩, hb2⟩
      have tlen := fun X => ht2.len (P := Tryz.prog) 22 3 38 undTs X
      have htl : ts.length ≤ 281474976710656 := by obtain ⟨q, rfl, h, _⟩ := ht2; rw [List.length_map]; exact Row.le h
      have HT2 := hid ht2
      have HB2 := hid (bt HB1.out hb2)
      clear ht2 hb2
      go_wp2_with fail
      go_loopg [6, 42] ts.length (fun g lv iv wr => ∃ (i : Nat) (last : Int), lv = .int .i64 last ∧ iv = .int .i64 i ∧ i + g = ts.length ∧ Hid (Rise l last (ts.drop i)) ∧ Below w2.heap.size w2 wr ∧ -1 ≤ last ∧ last ≤ 3000)
      case atStart => exact ⟨0, -1, rfl, rfl, by omega, hid (by rw [List.drop_zero]; exact HR.out), b0 _, by omega, by omega⟩
      case round =>
        obtain ⟨i, last, rfl, rfl, hig, HRI, hbr, hl1, hl2⟩ := hrel
        have HBR := hid hbr
        clear hbr
        by_cases hi : i < ts.length
        · generalize hG : gk = G at *
          clear hG
          obtain ⟨tb, o, a, ia, k0, k1, k2, k3, pa⟩ := (HT2.out.below HBR.out (Nat.le_refl _)).at (P := Tryz.prog) i hi 22 38 undTs sizT
          obtain ⟨ao, an, ac, rfl⟩ : ∃ ao an ac, a = .slice ao an ac := by obtain ⟨⟨x, c, h, _⟩, _⟩ := pa; exact ⟨_, _, _, h⟩
          have hri := HRI.out
          rw [List.drop_eq_getElem_cons hi] at hri
          generalize ts[i] = t at *
          obtain ⟨hr1, ⟨hg0, hg1, hg2, hg3⟩, hr3⟩ := hri
          have HR3 := hid hr3
          have HG3 := hid hg3
          obtain ⟨kd, pl, s, ats⟩ := t
          dsimp only at *
          have ht1 : ¬ pl ≤ last := by omega
          have ht2 : ¬ (l.length : Int) ≤ pl := by omega
          have hBr := HB2.out.trans (HBR.out.mono HB2.out.size)
          have hBa := hBr.trans ((ba (b0 wr) (.cells #[.int .i64 kd, .int .i64 pl, .string (text s), .slice ao an ac] 38)).mono hBr.size)
          obtain ⟨bb, bo, ib, hcb⟩ := (HB.out.below hBa (Nat.le_refl _)).atI (P := Tryz.prog) pl hg0 (by omega) 25 5 underB size8
          have plen := fun X => pa.len (P := Tryz.prog) 36 3 40 undPs X
          have hal : ats.length ≤ 281474976710656 := Row.le pa
          have hPA := pa.below (ba (b0 wr) (.cells #[.int .i64 kd, .int .i64 pl, .string (text s), .slice ao an ac] 38)) (Nat.le_refl _)
          have hP1 := heap_alloc_new wr (.cells #[.int .i64 kd, .int .i64 pl, .string (text s), .slice ao an ac] 38)
          have hsz : (wr.alloc (.cells #[.int .i64 kd, .int .i64 pl, .string (text s), .slice ao an ac] 38)).heap.size = wr.heap.size + 1 := by simp
          have HPA := hid hPA
          have HP1 := hid hP1
          have HBA := hid hBa
          have HB2A := hid (HBR.out.trans ((ba (b0 wr) (.cells #[.int .i64 kd, .int .i64 pl, .string (text s), .slice ao an ac] 38)).mono HBR.out.size))
          have HSZ := hid hsz
          by_cases hk : kd = 3
          · have kk : (kd == 3) = true := by rw [beq_iff_eq]; exact hk
            have kk2 : (kd != 3) = false := by rw [bne, kk]; rfl
            clear hk hg2 hg3 hr3 pa hPA hP1 hBr hBa HRI hsz
            go_wp2_with fail
            go_loopg [73] ats.length (fun g jv w3 => ∃ j : Nat, jv = .int .i64 j ∧ j + g = ats.length ∧ Below (wr.alloc (.cells #[.int .i64 kd, .int .i64 pl, .string (text s), .slice ao an ac] 38)).heap.size (wr.alloc (.cells #[.int .i64 kd, .int .i64 pl, .string (text s), .slice ao an ac] 38)) w3)
            case atStart => exact ⟨0, rfl, by omega, b0 _⟩
            case round =>
              rename World => w3
              obtain ⟨j, rfl, hjg, hb3⟩ := hrel
              have HB3 := hid hb3
              have p3 := (hb3.block wr.heap.size (by rw [HSZ.out]; omega)).trans HP1.out
              have d1 : w3.cell? ⟨wr.heap.size, 1, none⟩ = some (.int .i64 pl) := by rw [Lib.cell_of_heap p3]; rfl
              clear hb3 p3
              by_cases hj : j < ats.length
              · obtain ⟨bp, op, ip, cp0, cp1, cp2⟩ := (HPA.out.below HB3.out (Nat.le_refl _)).at (P := Tryz.prog) j hj 36 40 undPs sizP
                obtain ⟨hx0, hx1, hx2, hx3⟩ := HG3.out ats[j] (List.getElem_mem hj)
                generalize ats[j] = x at *
                obtain ⟨xp, nm, vl⟩ := x
                dsimp only at *
                have B4 := ba (b0 w3) (.cells #[.int .i64 xp, .string (text nm), .string (text vl)] 40)
                have hB4 := HBA.out.trans ((HB3.out.trans (B4.mono HB3.out.size)).mono HBA.out.size)
                obtain ⟨v', s1, _, _, hv'⟩ := (HB.out.below hB4 (Nat.le_refl _)).subI (P := Tryz.prog) xp (xp + (nm.length : Int)) hx1 (by omega) (by omega) 25 5 underB size8
                rw [show (xp + (nm.length : Int) - xp).toNat = nm.length from by omega, hx3] at hv'
                have hcv : ∀ q, (convert 25 9 v').run Tryz.prog ((w3.alloc (.cells #[.int .i64 xp, .string (text nm), .string (text vl)] 40)).drewN q) = .ok (.string (text nm)) ((w3.alloc (.cells #[.int .i64 xp, .string (text nm), .string (text vl)] 40)).drewN q) := fun q => (hv'.below (below_drewN (b0 _) q) (Nat.le_refl _)).conv (P := Tryz.prog) 25 9 5 underB under8 under9
                have q1 : ¬ xp ≤ pl := by omega
                have q2 : ¬ (l.length : Int) < xp + (nm.length : Int) := by omega
                have sn : (text nm).size = nm.length := text_size nm
                have q3 : IntKind.i64.wrap (xp + (nm.length : Int)) = xp + (nm.length : Int) := IntWalk.i64_in _ ⟨by omega, by omega⟩
                have q4 : decide (xp ≤ pl) = false := decide_eq_false q1
                have q5 : decide ((l.length : Int) < xp + (nm.length : Int)) = false := decide_eq_false q2
                have dd1 : (w3.alloc (.cells #[.int .i64 xp, .string (text nm), .string (text vl)] 40)).cell? ⟨wr.heap.size, 1, none⟩ = some (.int .i64 pl) := by
                  rw [B4.cell (p := ⟨wr.heap.size, 1, none⟩) (World.block_lt_of_cell? _ _ d1)]; exact d1
                have HB4 := hid (HB3.out.trans (B4.mono HB3.out.size))
                clear hx3 hv' hB4 B4
                go_wp2_with fail
                go_quiet (fail)
                go_wp2
                go_roundg (gk - 1)
                case measure => omega
                case rel => exact ⟨j + 1, by go_num, by omega, below_drewN HB4.out _⟩
              · go_wp2
                go_roundg (G - 1)
                case measure => omega
                case rel => exact ⟨i + 1, pl, rfl, by go_num, by omega, HR3.out, HB2A.out.trans (HB3.out.mono HB2A.out.size), by omega, by omega⟩
          · have kk : (kd == 3) = false := by rw [beq_eq_false_iff_ne]; exact hk
            have kk2 : (kd != 3) = true := by rw [bne, kk]; rfl
            have h60 : nth l pl.toNat = 60 := nth_some (hg2 hk)
            rw [h60] at hcb
            clear hk hg2 hg3 hr3 pa hPA hP1 hBr hBa HRI hsz h60
            go_wp2_with fail
            go_loopg [73] ats.length (fun g jv w3 => ∃ j : Nat, jv = .int .i64 j ∧ j + g = ats.length ∧ Below (wr.alloc (.cells #[.int .i64 kd, .int .i64 pl, .string (text s), .slice ao an ac] 38)).heap.size (wr.alloc (.cells #[.int .i64 kd, .int .i64 pl, .string (text s), .slice ao an ac] 38)) w3)
            case atStart => exact ⟨0, rfl, by omega, b0 _⟩
            case round =>
              rename World => w3
              obtain ⟨j, rfl, hjg, hb3⟩ := hrel
              have HB3 := hid hb3
              have p3 := (hb3.block wr.heap.size (by rw [HSZ.out]; omega)).trans HP1.out
              have d1 : w3.cell? ⟨wr.heap.size, 1, none⟩ = some (.int .i64 pl) := by rw [Lib.cell_of_heap p3]; rfl
              clear hb3 p3
              by_cases hj : j < ats.length
              · obtain ⟨bp, op, ip, cp0, cp1, cp2⟩ := (HPA.out.below HB3.out (Nat.le_refl _)).at (P := Tryz.prog) j hj 36 40 undPs sizP
                obtain ⟨hx0, hx1, hx2, hx3⟩ := HG3.out ats[j] (List.getElem_mem hj)
                generalize ats[j] = x at *
                obtain ⟨xp, nm, vl⟩ := x
                dsimp only at *
                have B4 := ba (b0 w3) (.cells #[.int .i64 xp, .string (text nm), .string (text vl)] 40)
                have hB4 := HBA.out.trans ((HB3.out.trans (B4.mono HB3.out.size)).mono HBA.out.size)
                obtain ⟨v', s1, _, _, hv'⟩ := (HB.out.below hB4 (Nat.le_refl _)).subI (P := Tryz.prog) xp (xp + (nm.length : Int)) hx1 (by omega) (by omega) 25 5 underB size8
                rw [show (xp + (nm.length : Int) - xp).toNat = nm.length from by omega, hx3] at hv'
                have hcv : ∀ q, (convert 25 9 v').run Tryz.prog ((w3.alloc (.cells #[.int .i64 xp, .string (text nm), .string (text vl)] 40)).drewN q) = .ok (.string (text nm)) ((w3.alloc (.cells #[.int .i64 xp, .string (text nm), .string (text vl)] 40)).drewN q) := fun q => (hv'.below (below_drewN (b0 _) q) (Nat.le_refl _)).conv (P := Tryz.prog) 25 9 5 underB under8 under9
                have q1 : ¬ xp ≤ pl := by omega
                have q2 : ¬ (l.length : Int) < xp + (nm.length : Int) := by omega
                have sn : (text nm).size = nm.length := text_size nm
                have q3 : IntKind.i64.wrap (xp + (nm.length : Int)) = xp + (nm.length : Int) := IntWalk.i64_in _ ⟨by omega, by omega⟩
                have q4 : decide (xp ≤ pl) = false := decide_eq_false q1
                have q5 : decide ((l.length : Int) < xp + (nm.length : Int)) = false := decide_eq_false q2
                have dd1 : (w3.alloc (.cells #[.int .i64 xp, .string (text nm), .string (text vl)] 40)).cell? ⟨wr.heap.size, 1, none⟩ = some (.int .i64 pl) := by
                  rw [B4.cell (p := ⟨wr.heap.size, 1, none⟩) (World.block_lt_of_cell? _ _ d1)]; exact d1
                have HB4 := hid (HB3.out.trans (B4.mono HB3.out.size))
                clear hx3 hv' hB4 B4
                go_wp2_with fail
                go_quiet (fail)
                go_wp2
                go_roundg (gk - 1)
                case measure => omega
                case rel => exact ⟨j + 1, by go_num, by omega, below_drewN HB4.out _⟩
              · go_wp2
                go_roundg (G - 1)
                case measure => omega
                case rel => exact ⟨i + 1, pl, rfl, by go_num, by omega, HR3.out, HB2A.out.trans (HB3.out.mono HB2A.out.size), by omega, by omega⟩
        · go_wp2
          go_ret
          exact ⟨rfl, HB2.out.trans (HBR.out.mono HB2.out.size)⟩
    · obtain ⟨rfl, hn⟩ := tokens_bad ht he
      have he2 : ((e : Int) == 0) = false := by rw [beq_eq_false_iff_ne]; omega
      clear ht
      go_enter Tryz.func5, Tryz.ntmps5
      go_wp2_with fail
      refine (AL.out _ HW.out).mono ?_
      rintro e w1 ⟨rfl, hb1⟩
      have HB1 := hid hb1
      clear hb1
      go_wp2_with fail
      refine (T0.out _ HB1.out).mono ?_
      rintro e w2 ⟨⟨tv, rfl, ht2⟩, hb2⟩
      have tlen := fun X => ht2.len (P := Tryz.prog) 22 3 38 undTs X
      have hn1 : (0 : Int) ≤ (n : Int) := by omega
      have hn2 : (n : Int) ≤ (l.length : Int) := by omega
      clear ht2
      go_wp2
      go_ret
      exact ⟨rfl, bt HB1.out hb2⟩
end Go.Proofs.YtkjbhghdgbpnnaaGreatDoor.Tok
