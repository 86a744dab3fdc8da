/- Layer 10: the document's check and Check. -/
import Derived.Test.YtlhhjocfbafoeaaGreatDoorXpSb
import Derived.StillTailTactics
set_option linter.unusedVariables false
set_option linter.unusedSimpArgs false
namespace Go.Proofs.YtlhhjocfbafoeaaGreatDoor.Xp
open Go Go.Proofs.YtlhhjocfbafoeaaGreatDoor Go.Proofs.YtlhhjocfbafoeaaGreatDoor.Utf Go.Proofs.YtlhhjocfbafoeaaGreatDoor.Names Go.Proofs.YtlhhjocfbafoeaaGreatDoor.Sc Go.RowKit
set_option maxRecDepth 100000
theorem quiet0 {F : FuncId} {args : Array Value} {w : World} {r : Ending} (h : Calls Tryz.prog F args w fun e w' => e = r ∧ w' = w) : Calls Tryz.prog F args w fun e w' => e = r ∧ ∃ m, w' = w.drewN m :=
  h.mono (by rintro e w' ⟨h1, rfl⟩; exact ⟨h1, 0, rfl⟩)
set_option maxHeartbeats 16000000 in
theorem rcheck_any : ∀ (N : Nat) (e : Ex) (t : Bool) (ao : Option Addr) (an ac : Nat) (po : Option Addr) (pn pc : Nat) (w : World), e.size ≤ N → IsE w e (.slice ao an ac) (.slice po pn pc) → e.mass ≤ 1000000 →
    Calls Tryz.prog 31 #[exV e (.slice ao an ac) (.slice po pn pc), .bool t] w fun r w' => (∃ v : Int, r = .returned (.int .i64 v) ∧ (v = 0 → Shp e)) ∧ Below w.heap.size w w' := by
  intro N
  induction N with
  | zero => intro e t ao an ac po pn pc w hN; have := e.size_pos; omega
  | succ N ih =>
    intro e t ao an ac po pn pc w hN h hm
    obtain ⟨k, s, nm, l⟩ := e
    have B1 := ba (b0 w) (.cells #[.int .i64 k, .string (text s), .slice ao an ac, .slice po pn pc] 25)
    have P1 := heap_alloc_new w (.cells #[.int .i64 k, .string (text s), .slice ao an ac, .slice po pn pc] 25)
    obtain ⟨V, hV⟩ : ∃ V, w.alloc (.cells #[.int .i64 k, .string (text s), .slice ao an ac, .slice po pn pc] 25) = V := ⟨_, rfl⟩
    rw [hV] at B1 P1
    have hE := h.later B1
    have plen := fun X => hE.parts.2.len 3 X
    have nlen := fun X => hE.parts.1.len (P := Tryz.prog) 22 3 9 undS X
    have hpl := hE.parts.2.le
    have hnl := hE.parts.1.le
    simp only [Ex.l, Ex.nm] at plen nlen hpl hnl
    have hsize : sizeL l ≤ N := by simp only [Ex.size] at hN; omega
    have hsl : s.length ≤ 1000000 := by simp only [Ex.mass] at hm; omega
    have FM := hid (rform_any (.mk k s nm l) t ao an ac po pn pc V hE (by simpa [Ex.s] using hsl))
    have HNL := hid (fun z (hz : z ∈ nm) => show z.length ≤ 2000000 from by have := namesMass_mem hz; simp only [Ex.mass] at hm; omega)
    have RR := hid (fun W => RRight_any s (by omega) W)
    have HE := hid hE
    have HB1 := hid B1
    have HP := hid P1
    have HIH := hid ih
    have HSZ := hid hsize
    have HM := hid hm
    have HSL := hid hsl
    obtain ⟨a0, a1, a2, a3⟩ := box_cells P1
    unfold exV at FM ⊢
    simp only [Ex.kind, Ex.s, Ex.nm, Ex.l] at FM ⊢
    clear ih h hN hE B1 P1 hsize hm
    by_cases hk : k < 0 ∨ 19 < k
    · rcases hk with hk | hk
      · have hd : decide (k < 0) = true := decide_eq_true hk
        clear hk
        go_enter Tryz.func31, Tryz.ntmps31
        go_wp2
        go_ret
        exact ⟨⟨2, rfl, fun h => absurd h (by decide)⟩, HB1.out⟩
      · have hd : decide (k < 0) = false := decide_eq_false (by omega)
        have hd2 : decide (19 < k) = true := decide_eq_true hk
        clear hk
        go_enter Tryz.func31, Tryz.ntmps31
        go_wp2
        go_ret
        exact ⟨⟨2, rfl, fun h => absurd h (by decide)⟩, HB1.out⟩
    have hd : decide (k < 0) = false := decide_eq_false (by omega)
    have hd2 : decide (19 < k) = false := decide_eq_false (by omega)
    clear hk
    go_enter Tryz.func31, Tryz.ntmps31
    go_wp2_with fail
    refine FM.out.mono ?_
    rintro r w1 ⟨⟨b, rfl, hb⟩, hb1⟩
    have HX := hid (show ∀ X, Below V.heap.size V X → X.cell? ⟨w.heap.size, 0, none⟩ = some (.int .i64 k) ∧ X.cell? ⟨w.heap.size, 1, none⟩ = some (.string (text s)) ∧ X.cell? ⟨w.heap.size, 2, none⟩ = some (.slice ao an ac) ∧ X.cell? ⟨w.heap.size, 3, none⟩ = some (.slice po pn pc) from fun X hX => box_cells ((hX.block _ (lt_of_some HP.out)).trans HP.out))
    have HW1 := hid hb1
    have HOK := hid hb
    clear hb hb1 a0 a1 a2 a3 hd hd2 FM hV
    cases b with
    | false =>
      go_wp2
      go_ret
      exact ⟨⟨17, rfl, fun h => absurd h (by decide)⟩, bt HB1.out HW1.out⟩
    | true =>
      have NM := hid (rnamed_any k w1)
      obtain ⟨a0, a1, a2, a3⟩ := HX.out _ HW1.out
      go_upto_region 5 with fail
      go_cut [29] from 21 to 29 (fun c X => ∃ cb : Bool, c = .bool cb ∧ (cb = false → k = 3 → rightB s = true) ∧ Hid (Below w1.heap.size w1 X))
      case first =>
        go_wp2_with fail
        refine NM.out.mono ?_
        rintro r w2 ⟨⟨nb, rfl, hnb⟩, hw2⟩
        subst hw2
        cases nb with
        | false =>
          have HNB := hid (show k ≠ 3 from fun q => by have := hnb q; cases this)
          clear hnb
          go_wp2_with fail
          go_meet
          exact ⟨false, rfl, fun _ q => absurd q HNB.out, hid (b0 _)⟩
        | true =>
          clear hnb
          have R1 := hid (RR.out w2)
          obtain ⟨rb, hrb⟩ : ∃ rb, rightB s = rb := ⟨_, rfl⟩
          rw [hrb] at R1
          have HRB := hid hrb
          clear hrb
          go_wp2_with fail
          refine R1.out.mono ?_
          rintro r w3 ⟨rfl, hb3⟩
          go_wp2_with fail
          go_meet
          exact ⟨!rb, rfl, fun h _ => by rw [HRB.out]; simpa using h, hid hb3⟩
      case rest =>
        obtain ⟨cb, rfl, hcb, HW2⟩ := hcut
        have HCB := hid hcb
        have HWV := hid (bt HW1.out HW2.out)
        clear hcb a0 a1 a2 a3 NM
        rename World => w2
        cases cb with
        | true =>
          go_wp2
          go_ret
          exact ⟨⟨6, rfl, fun h => absurd h (by decide)⟩, bt HB1.out HWV.out⟩
        | false =>
          go_wp2_with fail
          go_loopg [5] nm.length (fun gk iv X => ∃ i : Nat, iv = .int .i64 i ∧ i + gk = nm.length ∧ Hid (Below V.heap.size V X))
          case atStart => exact ⟨0, rfl, by omega, HWV⟩
          case round =>
            rename World => X
            obtain ⟨i, rfl, hig, HBX⟩ := hrel
            obtain ⟨a0, a1, a2, a3⟩ := HX.out _ HBX.out
            by_cases hi : i < nm.length
            · obtain ⟨b1, o1, ix, c0⟩ := (HE.out.parts.1.below HBX.out (Nat.le_refl _)).at (P := Tryz.prog) i hi 22 9 undS sizS
              simp only [Ex.nm] at c0
              have hzl := HNL.out _ (List.getElem_mem hi)
              have ix' := ix .i64
              generalize nm[i] = z at *
              have R2 := hid (RRight_any z hzl X)
              obtain ⟨rb, hrb⟩ : ∃ rb, rightB z = rb := ⟨_, rfl⟩
              rw [hrb] at R2
              clear hrb ix hzl
              go_wp2_with fail
              refine R2.out.mono ?_
              rintro r w4 ⟨rfl, hb4⟩
              have HB4 := hid (bt HBX.out hb4)
              clear hb4 a0 a1 a2 a3 c0
              cases rb with
              | true =>
                go_wp2
                go_roundg (gk - 1)
                case measure => omega
                case rel => exact ⟨i + 1, by go_num, by omega, HB4⟩
              | false =>
                go_wp2
                go_ret
                exact ⟨⟨6, rfl, fun h => absurd h (by decide)⟩, bt HB1.out HB4.out⟩
            · go_wp2_with fail
              clear a0 a1 a2 a3
              go_loopg [6] nm.length (fun gk iv X => ∃ i : Nat, iv = .int .i64 i ∧ i + gk = nm.length ∧ Hid (Below V.heap.size V X))
              case atStart => exact ⟨0, rfl, by omega, HBX⟩
              case round =>
                clear HBX hig
                rename World => X
                obtain ⟨i, rfl, hig, HBX⟩ := hrel
                obtain ⟨a0, a1, a2, a3⟩ := HX.out _ HBX.out
                by_cases hi : i < nm.length
                · have hsX := HE.out.parts.1.below HBX.out (Nat.le_refl _)
                  simp only [Ex.nm] at hsX
                  obtain ⟨b1, o1, ix, c0⟩ := hsX.at (P := Tryz.prog) i hi 22 9 undS sizS
                  have ix' := ix .i64
                  obtain ⟨va, _, _, hruna, hrowa⟩ := Row.sub (P := Tryz.prog) hsX 0 i (Nat.zero_le _) (Nat.le_of_lt hi) 22 9 undS sizS
                  have ra : ∀ W, (Instr.slice 22 (.slice ao an ac) none (some (.int .i64 i)) none).run Tryz.prog W = .ok va W := fun W => hruna rfl .i64 W
                  have hst : Strs X va (nm.take i) := by
                    unfold Strs
                    rw [List.length_take, Nat.min_eq_left (Nat.le_of_lt hi)]
                    have e : ((strsOf nm).drop (0 * 1)).take ((i - 0) * 1) = strsOf (nm.take i) := by simp [strsOf, List.map_take]
                    rw [e] at hrowa
                    exact hrowa
                  generalize nm[i] = z at *
                  obtain ⟨mb, hmb⟩ : ∃ mb, decide (z ∈ nm.take i) = mb := ⟨_, rfl⟩
                  have AM := hid (fun (q : Nat) => quiet0 (by have := Among_any va (nm.take i) z (X.drewN q) (hst.below (bdrew X q) (Nat.le_refl _)); rw [hmb] at this; exact this))
                  clear hsX ix hruna hrowa hst hmb
                  cases mb with
                  | false =>
                    go_wp2_with fail
                    go_quiet ((go_at_call 36; exact Calls.quiet_of (AM.out _)))
                    go_wp2
                    go_roundg (gk - 1)
                    case measure => omega
                    case rel => exact ⟨i + 1, by go_num, by omega, hid (bdrewB HBX.out _)⟩
                  | true =>
                    go_wp2_with fail
                    go_quiet ((go_at_call 36; exact Calls.quiet_of (AM.out _)))
                    go_wp2
                    go_ret
                    exact ⟨⟨8, rfl, fun h => absurd h (by decide)⟩, bt HB1.out (bdrewB HBX.out _)⟩
                · go_upto_region 17 with fail
                  clear hi hig
                  go_cut [73] from 61 to 73 (fun c Y => ∃ cb : Bool, c = .bool cb ∧ Hid (Below V.heap.size V Y))
                  case first =>
                    by_cases hk1 : k = 1
                    · subst hk1
                      obtain ⟨v, W1, hcv, hv, hbw, _⟩ := conv_at (P := Tryz.prog) s (by omega) 9 81 5 under9 underB under8 X.drew
                      have HC := hid (fun (W : World) (hW : Below W1.heap.size W1 W) => Utf.RCheck_any v s W ((hv W1 rfl).below hW (Nat.le_refl _)))
                      have HS := hid (show ∀ Z, Below X.heap.size X Z → (Below X.heap.size X Z ∧ Z.cell? ⟨w.heap.size, 0, none⟩ = some (.int .i64 1) ∧ Z.cell? ⟨w.heap.size, 1, none⟩ = some (.string (text s))) from fun Z hZ => by
                        obtain ⟨z0, z1, _, _⟩ := HX.out Z (bt HBX.out hZ)
                        exact ⟨hZ, z0, z1⟩)
                      have HS1 := HS.out W1 (bt (bdrew X 1) hbw)
                      obtain ⟨hb1, u0, u1⟩ := HS1
                      have HBW := hid hb1
                      have zt := text_size s
                      clear hv hbw a2 a3 hb1
                      go_wp2_with fail
                      go_region_with (
                        go_at_call 57
                        refine (HC.out _ (b0 _)).mono ?_
                        rintro ev wx ⟨rfl, hb⟩
                        obtain ⟨hbx, y0, y1⟩ := HS.out wx (bt HBW.out hb)
                        have HBE := hid hbx
                        clear hb hbx)
                      all_goals go_wp2_with fail
                      all_goals go_meet
                      all_goals exact ⟨_, rfl, hid (bt HBX.out HBE.out)⟩
                    · have hkb : (k == 1) = false := by rw [beq_eq_false_iff_ne]; exact hk1
                      clear hk1
                      go_wp2_with fail
                      go_quiet (fail)
                      go_wp2_with fail
                      go_meet
                      exact ⟨false, rfl, hid (bdrewB HBX.out _)⟩
                  case rest =>
                    obtain ⟨cb, rfl, HBY⟩ := hcut
                    clear a0 a1 a2 a3 HBX
                    rename World => Y
                    cases cb with
                    | true =>
                      go_wp2
                      go_ret
                      exact ⟨⟨4, rfl, fun h => absurd h (by decide)⟩, bt HB1.out HBY.out⟩
                    | false =>
                      go_wp2_with fail
                      go_loopg [7, 8] l.length (fun gk iv _ X => ∃ i : Nat, iv = .int .i64 i ∧ i + gk = l.length ∧ Hid (Below V.heap.size V X) ∧ Hid (∀ p ∈ l.take i, Shp p))
                      case atStart => exact ⟨0, rfl, by omega, HBY, hid (by simp)⟩
                      case round =>
                        rename World => X
                        obtain ⟨i, rfl, hig, HBX, HA⟩ := hrel
                        obtain ⟨a0, a1, a2, a3⟩ := HX.out _ HBX.out
                        by_cases hi : i < l.length
                        · obtain ⟨b1, o1, nv1, pv1, i1, ⟨c0, c1, c2, c3, is1⟩⟩ := (HE.out.parts.2.later HBX.out).at i hi
                          simp only [Ex.l] at c0 c1 is1
                          have hsz : l[i].size ≤ N := Nat.le_trans (sizeL_mem (List.getElem_mem hi)) HSZ.out
                          have hpm := part_mass (k := k) (s := s) (nm := nm) hi
                          have htk : l.take (i + 1) = l.take i ++ [l[i]] := List.take_succ_eq_append_getElem hi
                          generalize l[i] = y at *
                          obtain ⟨xn, xp⟩ := is1.parts
                          obtain ⟨xo, xl, xc, rfl⟩ := Strs.form xn
                          obtain ⟨yo, yl, yc, rfl⟩ := xp.form
                          have i1' := i1 .i64
                          have HTK := hid htk
                          obtain ⟨tb, htb⟩ : ∃ tb : Bool, decide (k = 7 ∧ i = 1) = tb := ⟨_, rfl⟩
                          have IH := hid (fun (Z : World) (t' : Bool) (hZ : Below X.heap.size X Z) => HIH.out y t' xo xl xc yo yl yc Z hsz (is1.later hZ) (Nat.le_trans hpm HM.out))
                          have HEA := hid (show ExAt X b1 o1 y (.slice xo xl xc) (.slice yo yl yc) from ⟨c0, c1, c2, c3, is1⟩)
                          have HS := hid (show ∀ Z, Below X.heap.size X Z → (Below X.heap.size X Z ∧ Z.cell? ⟨w.heap.size, 0, none⟩ = some (.int .i64 k) ∧ Z.cell? ⟨w.heap.size, 3, none⟩ = some (.slice po pn pc) ∧ Z.cell? ⟨b1, o1, none⟩ = some (.int .i64 y.kind) ∧ Z.cell? ⟨b1, o1 + 1, none⟩ = some (.string (text y.s)) ∧ Z.cell? ⟨b1, o1 + 2, none⟩ = some (.slice xo xl xc) ∧ Z.cell? ⟨b1, o1 + 3, none⟩ = some (.slice yo yl yc)) from fun Z hZ => by
                            obtain ⟨a0, _, _, a3⟩ := HX.out Z (bt HBX.out hZ)
                            obtain ⟨z0, z1, z2, z3, _⟩ := HEA.out.later hZ
                            exact ⟨hZ, a0, a3, z0, z1, z2, z3⟩)
                          have HS0 := HS.out X.drew (bdrew X 1)
                          unfold exV at IH
                          clear i1 is1 xn xp hsz hpm htk htb tb
                          go_upto_region 22 with fail
                          clear c0 c1 c2 c3 a0 a1 a2 a3
                          go_cut [8] from 81 to 93 (fun c Y => ∃ v : Int, c = .int .i64 v ∧ (v = 0 → Shp y) ∧ Hid (Below V.heap.size V Y))
                          case first =>
                            by_cases h7 : k = 7
                            · subst h7
                              by_cases h1 : i = 1
                              · have hb1 : ((i : Int) == 1) = true := by rw [beq_iff_eq]; omega
                                have hb2 : (i == 1) = true := by rw [beq_iff_eq]; exact h1
                                clear h1
                                go_wp2_with fail
                                go_region_held3 (fun Z => (Below X.heap.size X Z ∧ Z.cell? ⟨w.heap.size, 0, none⟩ = some (.int .i64 7) ∧ Z.cell? ⟨w.heap.size, 3, none⟩ = some (.slice po pn pc) ∧ Z.cell? ⟨b1, o1, none⟩ = some (.int .i64 y.kind) ∧ Z.cell? ⟨b1, o1 + 1, none⟩ = some (.string (text y.s)) ∧ Z.cell? ⟨b1, o1 + 2, none⟩ = some (.slice xo xl xc) ∧ Z.cell? ⟨b1, o1 + 3, none⟩ = some (.slice yo yl yc))) (first | exact HSx | exact HS0) (first
                                  | (go_at_call 31
                                     refine (IH.out _ true ?_).mono ?_
                                     (first | exact HSx.1 | exact HS0.1)
                                     rintro ev wx ⟨⟨v, rfl, hv⟩, hb⟩
                                     have HVV := hid hv
                                     clear hv
                                     first | have HSx := HS.out _ (bt HSx.1 hb) | have HSx := HS.out _ (bt HS0.1 hb)))
                                all_goals go_wp2_with fail
                                all_goals go_meet
                                all_goals exact ⟨v, rfl, HVV.out, hid (bt HBX.out HSx.1)⟩
                              · have hb1 : ((i : Int) == 1) = false := by rw [beq_eq_false_iff_ne]; omega
                                have hb2 : (i == 1) = false := by rw [beq_eq_false_iff_ne]; exact h1
                                clear h1
                                go_wp2_with fail
                                go_region_held3 (fun Z => (Below X.heap.size X Z ∧ Z.cell? ⟨w.heap.size, 0, none⟩ = some (.int .i64 7) ∧ Z.cell? ⟨w.heap.size, 3, none⟩ = some (.slice po pn pc) ∧ Z.cell? ⟨b1, o1, none⟩ = some (.int .i64 y.kind) ∧ Z.cell? ⟨b1, o1 + 1, none⟩ = some (.string (text y.s)) ∧ Z.cell? ⟨b1, o1 + 2, none⟩ = some (.slice xo xl xc) ∧ Z.cell? ⟨b1, o1 + 3, none⟩ = some (.slice yo yl yc))) (first | exact HSx | exact HS0) (first
                                  | (go_at_call 31
                                     refine (IH.out _ _ ?_).mono ?_
                                     (first | exact HSx.1 | exact HS0.1)
                                     rintro ev wx ⟨⟨v, rfl, hv⟩, hb⟩
                                     have HVV := hid hv
                                     clear hv
                                     first | have HSx := HS.out _ (bt HSx.1 hb) | have HSx := HS.out _ (bt HS0.1 hb)))
                                all_goals go_wp2_with fail
                                all_goals go_meet
                                all_goals exact ⟨v, rfl, HVV.out, hid (bt HBX.out HSx.1)⟩
                            · have hb7 : (k == 7) = false := by rw [beq_eq_false_iff_ne]; exact h7
                              have hd7 : decide (k = 7) = false := decide_eq_false h7
                              clear h7
                              obtain ⟨_, f0, f3, g0, g1, g2, g3⟩ := HS0
                              have HXD := hid (show Below X.heap.size X X.drew from bdrew X 1)
                              go_still_tail 12, (by kernel_rfl)
                              change wpList _ _ _ _ _ X.drew
                              clear HS
                              generalize X.drew = X1 at *
                              go_wp2_with fail
                              refine (IH.out _ _ HXD.out).mono ?_
                              rintro ev wx ⟨⟨v, rfl, hv⟩, hb⟩
                              have HVV := hid hv
                              have HBW := hid (bt HBX.out (bt HXD.out hb))
                              clear hv hb
                              go_wp2_with fail
                              go_meet
                              exact ⟨v, rfl, HVV.out, HBW⟩
                          case rest =>
                            obtain ⟨v, rfl, hv, HBZ⟩ := hcut
                            have HVV := hid hv
                            clear hv
                            by_cases hv0 : v = 0
                            · subst hv0
                              go_wp2
                              go_roundg (gk - 1)
                              case measure => omega
                              case rel => exact ⟨i + 1, by go_num, by omega, HBZ, hid (by
                                rw [HTK.out]
                                intro p hp
                                rcases List.mem_append.1 hp with hp | hp
                                · exact HA.out p hp
                                · rw [List.mem_singleton] at hp; rw [hp]; exact HVV.out (by trivial))⟩
                            · have hvb : (v == 0) = false := by rw [beq_eq_false_iff_ne]; exact hv0
                              have hvb2 : (v != 0) = true := by rw [bne_iff_ne]; exact hv0
                              have HV0 := hid hv0
                              clear hv0
                              go_wp2
                              go_ret
                              exact ⟨⟨v, rfl, fun h => absurd h HV0.out⟩, bt HB1.out HBZ.out⟩
                        · have HSHP := hid (show Shp (.mk k s nm l) from by
                            have hok : ShapeOk k nm.length l.length := by simpa using HOK.out
                            have hcb : k = 3 → rightB s = true := by simpa using HCB.out
                            refine .mk hok.1 hok.2 hcb fun p hp => ?_
                            have := HA.out p
                            rw [List.take_of_length_le (by omega)] at this
                            exact this hp)
                          go_wp2
                          go_ret
                          exact ⟨⟨0, rfl, fun _ => HSHP.out⟩, bt HB1.out HBX.out⟩
set_option maxHeartbeats 4000000 in
theorem RCheck_expr (e : Ex) (ao : Option Addr) (an ac : Nat) (po : Option Addr) (pn pc : Nat) (w : World) (h : IsE w e (.slice ao an ac) (.slice po pn pc)) (hm : e.mass ≤ 1000000) :
    Calls Tryz.prog 11 #[exV e (.slice ao an ac) (.slice po pn pc)] w fun r w' => (∃ v : Int, r = .returned (.int .i64 v) ∧ (v = 0 → e.depth ≤ 200 ∧ Shp e)) ∧ Below w.heap.size w w' := by
  obtain ⟨V, hV⟩ : ∃ V, w.alloc (.cells #[.int .i64 e.kind, .string (text e.s), .slice ao an ac, .slice po pn pc] 25) = V := ⟨_, rfl⟩
  have BV : Below w.heap.size w V := hV ▸ ba (b0 w) _
  have P2 : V.heap[w.heap.size]? = some (.cells #[.int .i64 e.kind, .string (text e.s), .slice ao an ac, .slice po pn pc] 25) := hV ▸ heap_alloc_new w _
  have hE := h.later BV
  have DP := hid (RDepth_any e.size e ao an ac po pn pc V 201 (Nat.le_refl _) hE (by omega))
  have CK := hid (fun (W : World) (hW : Below V.heap.size V W) => rcheck_any e.size e true ao an ac po pn pc W (Nat.le_refl _) (hE.later hW) hm)
  have HX := hid (show ∀ X, Below V.heap.size V X → X.cell? ⟨w.heap.size, 0, none⟩ = some (.int .i64 e.kind) ∧ X.cell? ⟨w.heap.size, 1, none⟩ = some (.string (text e.s)) ∧ X.cell? ⟨w.heap.size, 2, none⟩ = some (.slice ao an ac) ∧ X.cell? ⟨w.heap.size, 3, none⟩ = some (.slice po pn pc) from fun X hX => box_cells ((hX.block _ (lt_of_some P2)).trans P2))
  have HBV := hid BV
  obtain ⟨a0, a1, a2, a3⟩ := box_cells P2
  obtain ⟨dv, hdv⟩ : ∃ dv : Nat, min e.depth (201 + 1) = dv := ⟨_, rfl⟩
  rw [hdv] at DP
  have HDV := hid (show dv ≤ 200 → e.depth ≤ 200 from fun h => by omega)
  unfold exV at DP CK ⊢
  clear h hm BV P2 hE hdv
  go_enter Tryz.func11, Tryz.ntmps11
  go_wp2_with fail
  refine DP.out.mono ?_
  rintro r w1 ⟨rfl, hb1⟩
  have HB1 := hid hb1
  clear hb1 a0 a1 a2 a3 hV
  by_cases hd : 200 < dv
  · have hdi : (200 : Int) < (dv : Int) := by omega
    go_wp2
    go_ret
    exact ⟨⟨9, rfl, fun h => absurd h (by decide)⟩, bt HBV.out HB1.out⟩
  · have hdi : decide ((200 : Int) < (dv : Int)) = false := decide_eq_false (by omega)
    have hdj : decide (200 < dv) = false := decide_eq_false hd
    have HD := hid (HDV.out (by omega))
    obtain ⟨a0, a1, a2, a3⟩ := HX.out _ HB1.out
    clear hd
    go_wp2_with fail
    refine (CK.out _ HB1.out).mono ?_
    rintro r w2 ⟨⟨v, rfl, hv⟩, hb2⟩
    have HV := hid hv
    have HB2 := hid (bt HB1.out hb2)
    clear hv hb2
    go_wp2
    go_ret
    exact ⟨⟨v, rfl, fun h => ⟨HD.out, HV.out h⟩⟩, bt HBV.out HB2.out⟩
end Go.Proofs.YtlhhjocfbafoeaaGreatDoor.Xp
