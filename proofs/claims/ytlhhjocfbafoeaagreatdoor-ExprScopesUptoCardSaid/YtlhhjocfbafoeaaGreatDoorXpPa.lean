/- Layer 10: the walk of ExprParts. -/
import Derived.Test.YtlhhjocfbafoeaaGreatDoorXpP
import Derived.Deep.RegionHeld3
set_option linter.unusedVariables false
set_option linter.unusedSimpArgs false
namespace Go.Proofs.YtlhhjocfbafoeaaGreatDoor.Xp
open Go Go.Proofs.YtlhhjocfbafoeaaGreatDoor Go.Proofs.YtlhhjocfbafoeaaGreatDoor.Utf Go.Proofs.YtlhhjocfbafoeaaGreatDoor.Names Go.Proofs.YtlhhjocfbafoeaaGreatDoor.Sc Go.RowKit
set_option maxRecDepth 100000
theorem mass_part {e : Ex} {i : Nat} (h : i < e.l.length) : e.l[i].mass ≤ e.mass := by
  have := massL_mem (List.getElem_mem h)
  rw [mass_eq e]; omega
theorem len_mass (e : Ex) : e.nm.length ≤ e.mass ∧ e.l.length ≤ e.mass := by
  have h1 := namesMass_len e.nm
  have h2 := sizeL_len e.l
  have h3 := sizeL_mass e.l
  rw [mass_eq e]; omega
theorem part_within {e : Ex} (h : checkV e = 0) (hm : e.mass ≤ 2000000) {i : Nat} (hi : i < e.l.length) {z : Nam} (hz : z ∈ freeV e.l[i]) : z ∈ wth e.kind e.s e.nm i (freeV e) := by
  obtain ⟨hd, hc⟩ := checkV_zero.1 h
  obtain ⟨hp, hpd⟩ := checkV_part h (List.getElem_mem hi)
  have hz1 := ((freeV_facts (by omega) (Nat.le_trans (mass_part hi) hm)).2 z).1 hz
  have hs := Shp.of _ e true (Nat.le_refl _) hc
  have h2 : e.kind = 9 ∨ e.kind = 12 ∨ e.kind = 13 ∨ e.kind = 14 → e.l.length = 2 := by
    obtain ⟨k, s, nm, l⟩ := e
    exact hs.parts.1
  unfold wth
  rw [addL_mem, (freeV_facts hd hm).2, mor_brs h2 hi]
  exact fr_part hi hz1
set_option maxHeartbeats 16000000 in
theorem ExprParts_walk (e : Ex) (ao : Option Addr) (an ac : Nat) (po : Option Addr) (pn pc : Nat) (w : World) (hw : Num.Fit w) (h : IsE w e (.slice ao an ac) (.slice po pn pc)) (hf : e.fit) (hm : e.mass ≤ 1100000) :
    Calls Tryz.prog 6 #[exV e (.slice ao an ac) (.slice po pn pc)] w fun r w' => r = .returned (.bool true) ∧ Below w.heap.size w w' := by
  obtain ⟨V, hV⟩ : ∃ V, w.alloc (.cells #[.int .i64 e.kind, .string (text e.s), .slice ao an ac, .slice po pn pc] 25) = V := ⟨_, rfl⟩
  have BV : Below w.heap.size w V := hV ▸ ba (b0 w) _
  have P2 : V.heap[w.heap.size]? = some (.cells #[.int .i64 e.kind, .string (text e.s), .slice ao an ac, .slice po pn pc] 25) := hV ▸ heap_alloc_new w _
  have hE := h.later BV
  have hsz := size_mass e
  obtain ⟨hl1, hl2⟩ := len_mass e
  have AL := hid (fun (W : World) (hW : Below V.heap.size V W) => alive_any W ((hw.at BV).at hW))
  have CK := hid (fun (W : World) (hW : Below V.heap.size V W) => Check_any e ao an ac po pn pc W ((hw.at BV).at hW) (hE.later hW) hf (by omega))
  have FR := hid (fun (W : World) (hW : Below V.heap.size V W) => Free_any e ao an ac po pn pc W (hE.later hW) (by omega))
  have DP := hid (fun (W : World) (hW : Below V.heap.size V W) => Depth_any e ao an ac po pn pc W (hE.later hW) (by omega))
  have CN := hid (fun (W : World) (hW : Below V.heap.size V W) => Count_any e ao an ac po pn pc W (hE.later hW) (by omega))
  have HE := hid hE
  have HBV := hid BV
  have HP2 := hid P2
  have HW := hid (fun (W : World) (hW : Below V.heap.size V W) => (hw.at BV).at hW)
  have HF := hid hf
  have HX := hid (show ∀ X, Below V.heap.size V X → X.cell? ⟨w.heap.size, 0, none⟩ = some (.int .i64 e.kind) ∧ X.cell? ⟨w.heap.size, 1, none⟩ = some (.string (text e.s)) ∧ X.cell? ⟨w.heap.size, 2, none⟩ = some (.slice ao an ac) ∧ X.cell? ⟨w.heap.size, 3, none⟩ = some (.slice po pn pc) from fun X hX => box_cells ((hX.block _ (lt_of_some P2)).trans P2))
  have plen := fun X => hE.parts.2.len 3 X
  unfold exV at CK FR DP CN ⊢
  clear hw h BV P2 hE hf
  go_enter Tryz.func6, Tryz.ntmps6
  go_wp2_with fail
  refine (AL.out _ (b0 V)).mono ?_
  rintro r w1 ⟨rfl, hb1⟩
  obtain ⟨a0, a1, a2, a3⟩ := HX.out _ hb1
  have mk := Exs.made (w := w1) [(e, .slice ao an ac, .slice po pn pc)] (by
    intro x hx
    simp only [List.mem_cons, List.not_mem_nil, or_false] at hx
    subst hx
    exact HE.out.later hb1) (by simp)
  have BL := ba (b0 w1) (.cells ([(e, Value.slice ao an ac, Value.slice po pn pc)].flatMap ecells).toArray 25)
  have GR := hid (Great_any _ _ _ mk (by
    intro x hx
    simp only [List.map_cons, List.map_nil, List.mem_cons, List.not_mem_nil, or_false] at hx
    subst hx
    omega))
  have HB1 := hid hb1
  have HBL := hid BL
  simp only [List.flatMap_cons, List.flatMap_nil, ecells, List.cons_append, List.nil_append, List.append_nil, List.length_cons, List.length_nil] at GR HBL
  clear hb1 mk BL hV
  go_wp2_with fail
  refine GR.out.mono ?_
  rintro r w2 ⟨n, rfl, hn, hsm, hb2⟩
  have HB2 := hid (bt HB1.out (bt HBL.out hb2))
  clear hb2 hsm a0 a1 a2 a3 GR HBL HB1
  rcases hn with rfl | rfl
  case inr =>
    go_wp2_with fail
    refine (AL.out _ HB2.out).mono ?_
    rintro r w3 ⟨rfl, hb3⟩
    have HB3 := hid (bt HBV.out (bt HB2.out hb3))
    clear hb3
    go_wp2
    go_ret
    exact ⟨rfl, HB3.out⟩
  obtain ⟨a0, a1, a2, a3⟩ := HX.out _ HB2.out
  go_wp2_with fail
  refine (CK.out _ HB2.out).mono ?_
  rintro r w3 ⟨rfl, hb3⟩
  have HB3 := hid (bt HB2.out hb3)
  clear hb3 a0 a1 a2 a3
  by_cases hc : checkV e = 0
  case neg =>
    have hcb : (checkV e == 0) = false := by rw [beq_eq_false_iff_ne]; exact hc
    have hcb2 : (checkV e != 0) = true := by rw [bne_iff_ne]; exact hc
    clear hc
    go_wp2_with fail
    refine (AL.out _ HB3.out).mono ?_
    rintro r w4 ⟨rfl, hb4⟩
    have HB4 := hid (bt HBV.out (bt HB3.out hb4))
    clear hb4
    go_wp2
    go_ret
    exact ⟨rfl, HB4.out⟩
  rw [hc]
  have HC := hid hc
  clear hc
  obtain ⟨a0, a1, a2, a3⟩ := HX.out _ HB3.out
  go_wp2_with fail
  refine (FR.out _ HB3.out).mono ?_
  rintro r w4 ⟨vf, rfl, hvf, hb4⟩
  obtain ⟨fo, fn, fc, rfl⟩ := Strs.form hvf
  have HB4 := hid (bt HB3.out hb4)
  have HVF := hid hvf
  clear hb4 a0 a1 a2 a3 hvf
  obtain ⟨a0, a1, a2, a3⟩ := HX.out _ HB4.out
  go_wp2_with fail
  clear a0 a1 a2 a3
  go_loopg [28, 4] e.l.length (fun gk iv cv X => ∃ (i c : Nat), iv = .int .i64 i ∧ cv = .int .i64 c ∧ i + gk = e.l.length ∧ Hid (c = 1 + sizeL (e.l.take i)) ∧ c ≤ 1100001 ∧ Hid (Below w4.heap.size w4 X))
  case atStart => exact ⟨0, 1, rfl, rfl, by omega, hid (by simp [sizeL]), by omega, hid (b0 w4)⟩
  case round =>
    rename World => X
    obtain ⟨i, c, rfl, rfl, hig, HCC, hc1, HBX⟩ := hrel
    by_cases hi : i < e.l.length
    · obtain ⟨bk, ok, nv1, pv1, ix, e0, e1, e2, e3, is1⟩ := ((HE.out.parts.2).later (bt HB4.out HBX.out)).at i hi
      have hst := sizeL_take e.l i hi
      have hsl := sizeL_take_le e.l (i + 1)
      have hpm := mass_part hi
      have hps := size_mass e.l[i]
      obtain ⟨hp0, hpd⟩ := checkV_part HC.out (List.getElem_mem hi)
      have hin := fun z (hz : z ∈ freeV e.l[i]) => part_within HC.out (by omega) hi hz
      have hpf : e.l[i].fit := by
        have hf := HF.out
        obtain ⟨k, s, nm, l⟩ := e
        exact fitL_mem hf.2 _ (List.getElem_mem hi)
      have h17 : e.kind = 17 → i ≤ e.nm.length := by
        intro hk
        have hs := Shp.of _ e true (Nat.le_refl _) (checkV_zero.1 HC.out).2
        obtain ⟨k, s, nm, l⟩ := e
        have := hs.parts.2.1 hk
        simp only [Ex.nm, Ex.l] at this hi ⊢
        omega
      have ix' := ix .i64
      generalize e.l[i] = y at *
      obtain ⟨xn, xp⟩ := is1.parts
      obtain ⟨xo, xl, xc, rfl⟩ := Strs.form xn
      obtain ⟨yo, yl, yc, rfl⟩ := xp.form
      obtain ⟨Y, hY⟩ : ∃ Y, X.alloc (.cells #[.int .i64 y.kind, .string (text y.s), .slice xo xl xc, .slice yo yl yc] 25) = Y := ⟨_, rfl⟩
      have BY : Below X.heap.size X Y := hY ▸ ba (b0 X) _
      have PY : Y.heap[X.heap.size]? = some (.cells #[.int .i64 y.kind, .string (text y.s), .slice xo xl xc, .slice yo yl yc] 25) := hY ▸ heap_alloc_new X _
      have hVY := bt HB4.out (bt HBX.out BY)
      have isY := is1.later BY
      have CKy := hid (fun (W : World) (hW : Below Y.heap.size Y W) => Check_any y xo xl xc yo yl yc W (HW.out _ (bt hVY hW)) (isY.later hW) hpf (by omega))
      simp only [hp0] at CKy
      have DPy := hid (fun (W : World) (hW : Below Y.heap.size Y W) => Depth_any y xo xl xc yo yl yc W (isY.later hW) (by omega))
      have DPx := hid (fun (W : World) (hW : Below Y.heap.size Y W) => DP.out W (bt hVY hW))
      have CNy := hid (fun (W : World) (hW : Below Y.heap.size Y W) => Count_any y xo xl xc yo yl yc W (isY.later hW) (by omega))
      have FRy := hid (fun (W : World) (hW : Below Y.heap.size Y W) => Free_any y xo xl xc yo yl yc W (isY.later hW) (by omega))
      have WI := hid (fun (W : World) (hW : Below Y.heap.size Y W) => Within_any e ao an ac po pn pc W i fo fn fc (freeV e) (HE.out.later (bt hVY hW)) (HVF.out.below (bt HBX.out (bt BY hW)) (Nat.le_refl _)) h17 (by omega) (by have := freeV_len e (by omega); omega) (by omega))
      have HS := hid (show ∀ Z, Below Y.heap.size Y Z → (Below Y.heap.size Y Z ∧ Z.cell? ⟨w.heap.size, 0, none⟩ = some (.int .i64 e.kind) ∧ Z.cell? ⟨w.heap.size, 1, none⟩ = some (.string (text e.s)) ∧ Z.cell? ⟨w.heap.size, 2, none⟩ = some (.slice ao an ac) ∧ Z.cell? ⟨w.heap.size, 3, none⟩ = some (.slice po pn pc) ∧ Z.cell? ⟨X.heap.size, 0, none⟩ = some (.int .i64 y.kind) ∧ Z.cell? ⟨X.heap.size, 1, none⟩ = some (.string (text y.s)) ∧ Z.cell? ⟨X.heap.size, 2, none⟩ = some (.slice xo xl xc) ∧ Z.cell? ⟨X.heap.size, 3, none⟩ = some (.slice yo yl yc)) from fun Z hZ => by
        obtain ⟨a0, a1, a2, a3⟩ := HX.out _ (bt hVY hZ)
        obtain ⟨d0, d1, d2, d3⟩ := box_cells ((hZ.block _ (lt_of_some PY)).trans PY)
        exact ⟨hZ, a0, a1, a2, a3, d0, d1, d2, d3⟩)
      have HS0 := HS.out Y.drew (bdrew Y 1)
      have HVY := hid hVY
      have HBY := hid BY
      have HIN := hid hin
      have hdd : decide ((e.depth : Int) ≤ (y.depth : Int)) = false := decide_eq_false (by omega)
      have hdd2 : decide (e.depth ≤ y.depth) = false := decide_eq_false (by omega)
      have HD2 := hid (show c + y.size = 1 + sizeL (e.l.take (i + 1)) by have := HCC.out; omega)
      have hcs : c + y.size ≤ 1100001 := by
        have h1 := HD2.out
        have h2 := size_eq e
        omega
      have hwr : IntKind.i64.wrap ((c : Int) + (y.size : Int)) = (c : Int) + (y.size : Int) := wrap_ok (by omega) (by omega)
      unfold exV at CKy DPy CNy FRy WI
      clear ix is1 isY hVY BY PY hin hpf hp0 xn xp hst hsl hpm hps h17
      go_wp2_with fail
      go_region_held3 (fun Z => (Below Y.heap.size Y Z ∧ Z.cell? ⟨w.heap.size, 0, none⟩ = some (.int .i64 e.kind) ∧ Z.cell? ⟨w.heap.size, 1, none⟩ = some (.string (text e.s)) ∧ Z.cell? ⟨w.heap.size, 2, none⟩ = some (.slice ao an ac) ∧ Z.cell? ⟨w.heap.size, 3, none⟩ = some (.slice po pn pc) ∧ Z.cell? ⟨X.heap.size, 0, none⟩ = some (.int .i64 y.kind) ∧ Z.cell? ⟨X.heap.size, 1, none⟩ = some (.string (text y.s)) ∧ Z.cell? ⟨X.heap.size, 2, none⟩ = some (.slice xo xl xc) ∧ Z.cell? ⟨X.heap.size, 3, none⟩ = some (.slice yo yl yc))) (first | exact HSx | exact HS0) (first
        | (go_at_call 21
           with_reducible refine (CKy.out _ ?_).mono ?_
           (first | exact HSx.1 | exact HS0.1)
           rintro ev wx ⟨rfl, hb⟩
           first | have HSx := HS.out _ (bt HSx.1 hb) | have HSx := HS.out _ (bt HS0.1 hb))
        | (go_at_call 23
           with_reducible refine (DPy.out _ ?_).mono ?_
           (first | exact HSx.1 | exact HS0.1)
           rintro ev wx ⟨rfl, hb⟩
           first | have HSx := HS.out _ (bt HSx.1 hb) | have HSx := HS.out _ (bt HS0.1 hb))
        | (go_at_call 23
           with_reducible refine (DPx.out _ ?_).mono ?_
           (first | exact HSx.1 | exact HS0.1)
           rintro ev wx ⟨rfl, hb⟩
           first | have HSx := HS.out _ (bt HSx.1 hb) | have HSx := HS.out _ (bt HS0.1 hb)))
      have HZ5 := hid HSx.1
      obtain ⟨_, a0, a1, a2, a3, d0, d1, d2, d3⟩ := HS.out _ HZ5.out
      clear e0 e1 e2 e3 HS0
      go_wp2_with fail
      refine (CNy.out _ HZ5.out).mono ?_
      rintro r w5 ⟨rfl, hb5⟩
      have HZ6 := hid (bt HZ5.out hb5)
      clear hb5 a0 a1 a2 a3 d0 d1 d2 d3
      obtain ⟨_, a0, a1, a2, a3, d0, d1, d2, d3⟩ := HS.out _ HZ6.out
      go_wp2_with fail
      refine (FRy.out _ HZ6.out).mono ?_
      rintro r w6 ⟨vg, rfl, hvg, hb6⟩
      have glen := fun X => hvg.len (P := Tryz.prog) 22 3 9 undS X
      have hgle := hvg.le
      have HVG := hid hvg
      have HZ7 := hid (bt HZ6.out hb6)
      clear hb6 a0 a1 a2 a3 d0 d1 d2 d3 hvg
      go_wp2_with fail
      obtain ⟨G, hG⟩ : ∃ G, G = gk := ⟨_, rfl⟩
      subst hG
      go_loopg [50] (freeV y).length (fun gj jv Z => ∃ j : Nat, jv = .int .i64 j ∧ j + gj = (freeV y).length ∧ Hid (Below w6.heap.size w6 Z))
      case atStart => exact ⟨0, rfl, by omega, hid (b0 w6)⟩
      case round =>
        rename World => Z
        obtain ⟨j, rfl, hjg, HBZ⟩ := hrel
        obtain ⟨_, a0, a1, a2, a3, _, _, _, _⟩ := HS.out _ (bt HZ7.out HBZ.out)
        by_cases hj : j < (freeV y).length
        · obtain ⟨b1, o1, jx, c0⟩ := (HVG.out.below HBZ.out (Nat.le_refl _)).at (P := Tryz.prog) j hj 22 9 undS sizS
          have hz := HIN.out _ (List.getElem_mem hj)
          have jx' := jx .i64
          generalize (freeV y)[j] = z at *
          have WJ := hid (WI.out Z (bt HZ7.out HBZ.out))
          have HZI := hid hz
          clear jx hz
          go_wp2_with fail
          refine WJ.out.mono ?_
          rintro r w7 ⟨ro, rn, rc, rfl, hst, hb7⟩
          have RH := hid (RHas_any (.slice ro rn rc) _ z w7 hst)
          rw [decide_eq_true HZI.out] at RH
          have HB7 := hid (bt HBZ.out hb7)
          clear hst hb7 a0 a1 a2 a3 c0
          go_wp2_with fail
          refine RH.out.mono ?_
          rintro r w8 ⟨rfl, hw8⟩
          subst hw8
          go_wp2
          go_roundg (gk - 1)
          case measure => omega
          case rel => exact ⟨j + 1, by go_num, by omega, HB7⟩
        · go_wp2
          go_roundg (G - 1)
          case measure => omega
          case rel => exact ⟨i + 1, c + y.size, by go_num, congrArg (Value.int .i64) (by simp), by omega, HD2, hcs, hid (bt HBX.out (bt HBY.out (bt HZ7.out HBZ.out)))⟩
    · have hce : (c : Int) = (e.size : Int) := by
        have h1 := HCC.out
        rw [List.take_of_length_le (by omega)] at h1
        have h2 := size_eq e
        omega
      have CX := hid (CN.out X (bt HB4.out HBX.out))
      rw [hce]
      have HBE := hid (bt HBV.out (bt HB4.out HBX.out))
      obtain ⟨a0, a1, a2, a3⟩ := HX.out _ (bt HB4.out HBX.out)
      clear hce HCC
      go_wp2_with fail
      refine CX.out.mono ?_
      rintro r w5 ⟨rfl, hb5⟩
      have HB5 := hid (bt HBE.out hb5)
      clear hb5
      go_wp2
      go_ret
      exact ⟨rfl, HB5.out⟩
end Go.Proofs.YtlhhjocfbafoeaaGreatDoor.Xp
