/- Layer 10: the document's Same. -/
import Derived.Test.YtlhhjocfbafoeaaGreatDoorXpU
import Derived.StillTailTactics
set_option linter.unusedVariables false
set_option linter.unusedSimpArgs false
namespace Go.Proofs.YtlhhjocfbafoeaaGreatDoor.Xp
open Go Go.Proofs.YtlhhjocfbafoeaaGreatDoor Go.RowKit
set_option maxRecDepth 100000
theorem two_boxes (w : World) (O1 O2 : Obj) (V : World) (hV : (w.alloc O1).alloc O2 = V) : Below w.heap.size w V ∧ V.heap[w.heap.size]? = some O1 ∧ V.heap[w.heap.size + 1]? = some O2 := by
  subst hV
  refine ⟨ba (ba (b0 w) _) _, ((ba (b0 _) _).block _ (by simp)).trans (heap_alloc_new w _), ?_⟩
  have := heap_alloc_new (w.alloc O1) O2
  rw [World.size_alloc] at this
  exact this
set_option maxHeartbeats 16000000 in
theorem RSame_any : ∀ (N : Nat) (a b : Ex) (ao : Option Addr) (an ac : Nat) (po : Option Addr) (pn pc : Nat) (bo : Option Addr) (bn bc : Nat) (qo : Option Addr) (qn qc : Nat) (w : World), a.size ≤ N →
    IsE w a (.slice ao an ac) (.slice po pn pc) → IsE w b (.slice bo bn bc) (.slice qo qn qc) →
    Calls Tryz.prog 20 #[exV a (.slice ao an ac) (.slice po pn pc), exV b (.slice bo bn bc) (.slice qo qn qc)] w fun r w' => ∃ m : Bool, r = .returned (.bool m) ∧ (m = true ↔ a = b) ∧ Below w.heap.size w w' := by
  intro N
  induction N with
  | zero => intro a b ao an ac po pn pc bo bn bc qo qn qc w hN; have := a.size_pos; omega
  | succ N ih =>
    intro a b ao an ac po pn pc bo bn bc qo qn qc w hN h k
    obtain ⟨k1, s1, n1, l1⟩ := a
    obtain ⟨k2, s2, n2, l2⟩ := b
    obtain ⟨V, hV⟩ : ∃ V, (w.alloc (.cells #[.int .i64 k1, .string (text s1), .slice ao an ac, .slice po pn pc] 25)).alloc (.cells #[.int .i64 k2, .string (text s2), .slice bo bn bc, .slice qo qn qc] 25) = V := ⟨_, rfl⟩
    obtain ⟨BV, P2, P3⟩ := two_boxes w _ _ V hV
    obtain ⟨hn, hp⟩ := (h.later BV).parts
    obtain ⟨kn, kp⟩ := (k.later BV).parts
    simp only [Ex.nm, Ex.l] at hn hp kn kp
    have hsize : sizeL l1 ≤ N := by simp only [Ex.size] at hN; omega
    have nlen1 := fun X => hn.len (P := Tryz.prog) 22 3 9 undS X
    have nlen2 := fun X => kn.len (P := Tryz.prog) 22 3 9 undS X
    have plen1 := fun X => hp.len 3 X
    have plen2 := fun X => kp.len 3 X
    have z1 := hn.le
    have z2 := kn.le
    have z3 := hp.le
    have z4 := kp.le
    have HN1 := hid hn
    have HN2 := hid kn
    have HP1 := hid hp
    have HP2 := hid kp
    have HBV := hid BV
    have HV2 := hid P2
    have HV3 := hid P3
    have HIH := hid ih
    have HSZ := hid hsize
    have a0 : V.cell? ⟨w.heap.size, 0, none⟩ = some (.int .i64 k1) := by rw [Lib.cell_of_heap P2]; rfl
    have a1 : V.cell? ⟨w.heap.size, 1, none⟩ = some (.string (text s1)) := by rw [Lib.cell_of_heap P2]; rfl
    have a2 : V.cell? ⟨w.heap.size, 2, none⟩ = some (.slice ao an ac) := by rw [Lib.cell_of_heap P2]; rfl
    have a3 : V.cell? ⟨w.heap.size, 3, none⟩ = some (.slice po pn pc) := by rw [Lib.cell_of_heap P2]; rfl
    have e0 : V.cell? ⟨w.heap.size + 1, 0, none⟩ = some (.int .i64 k2) := by rw [Lib.cell_of_heap P3]; rfl
    have e1 : V.cell? ⟨w.heap.size + 1, 1, none⟩ = some (.string (text s2)) := by rw [Lib.cell_of_heap P3]; rfl
    have e2 : V.cell? ⟨w.heap.size + 1, 2, none⟩ = some (.slice bo bn bc) := by rw [Lib.cell_of_heap P3]; rfl
    have e3 : V.cell? ⟨w.heap.size + 1, 3, none⟩ = some (.slice qo qn qc) := by rw [Lib.cell_of_heap P3]; rfl
    have hxx : ((text s1).toList == (text s2).toList) = decide (s1 = s2) := tbq s1 s2
    unfold exV
    simp only [Ex.kind, Ex.s]
    clear ih h k hn hp kn kp BV P2 P3 hN hsize
    by_cases hk : k1 = k2
    case neg =>
      have hne : (k1 == k2) = false := by rw [beq_eq_false_iff_ne]; exact hk
      have hne2 : (k1 != k2) = true := by rw [bne_iff_ne]; exact hk
      have HK := hid hk
      clear hk hxx
      go_enter Tryz.func20, Tryz.ntmps20
      go_wp2
      go_ret
      exact ⟨false, rfl, by simp [HK.out], HBV.out⟩
    subst hk
    by_cases hs : s1 = s2
    case neg =>
      have HK := hid hs
      rw [decide_eq_false hs] at hxx
      have hxx2 : ((text s1).toList != (text s2).toList) = true := by simp [bne, hxx]
      clear hs
      go_enter Tryz.func20, Tryz.ntmps20
      go_wp2
      go_ret
      exact ⟨false, rfl, by simp [HK.out], HBV.out⟩
    subst hs
    clear hxx
    by_cases hn : n1.length = n2.length
    case neg =>
      have HK := hid hn
      have hne : ((n1.length : Int) == (n2.length : Int)) = false := by rw [beq_eq_false_iff_ne]; omega
      have hne2 : ((n1.length : Int) != (n2.length : Int)) = true := by rw [bne_iff_ne]; omega
      clear hn
      go_enter Tryz.func20, Tryz.ntmps20
      go_wp2
      go_ret
      exact ⟨false, rfl, by simp only [Bool.false_eq_true, Ex.mk.injEq, false_iff]; exact fun e => HK.out (by rw [e.2.2.1]), HBV.out⟩
    have HNN := hid hn
    rw [← hn] at nlen2
    clear hn
    by_cases hl : l1.length = l2.length
    case neg =>
      have HK := hid hl
      have hne : ((l1.length : Int) == (l2.length : Int)) = false := by rw [beq_eq_false_iff_ne]; omega
      have hne2 : ((l1.length : Int) != (l2.length : Int)) = true := by rw [bne_iff_ne]; omega
      clear hl
      go_enter Tryz.func20, Tryz.ntmps20
      go_wp2
      go_ret
      exact ⟨false, rfl, by simp only [Bool.false_eq_true, Ex.mk.injEq, false_iff]; exact fun e => HK.out (by rw [e.2.2.2]), HBV.out⟩
    have HLL := hid hl
    rw [← hl] at plen2
    clear hl
    go_enter Tryz.func20, Tryz.ntmps20
    go_wp2_with fail
    clear a0 a1 a2 a3 e0 e1 e2 e3
    go_loopg [5] n1.length (fun gk iv X => ∃ i : Nat, iv = .int .i64 i ∧ i + gk = n1.length ∧ Hid (Below V.heap.size V X) ∧ Hid (∀ j, j < i → n1[j]? = n2[j]?))
    case atStart => exact ⟨0, rfl, by omega, hid (b0 V), hid (fun j hj => absurd hj (Nat.not_lt_zero _))⟩
    case round =>
      rename World => X
      obtain ⟨i, rfl, hig, HX, HA⟩ := hrel
      have g2 := (HX.out.block _ (lt_of_some HV2.out)).trans HV2.out
      have g3 := (HX.out.block _ (lt_of_some HV3.out)).trans HV3.out
      have a2 : X.cell? ⟨w.heap.size, 2, none⟩ = some (.slice ao an ac) := by rw [Lib.cell_of_heap g2]; rfl
      have a3 : X.cell? ⟨w.heap.size, 3, none⟩ = some (.slice po pn pc) := by rw [Lib.cell_of_heap g2]; rfl
      have e2 : X.cell? ⟨w.heap.size + 1, 2, none⟩ = some (.slice bo bn bc) := by rw [Lib.cell_of_heap g3]; rfl
      clear g2 g3
      by_cases hi : i < n1.length
      · obtain ⟨b1, o1, i1, c0⟩ := (HN1.out.below HX.out (Nat.le_refl _)).at (P := Tryz.prog) i hi 22 9 undS sizS
        obtain ⟨b2, o2, i2, d0⟩ := (HN2.out.below HX.out (Nat.le_refl _)).at (P := Tryz.prog) i (by rw [← HNN.out]; exact hi) 22 9 undS sizS
        have hq1 : n1[i]? = some n1[i] := List.getElem?_eq_getElem _
        have hq2 : n2[i]? = some (n2[i]'(by rw [← HNN.out]; exact hi)) := List.getElem?_eq_getElem _
        generalize n1[i] = x at *
        generalize n2[i]'(by rw [← HNN.out]; exact hi) = y at *
        have Q1 := hid hq1
        have Q2 := hid hq2
        clear hq1 hq2
        by_cases hx : x = y
        · subst hx
          go_wp2_with fail
          go_quiet (fail)
          go_wp2
          go_roundg (gk - 1)
          case measure => omega
          case rel =>
            refine ⟨i + 1, by go_num, by omega, hid (bdrewB HX.out _), hid fun j hj => ?_⟩
            rcases Nat.lt_or_ge j i with h | h
            · exact HA.out j h
            · obtain rfl : j = i := by omega
              rw [Q1.out, Q2.out]
        · have hxx : ((text x).toList == (text y).toList) = false := by rw [tbq]; simpa using hx
          have hxx2 : ((text x).toList != (text y).toList) = true := by simp [bne, hxx]
          have HXY := hid hx
          clear hx
          go_wp2_with fail
          go_quiet (fail)
          go_wp2
          go_ret
          refine ⟨false, rfl, ?_, HBV.out.trans ((bdrewB HX.out _).mono HBV.out.size)⟩
          simp only [Bool.false_eq_true, Ex.mk.injEq, false_iff]
          intro e
          have e2 := e.2.2.1
          subst e2
          exact HXY.out (Option.some.inj (Q1.out.symm.trans Q2.out))
      · have HNE := hid (show n1 = n2 from List.ext_getElem? fun j => by
          rcases Nat.lt_or_ge j i with h | h
          · exact HA.out j h
          · rw [List.getElem?_eq_none (by omega), List.getElem?_eq_none (by have := HNN.out; omega)])
        clear HA e2
        go_wp2_with fail
        clear a2 a3
        go_loopg [6, 7] l1.length (fun gk iv _ X => ∃ i : Nat, iv = .int .i64 i ∧ i + gk = l1.length ∧ Hid (Below V.heap.size V X) ∧ Hid (∀ j, j < i → l1[j]? = l2[j]?))
        case atStart => exact ⟨0, rfl, by omega, HX, hid (fun j hj => absurd hj (Nat.not_lt_zero _))⟩
        case round =>
          clear HX
          rename World => X
          obtain ⟨i, rfl, hig, HX, HA⟩ := hrel
          have g2 := (HX.out.block _ (lt_of_some HV2.out)).trans HV2.out
          have g3 := (HX.out.block _ (lt_of_some HV3.out)).trans HV3.out
          have a3 : X.cell? ⟨w.heap.size, 3, none⟩ = some (.slice po pn pc) := by rw [Lib.cell_of_heap g2]; rfl
          have e3 : X.cell? ⟨w.heap.size + 1, 3, none⟩ = some (.slice qo qn qc) := by rw [Lib.cell_of_heap g3]; rfl
          clear g2 g3
          by_cases hi : i < l1.length
          · obtain ⟨b1, o1, nv1, pv1, i1, ⟨c0, c1, c2, c3, is1⟩⟩ := (HP1.out.later HX.out).at i hi
            obtain ⟨b2, o2, nv2, pv2, i2, ⟨d0, d1, d2, d3, is2⟩⟩ := (HP2.out.later HX.out).at i (by rw [← HLL.out]; exact hi)
            have hq1 : l1[i]? = some l1[i] := List.getElem?_eq_getElem _
            have hq2 : l2[i]? = some (l2[i]'(by rw [← HLL.out]; exact hi)) := List.getElem?_eq_getElem _
            have hsz : l1[i].size ≤ N := Nat.le_trans (sizeL_mem (List.getElem_mem hi)) HSZ.out
            generalize l1[i] = x at *
            generalize l2[i]'(by rw [← HLL.out]; exact hi) = y at *
            have Q1 := hid hq1
            have Q2 := hid hq2
            obtain ⟨xn, xp⟩ := is1.parts
            obtain ⟨xo, xl, xc, rfl⟩ := Strs.form xn
            obtain ⟨yo, yl, yc, rfl⟩ := xp.form
            obtain ⟨xn, xp⟩ := is2.parts
            obtain ⟨uo, ul, uc, rfl⟩ := Strs.form xn
            obtain ⟨vo, vl, vc, rfl⟩ := xp.form
            have IH := hid (HIH.out x y xo xl xc yo yl yc uo ul uc vo vl vc X.drew hsz (is1.later (bdrew X 1)) (is2.later (bdrew X 1)))
            unfold exV at IH
            have i1' := i1 .i64
            have i2' := i2 .i64
            have HXD := hid (show Below V.heap.size V X.drew from bdrewB HX.out 1)
            clear hq1 hq2 hsz is1 is2 xn xp i1 i2
            go_wp2_with fail
            have c0' : X.drew.cell? ⟨b1, o1, none⟩ = _ := c0
            have c1' : X.drew.cell? ⟨b1, o1 + 1, none⟩ = _ := c1
            have c2' : X.drew.cell? ⟨b1, o1 + 2, none⟩ = _ := c2
            have c3' : X.drew.cell? ⟨b1, o1 + 3, none⟩ = _ := c3
            have d0' : X.drew.cell? ⟨b2, o2, none⟩ = _ := d0
            have d1' : X.drew.cell? ⟨b2, o2 + 1, none⟩ = _ := d1
            have d2' : X.drew.cell? ⟨b2, o2 + 2, none⟩ = _ := d2
            have d3' : X.drew.cell? ⟨b2, o2 + 3, none⟩ = _ := d3
            have a3' : X.drew.cell? ⟨w.heap.size, 3, none⟩ = _ := a3
            have e3' : X.drew.cell? ⟨w.heap.size + 1, 3, none⟩ = _ := e3
            go_still_tail 10, (by kernel_rfl)
            change wpList _ _ _ _ _ X.drew
            clear c0 c1 c2 c3 d0 d1 d2 d3 a3 e3 HX
            generalize X.drew = X1 at *
            go_wp2_with fail
            refine IH.out.mono ?_
            rintro r w2 ⟨m, rfl, hm, hb2⟩
            have HM := hid hm
            have HB2 := hid (HXD.out.trans (hb2.mono HXD.out.size))
            clear hb2 hm
            cases m with
            | true =>
              go_wp2
              go_roundg (gk - 1)
              case measure => omega
              case rel =>
                refine ⟨i + 1, by go_num, by omega, HB2, hid fun j hj => ?_⟩
                rcases Nat.lt_or_ge j i with h | h
                · exact HA.out j h
                · obtain rfl : j = i := by omega
                  rw [Q1.out, Q2.out, show x = y from by simpa using HM.out]
            | false =>
              go_wp2
              go_ret
              refine ⟨false, rfl, ?_, HBV.out.trans (HB2.out.mono HBV.out.size)⟩
              simp only [Bool.false_eq_true, Ex.mk.injEq, false_iff]
              intro e
              have e2 := e.2.2.2
              subst e2
              have := HM.out.2 (Option.some.inj (Q1.out.symm.trans Q2.out))
              cases this
          · have HLE := hid (show l1 = l2 from List.ext_getElem? fun j => by
              rcases Nat.lt_or_ge j i with h | h
              · exact HA.out j h
              · rw [List.getElem?_eq_none (by omega), List.getElem?_eq_none (by have := HLL.out; omega)])
            go_wp2
            go_ret
            exact ⟨true, rfl, by simp [HNE.out, HLE.out], HBV.out.trans (HX.out.mono HBV.out.size)⟩
end Go.Proofs.YtlhhjocfbafoeaaGreatDoor.Xp
