/- Layer 10: Count, Bytes and Great whatever comes; the walk of ExprSames, however great its arguments. -/
import Derived.Test.YtlhhjocfbafoeaaGreatDoorXpW
set_option linter.unusedVariables false
set_option linter.unusedSimpArgs false
namespace Go.Proofs.YtlhhjocfbafoeaaGreatDoor.Xp
open Go Go.Proofs.YtlhhjocfbafoeaaGreatDoor Go.Proofs.YtlhhjocfbafoeaaGreatDoor.Utf Go.Proofs.YtlhhjocfbafoeaaGreatDoor.Names Go.Proofs.YtlhhjocfbafoeaaGreatDoor.Sc Go.RowKit
set_option maxRecDepth 100000
mutual
theorem cnt_top : ∀ (e : Ex) (most : Int), 0 ≤ most → cnt one1 e most ≤ most + 1
  | .mk _ s nm l, most, h => by
    simp only [cnt, one1]
    exact cntL_top l most 1 (by omega)
theorem cntL_top : ∀ (l : List Ex) (most k : Int), k ≤ most + 1 → cntL one1 l most k ≤ most + 1
  | [], most, k, h => by simpa [cntL] using h
  | n :: r, most, k, h => by
    unfold cntL
    split
    · have := cnt_top n (most - k) (by omega)
      exact cntL_top r most _ (by omega)
    · exact h
end
set_option maxHeartbeats 8000000 in
theorem RCount_wide : ∀ (N : Nat) (e : Ex) (ao : Option Addr) (an ac : Nat) (po : Option Addr) (pn pc : Nat) (w : World) (most : Int), e.size ≤ N → IsE w e (.slice ao an ac) (.slice po pn pc) → 0 ≤ most → most ≤ 1000000000 →
    Calls Tryz.prog 28 #[exV e (.slice ao an ac) (.slice po pn pc), .int .i64 most] w fun r w' => r = .returned (.int .i64 (cnt one1 e most)) ∧ Below w.heap.size w w' := by
  intro N
  induction N with
  | zero => intro e ao an ac po pn pc w most hN; have := e.size_pos; omega
  | succ N ih =>
    intro e ao an ac po pn pc w most hN h hm0 hm1
    obtain ⟨k, s, nm, l⟩ := e
    obtain ⟨ha, hk⟩ := h.parts
    simp only [Ex.nm, Ex.l] at ha hk
    have hsize : sizeL l ≤ N := by simp only [Ex.size] at hN; omega
    have hkl := hk.le
    have klen := fun X => hk.len 3 X
    have B1 := hid (ba (b0 w) (.cells #[.int .i64 k, .string (text s), .slice ao an ac, .slice po pn pc] 25))
    have P1 := hid (heap_alloc_new w (.cells #[.int .i64 k, .string (text s), .slice ao an ac, .slice po pn pc] 25))
    have HK := hid hk
    have hE : cnt one1 (.mk k s nm l) most = cntL one1 l most 1 := rfl
    rw [hE]
    have HIH := hid ih
    have HSZ := hid hsize
    clear ih h ha hk hE hN hsize
    unfold exV
    simp only [Ex.kind, Ex.s]
    go_enter Tryz.func28, Tryz.ntmps28
    go_wp2_with fail
    go_loopg [6, 5] l.length (fun gk iv cv Y => ∃ (i : Nat) (c : Int), iv = .int .i64 i ∧ cv = .int .i64 c ∧ i + gk = l.length ∧ Hid (cntL one1 l most 1 = cntL one1 (l.drop i) most c) ∧ 1 ≤ c ∧ c ≤ most + 1 ∧ Hid (Below w.heap.size w Y) ∧ Hid (Y.heap[w.heap.size]? = some (.cells #[.int .i64 k, .string (text s), .slice ao an ac, .slice po pn pc] 25)))
    case atStart => exact ⟨0, 1, rfl, rfl, by omega, hid (by rw [List.drop_zero]), by omega, by omega, B1, P1⟩
    case round =>
      rename World => Y
      obtain ⟨i, c, rfl, rfl, hig, HE, hc1, hc2, HY, HPY⟩ := hrel
      have c3 : Y.cell? ⟨w.heap.size, 3, none⟩ = some (.slice po pn pc) := by rw [Lib.cell_of_heap HPY.out]; rfl
      by_cases hj : i < l.length
      · have he := HE.out
        rw [List.drop_eq_getElem_cons hj] at he
        by_cases hcm : c ≤ most
        · obtain ⟨bk, ok, nv1, pv1, ix, e0, e1, e2, e3, is1⟩ := (HK.out.later HY.out).at i hj
          have hsz : l[i].size ≤ N := sizeL_len2 HSZ.out (List.getElem_mem hj)
          have ix' := ix .i64
          generalize l[i] = q at *
          obtain ⟨xn, xp⟩ := is1.parts
          obtain ⟨xo, xl, xc, rfl⟩ := Strs.form xn
          obtain ⟨yo, yl, yc, rfl⟩ := xp.form
          have hcn := (cnt_le one1 q (most - c)).1
          have hcn2 := cnt_top q (most - c) (by omega)
          have IH := hid (HIH.out q xo xl xc yo yl yc Y (most - c) hsz is1 (by omega) (by omega))
          have HE2 := hid (show cntL one1 l most 1 = cntL one1 (l.drop (i + 1)) most (c + cnt one1 q (most - c)) by rw [he, cntL, if_pos hcm])
          obtain ⟨r, hr⟩ : ∃ r, cnt one1 q (most - c) = r := ⟨_, rfl⟩
          rw [hr] at IH HE2 hcn hcn2
          unfold exV at IH
          clear ix is1 he hr hsz xn xp
          go_wp2_with fail
          refine IH.out.mono ?_
          rintro e w1 ⟨rfl, hb1⟩
          have HY1 := hid (HY.out.trans (hb1.mono HY.out.size))
          have HP1 := hid ((hb1.block _ (lt_of_some HPY.out)).trans HPY.out)
          clear hb1 e0 e1 e2 e3 c3
          go_wp2
          go_roundg (gk - 1)
          case measure => omega
          case rel => exact ⟨i + 1, c + r, by go_num, rfl, by omega, HE2, by omega, by omega, HY1, HP1⟩
        · have hd : decide (c ≤ most) = false := decide_eq_false hcm
          have E := hid (show cntL one1 l most 1 = c by rw [he, cntL, if_neg hcm])
          clear he
          go_wp2
          go_ret
          rw [E.out]
          exact ⟨rfl, HY.out⟩
      · have E := hid (show cntL one1 l most 1 = c by have he := HE.out; rw [show l.drop i = [] from List.drop_eq_nil_of_le (by omega)] at he; exact he)
        go_wp2
        go_ret
        rw [E.out]
        exact ⟨rfl, HY.out⟩
set_option maxHeartbeats 8000000 in
theorem RBytes_loose : ∀ (N : Nat) (e : Ex) (ao : Option Addr) (an ac : Nat) (po : Option Addr) (pn pc : Nat) (w : World) (most : Int), e.size ≤ N → IsE w e (.slice ao an ac) (.slice po pn pc) →
    Calls Tryz.prog 29 #[exV e (.slice ao an ac) (.slice po pn pc), .int .i64 most] w fun r w' => ∃ n : Int, r = .returned (.int .i64 n) ∧ Below w.heap.size w w' := by
  intro N
  induction N with
  | zero => intro e ao an ac po pn pc w most hN; have := e.size_pos; omega
  | succ N ih =>
    intro e ao an ac po pn pc w most hN h
    obtain ⟨k, s, nm, l⟩ := e
    obtain ⟨ha, hk⟩ := h.parts
    simp only [Ex.nm, Ex.l] at ha hk
    have hsize : sizeL l ≤ N := by simp only [Ex.size] at hN; omega
    have hkl := hk.le
    have hal := ha.le
    have klen := fun X => hk.len 3 X
    have alen := fun X => ha.len (P := Tryz.prog) 22 3 9 undS X
    have B1 := hid (ba (b0 w) (.cells #[.int .i64 k, .string (text s), .slice ao an ac, .slice po pn pc] 25))
    have P1 := hid (heap_alloc_new w (.cells #[.int .i64 k, .string (text s), .slice ao an ac, .slice po pn pc] 25))
    have HK := hid hk
    have HA := hid ha
    have HIH := hid ih
    have HSZ := hid hsize
    clear ih h ha hk hN hsize
    unfold exV
    simp only [Ex.kind, Ex.s]
    generalize text s = ts at *
    go_enter Tryz.func29, Tryz.ntmps29
    go_wp2_with fail
    go_loopg [6, 5] nm.length (fun gk iv cv X => ∃ (i : Nat) (m : Int), iv = .int .i64 i ∧ cv = .int .i64 m ∧ i + gk = nm.length ∧ Hid (Below w.heap.size w X) ∧ Hid (X.heap[w.heap.size]? = some (.cells #[.int .i64 k, .string ts, .slice ao an ac, .slice po pn pc] 25)))
    case atStart => exact ⟨0, _, rfl, rfl, by omega, B1, P1⟩
    case round =>
      rename World => X
      obtain ⟨i, m, rfl, rfl, hig, HX, HP⟩ := hrel
      have c2 : X.cell? ⟨w.heap.size, 2, none⟩ = some (.slice ao an ac) := by rw [Lib.cell_of_heap HP.out]; rfl
      have c3 : X.cell? ⟨w.heap.size, 3, none⟩ = some (.slice po pn pc) := by rw [Lib.cell_of_heap HP.out]; rfl
      by_cases hi : i < nm.length
      · obtain ⟨b1, o1, ix, d0⟩ := (HA.out.below HX.out (Nat.le_refl _)).at (P := Tryz.prog) i hi 22 9 undS sizS
        have ix' := ix .i64
        generalize text nm[i] = a at *
        clear ix
        go_wp2
        go_roundg (gk - 1)
        case measure => omega
        case rel => exact ⟨i + 1, _, by go_num, rfl, by omega, HX, HP⟩
      · go_wp2_with fail
        go_loopg [7, 5] l.length (fun gk iv cv Y => ∃ (i : Nat) (c : Int), iv = .int .i64 i ∧ cv = .int .i64 c ∧ i + gk = l.length ∧ Hid (Below w.heap.size w Y) ∧ Hid (Y.heap[w.heap.size]? = some (.cells #[.int .i64 k, .string ts, .slice ao an ac, .slice po pn pc] 25)))
        case atStart => exact ⟨0, m, rfl, rfl, by omega, HX, HP⟩
        case round =>
          rename World => Y
          obtain ⟨i, c, rfl, rfl, hig, HY, HPY⟩ := hrel
          have c3 : Y.cell? ⟨w.heap.size, 3, none⟩ = some (.slice po pn pc) := by rw [Lib.cell_of_heap HPY.out]; rfl
          by_cases hj : i < l.length
          · by_cases hcm : c ≤ most
            · obtain ⟨bk, ok, nv1, pv1, ix, e0, e1, e2, e3, is1⟩ := (HK.out.later HY.out).at i hj
              have hsz : l[i].size ≤ N := sizeL_len2 HSZ.out (List.getElem_mem hj)
              have ix' := ix .i64
              generalize l[i] = q at *
              obtain ⟨xn, xp⟩ := is1.parts
              obtain ⟨xo, xl, xc, rfl⟩ := Strs.form xn
              obtain ⟨yo, yl, yc, rfl⟩ := xp.form
              have IH := hid (fun (most : Int) => HIH.out q xo xl xc yo yl yc Y most hsz is1)
              unfold exV at IH
              clear ix is1 hsz xn xp
              go_wp2_with fail
              refine (IH.out _).mono ?_
              rintro e w1 ⟨r, rfl, hb1⟩
              have HY1 := hid (HY.out.trans (hb1.mono HY.out.size))
              have HP1 := hid ((hb1.block _ (lt_of_some HPY.out)).trans HPY.out)
              clear hb1 e0 e1 e2 e3 c3
              go_wp2
              go_roundg (gk - 1)
              case measure => omega
              case rel => exact ⟨i + 1, _, by go_num, rfl, by omega, HY1, HP1⟩
            · have hd : decide (c ≤ most) = false := decide_eq_false hcm
              go_wp2
              go_ret
              first | exact ⟨_, rfl, HY.out⟩ | exact ⟨⟨_, rfl⟩, HY.out⟩
          · go_wp2
            go_ret
            first | exact ⟨_, rfl, HY.out⟩ | exact ⟨⟨_, rfl⟩, HY.out⟩
set_option maxHeartbeats 8000000 in
theorem Great_loose (v : Value) (l : List Ex) (w : World) (hv : Exs w v l) :
    Calls Tryz.prog 10 #[v] w fun e w' => ∃ n : Int, e = .returned (.int .i64 n) ∧ (n = 0 ∨ n = 1) ∧ (n = 0 → ∀ x ∈ l, x.size ≤ 1500) ∧ Below w.heap.size w w' := by
  have vlen := fun X => hv.len 3 X
  have hle := hv.le
  have HV := hid hv
  clear hv
  go_enter Tryz.func10, Tryz.ntmps10
  go_wp2_with fail
  go_loopg [7] l.length (fun gk iv X => ∃ i : Nat, iv = .int .i64 i ∧ i + gk = l.length ∧ Hid (Below w.heap.size w X) ∧ Hid (∀ j (h : j < l.length), j < i → l[j].size ≤ 1500))
  case atStart => exact ⟨0, rfl, by omega, hid (b0 w), hid (fun j _ hj => absurd hj (Nat.not_lt_zero _))⟩
  case round =>
    rename World => X
    obtain ⟨i, rfl, hig, HX, HA⟩ := hrel
    by_cases hi : i < l.length
    · obtain ⟨b1, o1, nv1, pv1, ix, e0, e1, e2, e3, is1⟩ := (HV.out.later HX.out).at i hi
      have hq : l[i]? = some l[i] := List.getElem?_eq_getElem hi
      have ix' := ix .i64
      obtain ⟨x, hx⟩ : ∃ x, l[i] = x := ⟨_, rfl⟩
      rw [hx] at e0 e1 is1 hq
      have HQ := hid hx
      obtain ⟨xn, xp⟩ := is1.parts
      obtain ⟨xo, xl, xc, rfl⟩ := Strs.form xn
      obtain ⟨yo, yl, yc, rfl⟩ := xp.form
      obtain ⟨Y, hY⟩ : ∃ Y, X.alloc (.cells #[.int .i64 x.kind, .string (text x.s), .slice xo xl xc, .slice yo yl yc] 25) = Y := ⟨_, rfl⟩
      have BY := ba (b0 X) (.cells #[.int .i64 x.kind, .string (text x.s), .slice xo xl xc, .slice yo yl yc] 25)
      have PY := heap_alloc_new X (.cells #[.int .i64 x.kind, .string (text x.s), .slice xo xl xc, .slice yo yl yc] 25)
      rw [hY] at BY PY
      have CN := hid (RCount_wide x.size x xo xl xc yo yl yc Y 1500 (Nat.le_refl _) (is1.later BY) (by omega) (by omega))
      have BT := hid (fun (Z : World) (hZ : Below X.heap.size X Z) => RBytes_loose x.size x xo xl xc yo yl yc Z 8000 (Nat.le_refl _) (is1.later hZ))
      have k0 : Y.cell? ⟨X.heap.size, 0, none⟩ = some (.int .i64 x.kind) := by rw [Lib.cell_of_heap PY]; rfl
      have k1 : Y.cell? ⟨X.heap.size, 1, none⟩ = some (.string (text x.s)) := by rw [Lib.cell_of_heap PY]; rfl
      have k2 : Y.cell? ⟨X.heap.size, 2, none⟩ = some (.slice xo xl xc) := by rw [Lib.cell_of_heap PY]; rfl
      have k3 : Y.cell? ⟨X.heap.size, 3, none⟩ = some (.slice yo yl yc) := by rw [Lib.cell_of_heap PY]; rfl
      have HBY := hid BY
      have HPY := hid PY
      have hc2 := cnt_more one1 x 1500
      rw [wgt_size] at hc2
      obtain ⟨r1, hr1⟩ : ∃ r1, cnt one1 x 1500 = r1 := ⟨_, rfl⟩
      rw [hr1] at CN hc2
      have HC := hid (show r1 ≤ 1500 → x.size ≤ 1500 from fun h1 => by omega)
      unfold exV at CN BT
      clear hq is1 xn xp BY PY hc2 hr1 ix hx
      by_cases c1 : 1500 < r1
      · go_wp2_with fail
        refine CN.out.mono ?_
        rintro e w1 ⟨rfl, hb1⟩
        have HB1 := hid (HX.out.trans ((bt HBY.out hb1).mono HX.out.size))
        clear hb1
        go_wp2
        go_ret
        exact ⟨1, rfl, .inr rfl, fun h => absurd h (by decide), HB1.out⟩
      · have d1 : decide ((1500 : Int) < r1) = false := decide_eq_false c1
        go_wp2_with fail
        refine CN.out.mono ?_
        rintro e w1 ⟨rfl, hb1⟩
        have HB1 := hid (bt HBY.out hb1)
        have h4 := (hb1.block _ (lt_of_some HPY.out)).trans HPY.out
        have f0 : w1.cell? ⟨X.heap.size, 0, none⟩ = some (.int .i64 x.kind) := by rw [Lib.cell_of_heap h4]; rfl
        have f1 : w1.cell? ⟨X.heap.size, 1, none⟩ = some (.string (text x.s)) := by rw [Lib.cell_of_heap h4]; rfl
        have f2 : w1.cell? ⟨X.heap.size, 2, none⟩ = some (.slice xo xl xc) := by rw [Lib.cell_of_heap h4]; rfl
        have f3 : w1.cell? ⟨X.heap.size, 3, none⟩ = some (.slice yo yl yc) := by rw [Lib.cell_of_heap h4]; rfl
        clear hb1 h4
        go_wp2_with fail
        refine (BT.out w1 HB1.out).mono ?_
        rintro e w2 ⟨r2, rfl, hb2⟩
        have HB2 := hid (HX.out.trans ((bt HB1.out hb2).mono HX.out.size))
        clear hb2
        by_cases c2 : 8000 < r2
        · have d2 : decide ((8000 : Int) < r2) = true := decide_eq_true c2
          go_wp2
          go_ret
          exact ⟨1, rfl, .inr rfl, fun h => absurd h (by decide), HB2.out⟩
        · have d2 : decide ((8000 : Int) < r2) = false := decide_eq_false c2
          have HS := hid (HC.out (by omega))
          go_wp2
          go_roundg (gk - 1)
          case measure => omega
          case rel =>
            refine ⟨i + 1, by go_num, by omega, HB2, hid fun j h hj => ?_⟩
            rcases Nat.lt_or_ge j i with h' | h'
            · exact HA.out j h h'
            · obtain rfl : j = i := by omega
              rw [HQ.out]; exact HS.out
    · go_wp2
      go_ret
      exact ⟨0, rfl, .inl rfl, fun _ x hx => by
        obtain ⟨j, hj, rfl⟩ := List.getElem_of_mem hx
        exact HA.out j hj (by omega), HX.out⟩
set_option maxHeartbeats 16000000 in
theorem ExprSames_wide (a b : Ex) (ao : Option Addr) (an ac : Nat) (po : Option Addr) (pn pc : Nat) (bo : Option Addr) (bn bc : Nat) (qo : Option Addr) (qn qc : Nat) (w : World) (hw : Num.Fit w)
    (h : IsE w a (.slice ao an ac) (.slice po pn pc)) (k : IsE w b (.slice bo bn bc) (.slice qo qn qc)) :
    Calls Tryz.prog 4 #[exV a (.slice ao an ac) (.slice po pn pc), exV b (.slice bo bn bc) (.slice qo qn qc)] w fun e w' => e = .returned (.bool true) ∧ Below w.heap.size w w' := by
  obtain ⟨V, hV⟩ : ∃ V, (w.alloc (.cells #[.int .i64 a.kind, .string (text a.s), .slice ao an ac, .slice po pn pc] 25)).alloc (.cells #[.int .i64 b.kind, .string (text b.s), .slice bo bn bc, .slice qo qn qc] 25) = V := ⟨_, rfl⟩
  obtain ⟨BV, P2, P3⟩ := two_boxes w _ _ V hV
  have AL := hid (fun (W : World) (hW : Below V.heap.size V W) => alive_any W ((hw.at BV).at hW))
  have HA := hid (h.later BV)
  have HB := hid (k.later BV)
  have HBV := hid BV
  have HP2 := hid P2
  have HP3 := hid P3
  unfold exV
  clear hw h k BV P2 P3
  go_enter Tryz.func4, Tryz.ntmps4
  go_wp2_with fail
  refine (AL.out _ (b0 V)).mono ?_
  rintro e w1 ⟨rfl, hb1⟩
  obtain ⟨a0, a1, a2, a3⟩ := box_cells ((hb1.block _ (lt_of_some HP2.out)).trans HP2.out)
  obtain ⟨e0, e1, e2, e3⟩ := box_cells ((hb1.block _ (lt_of_some HP3.out)).trans HP3.out)
  have mk := Exs.made (w := w1) [(a, .slice ao an ac, .slice po pn pc), (b, .slice bo bn bc, .slice qo qn qc)] (by
    intro x hx
    simp only [List.mem_cons, List.not_mem_nil, or_false] at hx
    rcases hx with rfl | rfl
    · exact HA.out.later hb1
    · exact HB.out.later hb1) (by simp)
  have BL := ba (b0 w1) (.cells ([(a, Value.slice ao an ac, Value.slice po pn pc), (b, .slice bo bn bc, .slice qo qn qc)].flatMap ecells).toArray 25)
  have GR := hid (Great_loose _ _ _ mk)
  have HB1 := hid hb1
  have HBL := hid BL
  simp only [List.flatMap_cons, List.flatMap_nil, ecells, List.cons_append, List.nil_append, List.append_nil, List.length_cons, List.length_nil] at GR HBL
  clear hb1 mk BL hV
  go_wp2_with fail
  refine GR.out.mono ?_
  rintro e w2 ⟨n, rfl, hn, hsm, hb2⟩
  have HB2 := hid (bt HB1.out (bt HBL.out hb2))
  have HSM := hid hsm
  clear hb2 hsm a0 a1 a2 a3 e0 e1 e2 e3 GR HBL HB1
  rcases hn with rfl | rfl
  · have HSZ := hid (show a.size ≤ 100000000 ∧ b.size ≤ 100000000 from by
      have h1 : ∀ x ∈ [a, b], x.size ≤ 1500 := by simpa using HSM.out
      have h2 := h1 a (by simp)
      have h3 := h1 b (by simp)
      omega)
    obtain ⟨m0, hm0⟩ : ∃ m0 : Bool, (m0 = true ↔ a = b) := by
      by_cases e : a = b
      · exact ⟨true, by simp [e]⟩
      · exact ⟨false, by simp [e]⟩
    have SAB := hid (fun (W : World) (hW : Below V.heap.size V W) => (Same_any a b ao an ac po pn pc bo bn bc qo qn qc W (HA.out.later hW) (HB.out.later hW) HSZ.out.1 HSZ.out.2).mono (R' := fun r w' => r = .returned (.bool m0) ∧ Below W.heap.size W w') (by
      rintro r w' ⟨m, rfl, hm, hb⟩
      have : m = m0 := by cases m <;> cases m0 <;> simp_all
      exact ⟨by rw [this], hb⟩))
    have SBA := hid (fun (W : World) (hW : Below V.heap.size V W) => (Same_any b a bo bn bc qo qn qc ao an ac po pn pc W (HB.out.later hW) (HA.out.later hW) HSZ.out.2 HSZ.out.1).mono (R' := fun r w' => r = .returned (.bool m0) ∧ Below W.heap.size W w') (by
      rintro r w' ⟨m, rfl, hm, hb⟩
      have : m = m0 := by
        have : (m = true ↔ a = b) := hm.trans eq_comm
        cases m <;> cases m0 <;> simp_all
      exact ⟨by rw [this], hb⟩))
    have SAA := hid (fun (W : World) (hW : Below V.heap.size V W) => (Same_any a a ao an ac po pn pc ao an ac po pn pc W (HA.out.later hW) (HA.out.later hW) HSZ.out.1 HSZ.out.1).mono (R' := fun r w' => r = .returned (.bool true) ∧ Below W.heap.size W w') (by
      rintro r w' ⟨m, rfl, hm, hb⟩
      exact ⟨by rw [hm.2 rfl], hb⟩))
    have RAB := hid (fun (W : World) (hW : Below V.heap.size V W) => (RSame_any a.size a b ao an ac po pn pc bo bn bc qo qn qc W (Nat.le_refl _) (HA.out.later hW) (HB.out.later hW)).mono (R' := fun r w' => r = .returned (.bool m0) ∧ Below W.heap.size W w') (by
      rintro r w' ⟨m, rfl, hm, hb⟩
      have : m = m0 := by cases m <;> cases m0 <;> simp_all
      exact ⟨by rw [this], hb⟩))
    unfold exV at SAB SBA SAA RAB
    have HS := hid (show ∀ X, Below V.heap.size V X → (Below V.heap.size V X ∧ X.cell? ⟨w.heap.size, 0, none⟩ = some (.int .i64 a.kind) ∧ X.cell? ⟨w.heap.size, 1, none⟩ = some (.string (text a.s)) ∧ X.cell? ⟨w.heap.size, 2, none⟩ = some (.slice ao an ac) ∧ X.cell? ⟨w.heap.size, 3, none⟩ = some (.slice po pn pc) ∧ X.cell? ⟨w.heap.size + 1, 0, none⟩ = some (.int .i64 b.kind) ∧ X.cell? ⟨w.heap.size + 1, 1, none⟩ = some (.string (text b.s)) ∧ X.cell? ⟨w.heap.size + 1, 2, none⟩ = some (.slice bo bn bc) ∧ X.cell? ⟨w.heap.size + 1, 3, none⟩ = some (.slice qo qn qc)) from fun X hX => by
      obtain ⟨a0, a1, a2, a3⟩ := box_cells ((hX.block _ (lt_of_some HP2.out)).trans HP2.out)
      obtain ⟨e0, e1, e2, e3⟩ := box_cells ((hX.block _ (lt_of_some HP3.out)).trans HP3.out)
      exact ⟨hX, a0, a1, a2, a3, e0, e1, e2, e3⟩)
    have HS0 := HS.out w2.drew (bdrewB HB2.out 1)
    clear hm0 HA HB HSM HP2 HP3 HSZ AL HB2
    cases m0
    all_goals
      go_wp2_with fail
      go_region_held3 (fun X => (Below V.heap.size V X ∧ X.cell? ⟨w.heap.size, 0, none⟩ = some (.int .i64 a.kind) ∧ X.cell? ⟨w.heap.size, 1, none⟩ = some (.string (text a.s)) ∧ X.cell? ⟨w.heap.size, 2, none⟩ = some (.slice ao an ac) ∧ X.cell? ⟨w.heap.size, 3, none⟩ = some (.slice po pn pc) ∧ X.cell? ⟨w.heap.size + 1, 0, none⟩ = some (.int .i64 b.kind) ∧ X.cell? ⟨w.heap.size + 1, 1, none⟩ = some (.string (text b.s)) ∧ X.cell? ⟨w.heap.size + 1, 2, none⟩ = some (.slice bo bn bc) ∧ X.cell? ⟨w.heap.size + 1, 3, none⟩ = some (.slice qo qn qc))) (first | exact HSx | exact HS0) (first
        | (go_at_call 19
           with_reducible refine (SAB.out _ ?_).mono ?_
           (first | exact HSx.1 | exact HS0.1)
           rintro ev wx ⟨rfl, hb⟩
           first | have HSx := HS.out _ (bt HSx.1 hb) | have HSx := HS.out _ (bt HS0.1 hb))
        | (go_at_call 19
           with_reducible refine (SBA.out _ ?_).mono ?_
           (first | exact HSx.1 | exact HS0.1)
           rintro ev wx ⟨rfl, hb⟩
           first | have HSx := HS.out _ (bt HSx.1 hb) | have HSx := HS.out _ (bt HS0.1 hb))
        | (go_at_call 19
           with_reducible refine (SAA.out _ ?_).mono ?_
           (first | exact HSx.1 | exact HS0.1)
           rintro ev wx ⟨rfl, hb⟩
           first | have HSx := HS.out _ (bt HSx.1 hb) | have HSx := HS.out _ (bt HS0.1 hb))
        | (go_at_call 20
           with_reducible refine (RAB.out _ ?_).mono ?_
           (first | exact HSx.1 | exact HS0.1)
           rintro ev wx ⟨rfl, hb⟩
           first | have HSx := HS.out _ (bt HSx.1 hb) | have HSx := HS.out _ (bt HS0.1 hb)))
      all_goals
        go_wp2
        go_ret
        exact ⟨rfl, bt HBV.out HSx.1⟩
  · go_wp2_with fail
    refine (AL.out _ HB2.out).mono ?_
    rintro e w3 ⟨rfl, hb3⟩
    have HB3 := hid (bt HBV.out (bt HB2.out hb3))
    clear hb3
    go_wp2
    go_ret
    exact ⟨rfl, HB3.out⟩
end Go.Proofs.YtlhhjocfbafoeaaGreatDoor.Xp
