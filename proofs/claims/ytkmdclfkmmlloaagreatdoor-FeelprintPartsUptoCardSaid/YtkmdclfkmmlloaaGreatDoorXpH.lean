/- Layer 10: the document's Count, Bytes and Depth; Great: are expressions more than are looked at? -/
import Derived.Test.YtkmdclfkmmlloaaGreatDoorXbX
import Derived.Test.YtkmdclfkmmlloaaGreatDoorXpF
import Derived.Deep.QuietTactic
import Derived.BigQuiet
set_option linter.unusedVariables false
set_option linter.unusedSimpArgs false
namespace Go.Proofs.YtkmdclfkmmlloaaGreatDoor.Xp
open Go Go.Proofs.YtkmdclfkmmlloaaGreatDoor Go.Proofs.YtkmdclfkmmlloaaGreatDoor.Utf Go.Proofs.YtkmdclfkmmlloaaGreatDoor.Names Go.Proofs.YtkmdclfkmmlloaaGreatDoor.Sc Go.RowKit
set_option maxRecDepth 100000
theorem wrap_ok {x : Int} (h0 : -9223372036854775808 ≤ x) (h1 : x ≤ 9223372036854775807) : IntKind.i64.wrap x = x := IntWalk.i64_in x ⟨h0, h1⟩
theorem sizeL_len2 {l : List Ex} {e : Ex} {N : Nat} (h : sizeL l ≤ N) (he : e ∈ l) : e.size ≤ N := Nat.le_trans (sizeL_mem he) h
set_option maxHeartbeats 8000000 in
theorem RCount_any : ∀ (N : Nat) (e : Ex) (ao : Option Addr) (an ac : Nat) (po : Option Addr) (pn pc : Nat) (w : World) (most : Int), e.size ≤ N → IsE w e (.slice ao an ac) (.slice po pn pc) → e.size ≤ 10000000 → -1000000000 ≤ most → most ≤ 1000000000 →
    Calls Tryz.prog 22 #[exV e (.slice ao an ac) (.slice po pn pc), .int .i64 most] w fun r w' => r = .returned (.int .i64 (cnt one1 e most)) ∧ Below w.heap.size w w' := by
  intro N
  induction N with
  | zero => intro e ao an ac po pn pc w most hN; have := e.size_pos; omega
  | succ N ih =>
    intro e ao an ac po pn pc w most hN h hm hm0 hm1
    obtain ⟨k, s, nm, l⟩ := e
    obtain ⟨ha, hk⟩ := h.parts
    simp only [Ex.nm, Ex.l] at ha hk
    have hw := wgtL_size l
    have hmass : 1 + wgtL one1 l ≤ 10000000 := by rw [hw]; simpa [Ex.size] using hm
    have hsize : sizeL l ≤ N := by simp only [Ex.size] at hN; omega
    have hkl := hk.le
    have klen := fun X => hk.len 3 X
    have B1 := hid (ba (b0 w) (.cells #[.int .i64 k, .string (text s), .slice ao an ac, .slice po pn pc] 25))
    have P1 := hid (heap_alloc_new w (.cells #[.int .i64 k, .string (text s), .slice ao an ac, .slice po pn pc] 25))
    have HK := hid hk
    have hE : cnt one1 (.mk k s nm l) most = cntL one1 l most 1 := rfl
    rw [hE]
    have HIH := hid ih
    have HSZ := hid hsize
    clear ih h ha hk hm hE hN hw hsize
    unfold exV
    simp only [Ex.kind, Ex.s]
    go_enter Tryz.func22, Tryz.ntmps22
    go_wp2_with fail
    go_loopg [6, 5] l.length (fun gk iv cv Y => ∃ (i : Nat) (c : Int), iv = .int .i64 i ∧ cv = .int .i64 c ∧ i + gk = l.length ∧ Hid (cntL one1 l most 1 = cntL one1 (l.drop i) most c) ∧ 0 ≤ c ∧ c ≤ 1 + wgtL one1 (l.take i) ∧ Hid (Below w.heap.size w Y) ∧ Hid (Y.heap[w.heap.size]? = some (.cells #[.int .i64 k, .string (text s), .slice ao an ac, .slice po pn pc] 25)))
    case atStart => exact ⟨0, 1, rfl, rfl, by omega, hid (by rw [List.drop_zero]), by omega, by omega, B1, P1⟩
    case round =>
      rename World => Y
      obtain ⟨i, c, rfl, rfl, hig, HE, hc1, hc2, HY, HPY⟩ := hrel
      have c3 : Y.cell? ⟨w.heap.size, 3, none⟩ = some (.slice po pn pc) := by rw [Lib.cell_of_heap HPY.out]; rfl
      have hle := wgtL_le one1 l i
      by_cases hj : i < l.length
      · have he := HE.out
        rw [List.drop_eq_getElem_cons hj] at he
        by_cases hcm : c ≤ most
        · obtain ⟨bk, ok, nv1, pv1, ix, e0, e1, e2, e3, is1⟩ := (HK.out.later HY.out).at i hj
          have ht := wgtL_take one1 l i hj
          have hle2 := wgtL_le one1 l (i + 1)
          have hsz : l[i].size ≤ N := sizeL_len2 HSZ.out (List.getElem_mem hj)
          have hwz := wgt_size l[i]
          have ix' := ix .i64
          generalize l[i] = q at *
          obtain ⟨xn, xp⟩ := is1.parts
          obtain ⟨xo, xl, xc, rfl⟩ := Strs.form xn
          obtain ⟨yo, yl, yc, rfl⟩ := xp.form
          have hcn := cnt_le one1 q (most - c)
          have IH := hid (HIH.out q xo xl xc yo yl yc Y (most - c) hsz is1 (by omega) (by omega) (by omega))
          have HE2 := hid (show cntL one1 l most 1 = cntL one1 (l.drop (i + 1)) most (c + cnt one1 q (most - c)) by rw [he, cntL, if_pos hcm])
          obtain ⟨r, hr⟩ : ∃ r, cnt one1 q (most - c) = r := ⟨_, rfl⟩
          rw [hr] at IH HE2 hcn
          unfold exV at IH
          clear ix is1 he hr hsz xn xp
          go_wp2_with fail
          refine IH.out.mono ?_
          rintro e w1 ⟨rfl, hb1⟩
          have HY1 := hid (HY.out.trans (hb1.mono HY.out.size))
          have HP1 := hid ((hb1.block _ (lt_of_some HPY.out)).trans HPY.out)
          clear hb1 e0 e1 e2 e3 c3
          go_wp2
          go_roundg (gk - 1)
          case measure => omega
          case rel => exact ⟨i + 1, c + r, by go_num, rfl, by omega, HE2, by omega, by omega, HY1, HP1⟩
        · have hd : decide (c ≤ most) = false := decide_eq_false hcm
          have E := hid (show cntL one1 l most 1 = c by rw [he, cntL, if_neg hcm])
          clear he
          go_wp2
          go_ret
          rw [E.out]
          exact ⟨rfl, HY.out⟩
      · have E := hid (show cntL one1 l most 1 = c by have he := HE.out; rw [show l.drop i = [] from List.drop_eq_nil_of_le (by omega)] at he; exact he)
        go_wp2
        go_ret
        rw [E.out]
        exact ⟨rfl, HY.out⟩
theorem namesMass_take (l : List Nam) (i : Nat) (h : i < l.length) : namesMass (l.take (i + 1)) = namesMass (l.take i) + (1 + l[i].length) := by
  unfold namesMass
  rw [List.take_succ_eq_append_getElem h, List.map_append, List.sum_append]
  simp
theorem namesMass_le (l : List Nam) (i : Nat) : namesMass (l.take i) ≤ namesMass l := by
  have : namesMass l = namesMass (l.take i) + namesMass (l.drop i) := by
    unfold namesMass
    rw [← List.sum_append, ← List.map_append, List.take_append_drop]
  omega
set_option maxHeartbeats 8000000 in
theorem RBytes_any : ∀ (N : Nat) (e : Ex) (ao : Option Addr) (an ac : Nat) (po : Option Addr) (pn pc : Nat) (w : World) (most : Int), e.size ≤ N → IsE w e (.slice ao an ac) (.slice po pn pc) → e.wgt lets ≤ 10000000 → -1000000000 ≤ most → most ≤ 1000000000 →
    Calls Tryz.prog 23 #[exV e (.slice ao an ac) (.slice po pn pc), .int .i64 most] w fun r w' => r = .returned (.int .i64 (cnt lets e most)) ∧ Below w.heap.size w w' := by
  intro N
  induction N with
  | zero => intro e ao an ac po pn pc w most hN; have := e.size_pos; omega
  | succ N ih =>
    intro e ao an ac po pn pc w most hN h hm hm0 hm1
    obtain ⟨k, s, nm, l⟩ := e
    obtain ⟨ha, hk⟩ := h.parts
    simp only [Ex.nm, Ex.l] at ha hk
    have hmass : s.length + namesMass nm + wgtL lets l ≤ 10000000 := by simpa [Ex.wgt, lets] using hm
    have hsize : sizeL l ≤ N := by simp only [Ex.size] at hN; omega
    have hkl := hk.le
    have hal := ha.le
    have klen := fun X => hk.len 3 X
    have alen := fun X => ha.len (P := Tryz.prog) 22 3 9 undS X
    have B1 := hid (ba (b0 w) (.cells #[.int .i64 k, .string (text s), .slice ao an ac, .slice po pn pc] 25))
    have P1 := hid (heap_alloc_new w (.cells #[.int .i64 k, .string (text s), .slice ao an ac, .slice po pn pc] 25))
    have HK := hid hk
    have HA := hid ha
    have zt := text_size s
    have hE : cnt lets (.mk k s nm l) most = cntL lets l most ((s.length + namesMass nm : Nat)) := rfl
    rw [hE]
    obtain ⟨B, hB⟩ : ∃ B : Nat, B = s.length + namesMass nm := ⟨_, rfl⟩
    rw [← hB]
    have HBB := hid hB
    have HIH := hid ih
    have HSZ := hid hsize
    clear ih h ha hk hm hE hB hN hsize
    unfold exV
    simp only [Ex.kind, Ex.s]
    go_enter Tryz.func23, Tryz.ntmps23
    go_wp2_with fail
    go_loopg [6, 5] nm.length (fun gk iv cv X => ∃ (i m : Nat), iv = .int .i64 i ∧ cv = .int .i64 m ∧ i + gk = nm.length ∧ Hid (m = s.length + namesMass (nm.take i)) ∧ m ≤ 10000000 ∧ Hid (Below w.heap.size w X) ∧ Hid (X.heap[w.heap.size]? = some (.cells #[.int .i64 k, .string (text s), .slice ao an ac, .slice po pn pc] 25)))
    case atStart => exact ⟨0, s.length, rfl, by simp, by omega, hid (by simp [namesMass]), by omega, B1, P1⟩
    case round =>
      rename World => X
      obtain ⟨i, m, rfl, rfl, hig, HM, hm7, HX, HP⟩ := hrel
      have c2 : X.cell? ⟨w.heap.size, 2, none⟩ = some (.slice ao an ac) := by rw [Lib.cell_of_heap HP.out]; rfl
      have c3 : X.cell? ⟨w.heap.size, 3, none⟩ = some (.slice po pn pc) := by rw [Lib.cell_of_heap HP.out]; rfl
      by_cases hi : i < nm.length
      · obtain ⟨b1, o1, ix, d0⟩ := (HA.out.below HX.out (Nat.le_refl _)).at (P := Tryz.prog) i hi 22 9 undS sizS
        have ht := namesMass_take nm i hi
        have hle := namesMass_le nm (i + 1)
        have ix' := ix .i64
        generalize nm[i] = a at *
        have y0 := text_size a
        have hm' := HM.out
        have hmm : m + (1 + a.length) ≤ 10000000 := by omega
        have HM2 := hid (show m + (1 + a.length) = s.length + namesMass (nm.take (i + 1)) by omega)
        have u1 : IntKind.i64.wrap (1 + (a.length : Int)) = 1 + (a.length : Int) := wrap_ok (by omega) (by omega)
        have u4 : IntKind.i64.wrap ((m : Int) + (1 + (a.length : Int))) = (m : Int) + (1 + (a.length : Int)) := wrap_ok (by omega) (by omega)
        clear ht hle ix hm'
        go_wp2
        go_roundg (gk - 1)
        case measure => omega
        case rel => exact ⟨i + 1, m + (1 + a.length), by go_num, congrArg (Value.int .i64) (by simp), by omega, HM2, by omega, HX, HP⟩
      · have hmB : m = B := by have h1 := HM.out; have h2 := HBB.out; rw [List.take_of_length_le (by omega)] at h1; omega
        subst hmB
        have hks : m + wgtL lets l ≤ 10000000 := by have := HBB.out; omega
        clear HM
        go_wp2_with fail
        go_loopg [7, 5] l.length (fun gk iv cv Y => ∃ (i : Nat) (c : Int), iv = .int .i64 i ∧ cv = .int .i64 c ∧ i + gk = l.length ∧ Hid (cntL lets l most m = cntL lets (l.drop i) most c) ∧ 0 ≤ c ∧ c ≤ m + wgtL lets (l.take i) ∧ Hid (Below w.heap.size w Y) ∧ Hid (Y.heap[w.heap.size]? = some (.cells #[.int .i64 k, .string (text s), .slice ao an ac, .slice po pn pc] 25)))
        case atStart => exact ⟨0, m, rfl, rfl, by omega, hid (by rw [List.drop_zero]), by omega, by omega, HX, HP⟩
        case round =>
          rename World => Y
          obtain ⟨i, c, rfl, rfl, hig, HE, hc1, hc2, HY, HPY⟩ := hrel
          have c3 : Y.cell? ⟨w.heap.size, 3, none⟩ = some (.slice po pn pc) := by rw [Lib.cell_of_heap HPY.out]; rfl
          have hle := wgtL_le lets l i
          by_cases hj : i < l.length
          · have he := HE.out
            rw [List.drop_eq_getElem_cons hj] at he
            by_cases hcm : c ≤ most
            · obtain ⟨bk, ok, nv1, pv1, ix, e0, e1, e2, e3, is1⟩ := (HK.out.later HY.out).at i hj
              have ht := wgtL_take lets l i hj
              have hle2 := wgtL_le lets l (i + 1)
              have hsz : l[i].size ≤ N := sizeL_len2 HSZ.out (List.getElem_mem hj)
              have ix' := ix .i64
              generalize l[i] = q at *
              obtain ⟨xn, xp⟩ := is1.parts
              obtain ⟨xo, xl, xc, rfl⟩ := Strs.form xn
              obtain ⟨yo, yl, yc, rfl⟩ := xp.form
              have hcn := cnt_le lets q (most - c)
              have IH := hid (HIH.out q xo xl xc yo yl yc Y (most - c) hsz is1 (by omega) (by omega) (by omega))
              have HE2 := hid (show cntL lets l most m = cntL lets (l.drop (i + 1)) most (c + cnt lets q (most - c)) by rw [he, cntL, if_pos hcm])
              obtain ⟨r, hr⟩ : ∃ r, cnt lets q (most - c) = r := ⟨_, rfl⟩
              rw [hr] at IH HE2 hcn
              unfold exV at IH
              clear ix is1 he hr hsz xn xp
              go_wp2_with fail
              refine IH.out.mono ?_
              rintro e w1 ⟨rfl, hb1⟩
              have HY1 := hid (HY.out.trans (hb1.mono HY.out.size))
              have HP1 := hid ((hb1.block _ (lt_of_some HPY.out)).trans HPY.out)
              clear hb1 e0 e1 e2 e3 c3
              go_wp2
              go_roundg (gk - 1)
              case measure => omega
              case rel => exact ⟨i + 1, c + r, by go_num, rfl, by omega, HE2, by omega, by omega, HY1, HP1⟩
            · have hd : decide (c ≤ most) = false := decide_eq_false hcm
              have E := hid (show cntL lets l most m = c by rw [he, cntL, if_neg hcm])
              clear he
              go_wp2
              go_ret
              rw [E.out]
              exact ⟨rfl, HY.out⟩
          · have E := hid (show cntL lets l most m = c by have he := HE.out; rw [show l.drop i = [] from List.drop_eq_nil_of_le (by omega)] at he; exact he)
            go_wp2
            go_ret
            rw [E.out]
            exact ⟨rfl, HY.out⟩
theorem depthL_take (l : List Ex) (i : Nat) (h : i < l.length) : depthL (l.take (i + 1)) = max (depthL (l.take i)) l[i].depth := by
  induction l generalizing i with
  | nil => simp at h
  | cons a r ih =>
    cases i with
    | zero => simp [depthL]
    | succ i =>
      have := ih i (by simpa using h)
      simp only [List.take_succ_cons, depthL, List.getElem_cons_succ]
      omega
set_option maxHeartbeats 8000000 in
theorem RDepth_any : ∀ (N : Nat) (e : Ex) (ao : Option Addr) (an ac : Nat) (po : Option Addr) (pn pc : Nat) (w : World) (most : Nat), e.size ≤ N → IsE w e (.slice ao an ac) (.slice po pn pc) → most ≤ 1000000000 →
    Calls Tryz.prog 29 #[exV e (.slice ao an ac) (.slice po pn pc), .int .i64 most] w fun r w' => r = .returned (.int .i64 (min e.depth (most + 1) : Nat)) ∧ Below w.heap.size w w' := by
  intro N
  induction N with
  | zero => intro e ao an ac po pn pc w most hN; have := e.size_pos; omega
  | succ N ih =>
    intro e ao an ac po pn pc w most hN h hm1
    obtain ⟨k, s, nm, l⟩ := e
    obtain ⟨ha, hk⟩ := h.parts
    simp only [Ex.nm, Ex.l] at ha hk
    have hsize : sizeL l ≤ N := by simp only [Ex.size] at hN; omega
    have hkl := hk.le
    have klen := fun X => hk.len 3 X
    have B1 := hid (ba (b0 w) (.cells #[.int .i64 k, .string (text s), .slice ao an ac, .slice po pn pc] 25))
    have P1 := hid (heap_alloc_new w (.cells #[.int .i64 k, .string (text s), .slice ao an ac, .slice po pn pc] 25))
    have HK := hid hk
    obtain ⟨R, hR⟩ : ∃ R : Nat, min (Ex.mk k s nm l).depth (most + 1) = R := ⟨_, rfl⟩
    rw [hR]
    have HR := hid (show R = min (depthL l) most + 1 by rw [← hR]; simp only [Ex.depth]; omega)
    have HIH := hid ih
    have HSZ := hid hsize
    clear ih h ha hk hN hsize hR
    unfold exV
    simp only [Ex.kind, Ex.s]
    go_enter Tryz.func29, Tryz.ntmps29
    go_wp2_with fail
    go_loopg [6, 5] l.length (fun gk iv cv Y => ∃ (i c : Nat), iv = .int .i64 i ∧ cv = .int .i64 c ∧ i + gk = l.length ∧ Hid (c = min (depthL (l.take i)) most) ∧ c ≤ most ∧ Hid (Below w.heap.size w Y) ∧ Hid (Y.heap[w.heap.size]? = some (.cells #[.int .i64 k, .string (text s), .slice ao an ac, .slice po pn pc] 25)))
    case atStart => exact ⟨0, 0, rfl, rfl, by omega, hid (by simp [depthL]), by omega, B1, P1⟩
    case round =>
      rename World => Y
      obtain ⟨i, c, rfl, rfl, hig, HE, hc1, HY, HPY⟩ := hrel
      have c3 : Y.cell? ⟨w.heap.size, 3, none⟩ = some (.slice po pn pc) := by rw [Lib.cell_of_heap HPY.out]; rfl
      by_cases hj : i < l.length
      · by_cases hcm : 0 < most
        · obtain ⟨bk, ok, nv1, pv1, ix, e0, e1, e2, e3, is1⟩ := (HK.out.later HY.out).at i hj
          have ht := depthL_take l i hj
          have hsz : l[i].size ≤ N := sizeL_len2 HSZ.out (List.getElem_mem hj)
          have ix' := ix .i64
          generalize l[i] = q at *
          obtain ⟨xn, xp⟩ := is1.parts
          obtain ⟨xo, xl, xc, rfl⟩ := Strs.form xn
          obtain ⟨yo, yl, yc, rfl⟩ := xp.form
          have IH := hid (HIH.out q xo xl xc yo yl yc Y (most - 1) hsz is1 (by omega))
          obtain ⟨r, hr⟩ : ∃ r, min q.depth (most - 1 + 1) = r := ⟨_, rfl⟩
          rw [hr] at IH
          rw [show ((most - 1 : Nat) : Int) = (most : Int) - 1 by omega] at IH
          have HE2 := hid (show max c r = min (depthL (l.take (i + 1))) most by rw [HE.out, ht, ← hr]; omega)
          have hrm : r ≤ most := by omega
          unfold exV at IH
          clear ix is1 hr hsz xn xp ht
          have hmp : decide ((0 : Int) < (most : Int)) = true := decide_eq_true (by omega)
          go_wp2_with fail
          refine IH.out.mono ?_
          rintro e w1 ⟨rfl, hb1⟩
          have HY1 := hid (HY.out.trans (hb1.mono HY.out.size))
          have HP1 := hid ((hb1.block _ (lt_of_some HPY.out)).trans HPY.out)
          clear hb1 e0 e1 e2 e3 c3
          by_cases hcr : c < r
          · have HE3 := hid (show r = min (depthL (l.take (i + 1))) most by have := HE2.out; omega)
            go_wp2
            go_roundg (gk - 1)
            case measure => omega
            case rel => exact ⟨i + 1, r, by go_num, rfl, by omega, HE3, by omega, HY1, HP1⟩
          · have HE3 := hid (show c = min (depthL (l.take (i + 1))) most by have := HE2.out; omega)
            go_wp2
            go_roundg (gk - 1)
            case measure => omega
            case rel => exact ⟨i + 1, c, by go_num, rfl, by omega, HE3, by omega, HY1, HP1⟩
        · obtain rfl : most = 0 := by omega
          obtain rfl : c = 0 := by omega
          have E := hid (show R = 1 by rw [HR.out]; omega)
          go_wp2
          go_ret
          rw [E.out]
          exact ⟨rfl, HY.out⟩
      · have E := hid (show R = c + 1 by rw [HR.out, HE.out, List.take_of_length_le (by omega)])
        go_wp2
        go_ret
        rw [E.out]
        exact ⟨by simp, HY.out⟩
end Go.Proofs.YtkmdclfkmmlloaaGreatDoor.Xp
