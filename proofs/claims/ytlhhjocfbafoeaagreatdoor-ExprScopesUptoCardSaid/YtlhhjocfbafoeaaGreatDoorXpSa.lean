/- Layer 10: the document's Scoped and Free. -/
import Derived.Test.YtlhhjocfbafoeaaGreatDoorXpPa
import Derived.Test.YtlhhjocfbafoeaaGreatDoorXbT
import Derived.Deep.RegionHeld3
set_option linter.unusedVariables false
set_option linter.unusedSimpArgs false
namespace Go.Proofs.YtlhhjocfbafoeaaGreatDoor.Xp
open Go Go.Proofs.YtlhhjocfbafoeaaGreatDoor Go.Proofs.YtlhhjocfbafoeaaGreatDoor.Utf Go.Proofs.YtlhhjocfbafoeaaGreatDoor.Names Go.Proofs.YtlhhjocfbafoeaaGreatDoor.Sc Go.RowKit
set_option maxRecDepth 100000
mutual
theorem fr_len : ∀ (e : Ex) (B : List Nam), (fr e B).length ≤ e.size
  | .mk k s nm l, B => by
    have := frL_len k s nm l 0 B
    simp only [fr, Ex.size, List.length_append]
    split
    · rw [List.length_singleton]; omega
    · rw [List.length_nil]; omega
theorem frL_len (k : Int) (s : Nam) (nm : List Nam) : ∀ (l : List Ex) (i : Nat) (B : List Nam), (frL k s nm l i B).length ≤ sizeL l
  | [], i, B => by simp [frL]
  | p :: ps, i, B => by
    have h1 := fr_len p (bro k s nm i ++ B)
    have h2 := frL_len k s nm ps (i + 1) (bro k s nm i ++ B)
    simp only [frL, sizeL, List.length_append]
    omega
end
theorem nodup_few {L F : List Nam} (h : L.Nodup) (hs : ∀ z ∈ L, z ∈ F) : L.length ≤ F.length := by
  have h1 := few_nodup h
  have h2 := few_mono hs
  have h3 := few_le F
  omega
theorem Shp.right : ∀ (N : Nat) (e : Ex) (B : List Nam) (z : Nam), e.size ≤ N → Shp e → z ∈ fr e B → rightB z = true := by
  intro N
  induction N with
  | zero => intro e B z h; have := e.size_pos; omega
  | succ N ih =>
    intro e B z hN hs hz
    obtain ⟨k, s, nm, l⟩ := e
    obtain ⟨p2, _, p3, pl⟩ := hs.parts
    rcases (fr_parts k s nm l p2 B z).1 hz with ⟨hk, _, rfl⟩ | ⟨j, hj, h⟩
    · exact p3 hk
    · refine ih _ _ z ?_ (pl _ (List.getElem_mem hj)) h
      have := sizeL_mem (List.getElem_mem hj)
      simp only [Ex.size] at hN
      omega
theorem part_mass {k : Int} {s : Nam} {nm : List Nam} {l : List Ex} {j : Nat} (hj : j < l.length) : l[j].mass ≤ (Ex.mk k s nm l).mass := by
  have := massL_mem (List.getElem_mem hj)
  simp only [Ex.mass]
  omega
set_option maxHeartbeats 8000000 in
theorem RScoped_any : ∀ (N : Nat) (e : Ex) (ao : Option Addr) (an ac : Nat) (po : Option Addr) (pn pc : Nat) (vo : Option Addr) (vn vc : Nat) (M : List Nam) (w : World), e.size ≤ N → IsE w e (.slice ao an ac) (.slice po pn pc) → Strs w (.slice vo vn vc) M → Shp e → e.mass ≤ 1000000 → M.length ≤ 10000000 →
    Calls Tryz.prog 15 #[exV e (.slice ao an ac) (.slice po pn pc), .slice vo vn vc] w fun r w' => r = .returned (.int .i64 (rsc e M)) ∧ Below w.heap.size w w' := by
  intro N
  induction N with
  | zero => intro e ao an ac po pn pc vo vn vc M w hN; have := e.size_pos; omega
  | succ N ih =>
    intro e ao an ac po pn pc vo vn vc M w hN h hv hs hm hM
    obtain ⟨k, s, nm, l⟩ := e
    obtain ⟨p2, p17, p3, pl⟩ := hs.parts
    have B1 := ba (b0 w) (.cells #[.int .i64 k, .string (text s), .slice ao an ac, .slice po pn pc] 25)
    have P1 := heap_alloc_new w (.cells #[.int .i64 k, .string (text s), .slice ao an ac, .slice po pn pc] 25)
    obtain ⟨V, hV⟩ : ∃ V, w.alloc (.cells #[.int .i64 k, .string (text s), .slice ao an ac, .slice po pn pc] 25) = V := ⟨_, rfl⟩
    rw [hV] at B1 P1
    have hE := h.later B1
    have vlen := fun X => hv.len (P := Tryz.prog) 22 3 9 undS X
    have plen := fun X => hE.parts.2.len 3 X
    have hkl := hE.parts.2.le
    simp only [Ex.l] at plen hkl
    have hsize : sizeL l ≤ N := by simp only [Ex.size] at hN; omega
    obtain ⟨hl1, hl2⟩ := len_mass (.mk k s nm l)
    simp only [Ex.nm, Ex.l] at hl1 hl2
    obtain ⟨R, hR⟩ : ∃ R, rsc (.mk k s nm l) M = R := ⟨_, rfl⟩
    rw [hR]
    have HR := hid (show R = if 4096 < M.length then 19 else if k = 3 ∧ s ∉ M then 13 else rscL k s nm l 0 M from by rw [← hR]; simp only [rsc])
    have HV0 := hid (hv.below B1 (Nat.le_refl _))
    have HE := hid hE
    have HB1 := hid B1
    have HP := hid P1
    have HIH := hid ih
    have HSZ := hid hsize
    have HPL := hid pl
    have HM := hid hm
    have HP17 := hid p17
    have AM := hid (Among_any (.slice vo vn vc) M s V HV0.out)
    obtain ⟨a0, a1, a2, a3⟩ := box_cells P1
    unfold exV
    simp only [Ex.kind, Ex.s]
    clear ih h hv hs hN hE B1 P1 hsize pl hR hm p2 p17 p3
    by_cases h4 : 4096 < M.length
    · have h4i : (4096 : Int) < (M.length : Int) := by omega
      have E := hid (HR.out.trans (if_pos h4))
      clear h4
      go_enter Tryz.func15, Tryz.ntmps15
      go_wp2
      go_ret
      rw [E.out]
      exact ⟨rfl, HB1.out⟩
    have h4i : decide ((4096 : Int) < (M.length : Int)) = false := decide_eq_false (by omega)
    have h4j : decide (4096 < M.length) = false := decide_eq_false h4
    have HR2 := hid (HR.out.trans (if_neg h4))
    have hM4 : M.length ≤ 4096 := by omega
    clear h4 HR hM
    by_cases hk : k = 3 ∧ s ∉ M
    · obtain ⟨rfl, hsm⟩ := hk
      have E := hid (HR2.out.trans (if_pos ⟨rfl, hsm⟩))
      rw [decide_eq_false hsm] at AM
      clear hsm
      go_enter Tryz.func15, Tryz.ntmps15
      go_wp2_with fail
      refine AM.out.mono ?_
      rintro r w1 ⟨rfl, hw1⟩
      subst hw1
      go_wp2
      go_ret
      rw [E.out]
      exact ⟨rfl, HB1.out⟩
    have HR3 := hid (HR2.out.trans (if_neg hk))
    clear HR2
    go_enter Tryz.func15, Tryz.ntmps15
    go_upto_region 3 with fail
    clear hV
    go_cut [19] from 10 to 19 (fun c X => c = .bool false ∧ X = V)
    case first =>
      by_cases h3 : k = 3
      · subst h3
        have hsm : s ∈ M := Classical.byContradiction fun q => hk ⟨rfl, q⟩
        rw [decide_eq_true hsm] at AM
        clear hk hsm
        go_wp2_with fail
        refine AM.out.mono ?_
        rintro r w1 ⟨rfl, hw1⟩
        subst hw1
        go_wp2_with fail
        go_meet
        exact ⟨rfl, rfl⟩
      · have hb : (k == 3) = false := by rw [beq_eq_false_iff_ne]; exact h3
        clear hk
        go_wp2_with fail
        go_meet
        exact ⟨rfl, rfl⟩
    case rest =>
      obtain ⟨rfl, hWV⟩ := hcut
      have hWV := hWV.symm
      subst hWV
      clear hk AM a0 a1 a2 a3
      go_wp2_with fail
      go_loopg [5, 6] l.length (fun gk iv _ X => ∃ i : Nat, iv = .int .i64 i ∧ i + gk = l.length ∧ Hid (Below V.heap.size V X) ∧ Hid (rscL k s nm l 0 M = rscL k s nm (l.drop i) i M))
      case atStart => exact ⟨0, rfl, by omega, hid (b0 V), hid (by rw [List.drop_zero])⟩
      case round =>
        rename World => X
        obtain ⟨i, rfl, hig, HX, HA⟩ := hrel
        obtain ⟨a0, a1, a2, a3⟩ := box_cells ((HX.out.block _ (lt_of_some HP.out)).trans HP.out)
        by_cases hi : i < l.length
        · obtain ⟨b1, o1, nv1, pv1, i1, ⟨c0, c1, c2, c3, is1⟩⟩ := (HE.out.parts.2.later HX.out).at i hi
          simp only [Ex.l] at c0 c1 is1
          have hsz : l[i].size ≤ N := Nat.le_trans (sizeL_mem (List.getElem_mem hi)) HSZ.out
          have hpm := part_mass (k := k) (s := s) (nm := nm) hi
          have hps := HPL.out _ (List.getElem_mem hi)
          have he := HA.out
          rw [List.drop_eq_getElem_cons hi] at he
          simp only [rscL] at he
          generalize l[i] = y at *
          obtain ⟨xn, xp⟩ := is1.parts
          obtain ⟨xo, xl, xc, rfl⟩ := Strs.form xn
          obtain ⟨yo, yl, yc, rfl⟩ := xp.form
          have i1' := i1 .i64
          have WI := hid (fun (W : World) (hW : Below X.heap.size X W) => Within_any (.mk k s nm l) ao an ac po pn pc W i vo vn vc M (HE.out.later (bt HX.out hW)) (HV0.out.below (bt HX.out hW) (Nat.le_refl _)) (fun q => by have := HP17.out q; simp only [Ex.nm]; omega) (by have := HM.out; omega) (by omega) (by simp only [Ex.nm]; have := HM.out; omega))
          have HIS := hid (fun (W : World) (hW : Below X.heap.size X W) => is1.later hW)
          have hwl := addL_len (mor k s nm i) M
          have hml := mor_len k s nm i
          have HW4 := hid (show (wth k s nm i M).length ≤ 10000000 from by unfold wth; have := HM.out; omega)
          obtain ⟨W', hW'⟩ : ∃ W', wth k s nm i M = W' := ⟨_, rfl⟩
          simp only [Ex.kind, Ex.s, Ex.nm, hW'] at WI
          rw [hW'] at he HW4
          obtain ⟨cv, hcv⟩ : ∃ cv, rsc y W' = cv := ⟨_, rfl⟩
          rw [hcv] at he
          have HEC := hid he
          have IH := hid (fun (Z : World) (ro : Option Addr) (rn rc : Nat) (hb : Below X.heap.size X Z) (hst : Strs Z (.slice ro rn rc) W') => HIH.out y xo xl xc yo yl yc ro rn rc W' Z hsz (HIS.out Z hb) hst hps (Nat.le_trans hpm HM.out) HW4.out)
          simp only [hcv] at IH
          have HEA := hid (show ExAt X b1 o1 y (.slice xo xl xc) (.slice yo yl yc) from ⟨c0, c1, c2, c3, is1⟩)
          have HS := hid (show ∀ Z, Below X.heap.size X Z → (Below X.heap.size X Z ∧ Z.cell? ⟨w.heap.size, 0, none⟩ = some (.int .i64 k) ∧ Z.cell? ⟨w.heap.size, 1, none⟩ = some (.string (text s)) ∧ Z.cell? ⟨w.heap.size, 2, none⟩ = some (.slice ao an ac) ∧ Z.cell? ⟨w.heap.size, 3, none⟩ = some (.slice po pn pc) ∧ Z.cell? ⟨b1, o1, none⟩ = some (.int .i64 y.kind) ∧ Z.cell? ⟨b1, o1 + 1, none⟩ = some (.string (text y.s)) ∧ Z.cell? ⟨b1, o1 + 2, none⟩ = some (.slice xo xl xc) ∧ Z.cell? ⟨b1, o1 + 3, none⟩ = some (.slice yo yl yc)) from fun Z hZ => by
            obtain ⟨a0, a1, a2, a3⟩ := box_cells (((bt HX.out hZ).block _ (lt_of_some HP.out)).trans HP.out)
            obtain ⟨z0, z1, z2, z3, _⟩ := HEA.out.later hZ
            exact ⟨hZ, a0, a1, a2, a3, z0, z1, z2, z3⟩)
          have HS0 := HS.out X.drew (bdrew X 1)
          unfold exV at WI IH
          simp only [Ex.kind, Ex.s] at WI
          clear i1 is1 xn xp hsz hpm hps he hwl hml hW' hcv
          go_wp2_with fail
          clear c0 c1 c2 c3 a0 a1 a2 a3
          go_region_held3 (fun Z => (Below X.heap.size X Z ∧ Z.cell? ⟨w.heap.size, 0, none⟩ = some (.int .i64 k) ∧ Z.cell? ⟨w.heap.size, 1, none⟩ = some (.string (text s)) ∧ Z.cell? ⟨w.heap.size, 2, none⟩ = some (.slice ao an ac) ∧ Z.cell? ⟨w.heap.size, 3, none⟩ = some (.slice po pn pc) ∧ Z.cell? ⟨b1, o1, none⟩ = some (.int .i64 y.kind) ∧ Z.cell? ⟨b1, o1 + 1, none⟩ = some (.string (text y.s)) ∧ Z.cell? ⟨b1, o1 + 2, none⟩ = some (.slice xo xl xc) ∧ Z.cell? ⟨b1, o1 + 3, none⟩ = some (.slice yo yl yc))) (first | exact HSx | exact HS0) (first
            | (go_at_call 26
               with_reducible refine (WI.out _ ?_).mono ?_
               (first | exact HSx.1 | exact HS0.1)
               rintro ev wx ⟨ro, rn, rc, rfl, hst, hb⟩
               have HST := hid hst
               clear hst
               first | have HSx := HS.out _ (bt HSx.1 hb) | have HSx := HS.out _ (bt HS0.1 hb))
            | (go_at_call 15
               with_reducible refine (IH.out _ ro rn rc HSx.1 HST.out).mono ?_
               rintro ev wx ⟨rfl, hb⟩
               have HSx := HS.out _ (bt HSx.1 hb)))
          have HB3 := hid (bt HX.out HSx.1)
          by_cases hc0 : cv = 0
          · subst hc0
            have HN := hid (HEC.out.trans (if_pos rfl))
            go_wp2
            go_roundg (gk - 1)
            case measure => omega
            case rel => exact ⟨i + 1, by go_num, by omega, HB3, HN⟩
          · have hcb : (cv == 0) = false := by rw [beq_eq_false_iff_ne]; exact hc0
            have hcb2 : (cv != 0) = true := by rw [bne_iff_ne]; exact hc0
            have HN := hid (HR3.out.trans (HEC.out.trans (if_neg hc0)))
            clear hc0
            go_wp2
            go_ret
            rw [HN.out]
            exact ⟨rfl, bt HB1.out HB3.out⟩
        · have HN := hid (HR3.out.trans (HA.out.trans (show rscL k s nm (l.drop i) i M = 0 by rw [List.drop_eq_nil_of_le (by omega)]; rfl)))
          go_wp2
          go_ret
          rw [HN.out]
          exact ⟨rfl, bt HB1.out HX.out⟩
/-- Names that are told so far. -/
def Told (k : Int) (s : Nam) (nm : List Nam) (l : List Ex) (B : List Nam) (i : Nat) (L : List Nam) : Prop :=
  Rise L ∧ ∀ z, z ∈ L ↔ (k = 3 ∧ s ∉ B ∧ z = s) ∨ ∃ j, ∃ h : j < l.length, j < i ∧ z ∈ fr l[j] (wth k s nm j B)
theorem Told.few {k : Int} {s : Nam} {nm : List Nam} {l : List Ex} {B L : List Nam} {i : Nat} (h : Told k s nm l B i L) (h2 : k = 9 ∨ k = 12 ∨ k = 13 ∨ k = 14 → l.length = 2) : L.length ≤ (Ex.mk k s nm l).size := by
  refine Nat.le_trans (nodup_few h.1.nodup fun z hz => ?_) (fr_len (.mk k s nm l) B)
  rw [fr_parts k s nm l h2]
  rcases (h.2 z).1 hz with q | ⟨j, hj, _, q⟩
  · exact .inl q
  · exact .inr ⟨j, hj, q⟩
theorem Told.step {k : Int} {s : Nam} {nm : List Nam} {l : List Ex} {B L F : List Nam} {i : Nat} (hi : i < l.length) (h : Told k s nm l B i L) (hF : ∀ z, z ∈ F ↔ z ∈ fr l[i] (wth k s nm i B)) : Told k s nm l B (i + 1) (put L F) := by
  refine ⟨put_rise F h.1, fun z => ?_⟩
  rw [put_mem, h.2, hF]
  constructor
  · rintro ((q | ⟨j, hj, hji, q⟩) | q)
    · exact .inl q
    · exact .inr ⟨j, hj, by omega, q⟩
    · exact .inr ⟨i, hi, by omega, q⟩
  · rintro (q | ⟨j, hj, hji, q⟩)
    · exact .inl (.inl q)
    · by_cases e : j = i
      · subst e; exact .inr q
      · exact .inl (.inr ⟨j, hj, by omega, q⟩)
set_option maxHeartbeats 8000000 in
theorem RFree_any : ∀ (N : Nat) (e : Ex) (ao : Option Addr) (an ac : Nat) (po : Option Addr) (pn pc : Nat) (vo : Option Addr) (vn vc : Nat) (B : List Nam) (w : World), e.size ≤ N → IsE w e (.slice ao an ac) (.slice po pn pc) → Strs w (.slice vo vn vc) B → Shp e → e.mass ≤ 1000000 → e.size ≤ 1500 → B.length + e.mass ≤ 20000000 →
    Calls Tryz.prog 18 #[exV e (.slice ao an ac) (.slice po pn pc), .slice vo vn vc] w fun r w' => ∃ ro rn rc L, r = .returned (.slice ro rn rc) ∧ Strs w' (.slice ro rn rc) L ∧ Rise L ∧ (∀ z, z ∈ L ↔ z ∈ fr e B) ∧ Below w.heap.size w w' := by
  intro N
  induction N with
  | zero => intro e ao an ac po pn pc vo vn vc B w hN; have := e.size_pos; omega
  | succ N ih =>
    intro e ao an ac po pn pc vo vn vc M w hN h hv hs hm hm2 hM
    obtain ⟨k, s, nm, l⟩ := e
    obtain ⟨p2, p17, p3, pl⟩ := hs.parts
    have B1 := ba (b0 w) (.cells #[.int .i64 k, .string (text s), .slice ao an ac, .slice po pn pc] 25)
    have P1 := heap_alloc_new w (.cells #[.int .i64 k, .string (text s), .slice ao an ac, .slice po pn pc] 25)
    obtain ⟨V, hV⟩ : ∃ V, w.alloc (.cells #[.int .i64 k, .string (text s), .slice ao an ac, .slice po pn pc] 25) = V := ⟨_, rfl⟩
    rw [hV] at B1 P1
    have hE := h.later B1
    have plen := fun X => hE.parts.2.len 3 X
    have hkl := hE.parts.2.le
    simp only [Ex.l] at plen hkl
    have hsize : sizeL l ≤ N := by simp only [Ex.size] at hN; omega
    obtain ⟨hl1, hl2⟩ := len_mass (.mk k s nm l)
    simp only [Ex.nm, Ex.l] at hl1 hl2
    have HV0 := hid (hv.below B1 (Nat.le_refl _))
    have HE := hid hE
    have HB1 := hid B1
    have HP := hid P1
    have HIH := hid ih
    have HSZ := hid hsize
    have HPL := hid pl
    have HM := hid hm
    have HM2 := hid hm2
    have HML := hid hM
    have HP17 := hid p17
    have HP2 := hid p2
    have HSR := hid (fun i (hi : i < l.length) z (hz : z ∈ fr l[i] (wth k s nm i M)) => Shp.right _ _ _ z (Nat.le_refl _) (pl _ (List.getElem_mem hi)) hz)
    have AM := hid (Among_any (.slice vo vn vc) M s V HV0.out)
    obtain ⟨a0, a1, a2, a3⟩ := box_cells P1
    unfold exV
    simp only [Ex.kind, Ex.s]
    clear ih h hv hs hN hE B1 P1 hsize pl hm hm2 p2 p17 p3 hM
    go_enter Tryz.func18, Tryz.ntmps18
    go_upto_region 2 with fail
    clear hV
    go_cut [16] from 7 to 16 (fun c X => c = .bool (decide (k = 3 ∧ s ∉ M)) ∧ X = V)
    case first =>
      by_cases h3 : k = 3
      · subst h3
        by_cases hsm : s ∈ M
        · rw [decide_eq_true hsm] at AM
          have hd : decide ((3 : Int) = 3 ∧ s ∉ M) = false := decide_eq_false (fun q => q.2 hsm)
          have HD := hid hd
          clear hsm hd
          go_wp2_with fail
          refine AM.out.mono ?_
          rintro r w1 ⟨rfl, hw1⟩
          subst hw1
          go_wp2_with fail
          go_meet
          exact ⟨by rw [HD.out], rfl⟩
        · rw [decide_eq_false hsm] at AM
          have hd : decide ((3 : Int) = 3 ∧ s ∉ M) = true := decide_eq_true ⟨rfl, hsm⟩
          have HD := hid hd
          clear hsm hd
          go_wp2_with fail
          refine AM.out.mono ?_
          rintro r w1 ⟨rfl, hw1⟩
          subst hw1
          go_wp2_with fail
          go_meet
          exact ⟨by rw [HD.out], rfl⟩
      · have hb : (k == 3) = false := by rw [beq_eq_false_iff_ne]; exact h3
        have HD := hid (show decide (k = 3 ∧ s ∉ M) = false from decide_eq_false (fun q => h3 q.1))
        clear h3
        go_wp2_with fail
        go_meet
        exact ⟨by rw [HD.out], rfl⟩
    case rest =>
      obtain ⟨rfl, hWV⟩ := hcut
      have hWV := hWV.symm
      subst hWV
      clear AM
      obtain ⟨d, hd⟩ : ∃ d, decide (k = 3 ∧ s ∉ M) = d := ⟨_, rfl⟩
      rw [hd]
      have HD := hid hd
      clear hd
      go_upto_if 16 with fail
      go_cut [5] from 17 to 19 (fun u X => ∃ uo un uc L0, u = .slice uo un uc ∧ Hid (Strs X (.slice uo un uc) L0) ∧ Hid (Told k s nm l M 0 L0) ∧ Hid (Below V.heap.size V X))
      case first =>
        cases d with
        | true =>
          have hq := of_decide_eq_true HD.out
          have HT0 := hid (show Told k s nm l M 0 [s] from ⟨by simp [Rise], fun z => by simp [hq]⟩)
          clear hq
          go_wp2_with fail
          go_meet
          exact ⟨_, _, _, [s], rfl, hid (Row.ofBuild (sz := 1) V #[.string (text s)] 9 1 rfl (by omega)), HT0, hid (ba (b0 V) _)⟩
        | false =>
          have hq := of_decide_eq_false HD.out
          have HT0 := hid (show Told k s nm l M 0 [] from ⟨by simp [Rise], fun z => by
            constructor
            · intro h; cases h
            · rintro (⟨a, b, _⟩ | ⟨_, _, h, _⟩)
              · exact absurd ⟨a, b⟩ hq
              · omega⟩)
          clear hq
          go_wp2_with fail
          go_meet
          exact ⟨_, _, _, [], rfl, hid (Row.nil 1 V), HT0, hid (b0 V)⟩
      case rest =>
        obtain ⟨uo, un, uc, L0, rfl, HS0', HT0, HX0⟩ := hcut
        rename World => X0
        clear a0 a1 a2 a3 HD
        go_wp2_with fail
        go_loopg [6, 5] l.length (fun gk iv ov X => ∃ (i : Nat) (oo : Option Addr) (on oc : Nat) (Lo : List Nam), iv = .int .i64 i ∧ ov = .slice oo on oc ∧ i + gk = l.length ∧ Hid (Below V.heap.size V X) ∧ Hid (Strs X (.slice oo on oc) Lo) ∧ Hid (Told k s nm l M i Lo))
        case atStart => exact ⟨0, uo, un, uc, L0, rfl, rfl, by omega, HX0, HS0', HT0⟩
        case round =>
          rename World => X
          obtain ⟨i, oo, on, oc, Lo, rfl, rfl, hig, HX, HO, HT⟩ := hrel
          obtain ⟨a0, a1, a2, a3⟩ := box_cells ((HX.out.block _ (lt_of_some HP.out)).trans HP.out)
          by_cases hi : i < l.length
          · obtain ⟨b1, o1, nv1, pv1, i1, ⟨c0, c1, c2, c3, is1⟩⟩ := (HE.out.parts.2.later HX.out).at i hi
            simp only [Ex.l] at c0 c1 is1
            have hsz : l[i].size ≤ N := Nat.le_trans (sizeL_mem (List.getElem_mem hi)) HSZ.out
            have hpm := part_mass (k := k) (s := s) (nm := nm) hi
            have hpz : l[i].size ≤ 1500 := by have h1 := sizeL_mem (List.getElem_mem hi); have h2 := HM2.out; simp only [Ex.size] at h2; omega
            have hps := HPL.out _ (List.getElem_mem hi)
            have hstep := fun (F : List Nam) => HT.out.step (F := F) hi
            have hright := HSR.out i hi
            have hfl := fr_len l[i] (wth k s nm i M)
            have hnm := fun z (hz : z ∈ fr l[i] (wth k s nm i M)) => nams_mem _ l[i] z (Nat.le_refl _) (fr_nams _ _ z hz)
            have hms2 : 1 + namesMass nm + l[i].mass ≤ (Ex.mk k s nm l).mass := by have := massL_mem (List.getElem_mem hi); simp only [Ex.mass]; omega
            generalize l[i] = y at *
            obtain ⟨xn, xp⟩ := is1.parts
            obtain ⟨xo, xl, xc, rfl⟩ := Strs.form xn
            obtain ⟨yo, yl, yc, rfl⟩ := xp.form
            have i1' := i1 .i64
            have WI := hid (fun (W : World) (hW : Below X.heap.size X W) => Within_any (.mk k s nm l) ao an ac po pn pc W i vo vn vc M (HE.out.later (bt HX.out hW)) (HV0.out.below (bt HX.out hW) (Nat.le_refl _)) (fun q => by have := HP17.out q; simp only [Ex.nm]; omega) (by have := HM.out; omega) (by have := HML.out; omega) (by simp only [Ex.nm]; have := HM.out; omega))
            have HIS := hid (fun (W : World) (hW : Below X.heap.size X W) => is1.later hW)
            have hwl := addL_len (mor k s nm i) M
            have hml := mor_len k s nm i
            have HW4 := hid (show (wth k s nm i M).length + y.mass ≤ 20000000 from by
              unfold wth
              have h1 := HML.out
              have h2 := namesMass_len nm
              omega)
            obtain ⟨W', hW'⟩ : ∃ W', wth k s nm i M = W' := ⟨_, rfl⟩
            simp only [Ex.kind, Ex.s, Ex.nm, hW'] at WI
            rw [hW'] at HW4 hstep hright hfl hnm
            have HST' := hid hstep
            have HRT := hid hright
            have HFL := hid (show (fr y W').length ≤ 1500 by omega)
            have HNM := hid (fun z hz => Nat.le_trans (hnm z hz) (Nat.le_trans hpm HM.out))
            have IH := hid (fun (Z : World) (ro : Option Addr) (rn rc : Nat) (hb : Below X.heap.size X Z) (hst : Strs Z (.slice ro rn rc) W') => HIH.out y xo xl xc yo yl yc ro rn rc W' Z hsz (HIS.out Z hb) hst hps (Nat.le_trans hpm HM.out) hpz HW4.out)
            have HLO := hid (HT.out.few HP2.out)
            have WT := hid (fun (Z : World) (ro : Option Addr) (rn rc : Nat) (F : List Nam) (h1 : Strs Z (.slice oo on oc) Lo) (h2 : Strs Z (.slice ro rn rc) F) (hF : ∀ z, z ∈ F ↔ z ∈ fr y W') (hr : Rise F) =>
              (RWith_any (.slice oo on oc) (.slice ro rn rc) Lo F Z h1 h2 HT.out.1 (by have h3 := HLO.out; have h4 := HM2.out; omega) (by have h5 := nodup_few hr.nodup (fun z hz => (hF z).1 hz); have h6 := HFL.out; omega) (fun z hz => Nat.le_trans (HNM.out z ((hF z).1 hz)) (by omega))).mono (R' := fun r w' => ∃ qo qn qc, r = .returned (.tuple #[.slice qo qn qc, .int .i64 0]) ∧ Strs w' (.slice qo qn qc) (put Lo F) ∧ Below Z.heap.size Z w') (by
                rintro r w' ⟨rv, er, rfl, hb, (⟨_, _, hbad⟩ | ⟨rfl, _, hst⟩)⟩
                · rw [List.all_eq_true.2 (fun z hz => HRT.out z ((hF z).1 hz))] at hbad; cases hbad
                · obtain ⟨qo, qn, qc, rfl⟩ := Strs.form hst
                  exact ⟨qo, qn, qc, rfl, hst, hb⟩))
            have HEA := hid (show ExAt X b1 o1 y (.slice xo xl xc) (.slice yo yl yc) from ⟨c0, c1, c2, c3, is1⟩)
            have HS := hid (show ∀ Z, Below X.heap.size X Z → (Below X.heap.size X Z ∧ Z.cell? ⟨w.heap.size, 0, none⟩ = some (.int .i64 k) ∧ Z.cell? ⟨w.heap.size, 1, none⟩ = some (.string (text s)) ∧ Z.cell? ⟨w.heap.size, 2, none⟩ = some (.slice ao an ac) ∧ Z.cell? ⟨w.heap.size, 3, none⟩ = some (.slice po pn pc) ∧ Z.cell? ⟨b1, o1, none⟩ = some (.int .i64 y.kind) ∧ Z.cell? ⟨b1, o1 + 1, none⟩ = some (.string (text y.s)) ∧ Z.cell? ⟨b1, o1 + 2, none⟩ = some (.slice xo xl xc) ∧ Z.cell? ⟨b1, o1 + 3, none⟩ = some (.slice yo yl yc)) from fun Z hZ => by
              obtain ⟨a0, a1, a2, a3⟩ := box_cells (((bt HX.out hZ).block _ (lt_of_some HP.out)).trans HP.out)
              obtain ⟨z0, z1, z2, z3, _⟩ := HEA.out.later hZ
              exact ⟨hZ, a0, a1, a2, a3, z0, z1, z2, z3⟩)
            have HS0 := HS.out X.drew (bdrew X 1)
            unfold exV at WI IH
            simp only [Ex.kind, Ex.s] at WI
            clear i1 is1 xn xp hsz hpm hpz hps hwl hml hW' hstep hright hfl hnm hms2
            go_wp2_with fail
            clear c0 c1 c2 c3 a0 a1 a2 a3
            go_region_held3 (fun Z => (Below X.heap.size X Z ∧ Z.cell? ⟨w.heap.size, 0, none⟩ = some (.int .i64 k) ∧ Z.cell? ⟨w.heap.size, 1, none⟩ = some (.string (text s)) ∧ Z.cell? ⟨w.heap.size, 2, none⟩ = some (.slice ao an ac) ∧ Z.cell? ⟨w.heap.size, 3, none⟩ = some (.slice po pn pc) ∧ Z.cell? ⟨b1, o1, none⟩ = some (.int .i64 y.kind) ∧ Z.cell? ⟨b1, o1 + 1, none⟩ = some (.string (text y.s)) ∧ Z.cell? ⟨b1, o1 + 2, none⟩ = some (.slice xo xl xc) ∧ Z.cell? ⟨b1, o1 + 3, none⟩ = some (.slice yo yl yc))) (first | exact HSx | exact HS0) (first
              | (go_at_call 26
                 with_reducible refine (WI.out _ ?_).mono ?_
                 (first | exact HSx.1 | exact HS0.1)
                 rintro ev wx ⟨ro, rn, rc, rfl, hst, hb⟩
                 have HST := hid hst
                 clear hst
                 first | have HSx := HS.out _ (bt HSx.1 hb) | have HSx := HS.out _ (bt HS0.1 hb))
              | (go_at_call 18
                 with_reducible refine (IH.out _ ro rn rc HSx.1 HST.out).mono ?_
                 rintro ev wx ⟨fo, fn, fc, F, rfl, hst, hri, hF, hb⟩
                 have HSF := hid hst
                 have HRF := hid hri
                 have HFF := hid hF
                 clear hst hri hF
                 have HSx := HS.out _ (bt HSx.1 hb))
              | (go_at_call 13
                 refine (WT.out _ fo fn fc F (HO.out.below HSx.1 (Nat.le_refl _)) HSF.out HFF.out HRF.out).mono ?_
                 rintro ev wx ⟨qo, qn, qc, rfl, hst, hb⟩
                 have HSQ := hid hst
                 clear hst
                 have HSx := HS.out _ (bt HSx.1 hb)))
            have HB3 := hid (bt HX.out HSx.1)
            have HTN := hid (HST'.out F HFF.out)
            go_wp2
            go_roundg (gk - 1)
            case measure => omega
            case rel => exact ⟨i + 1, qo, qn, qc, _, by go_num, rfl, by omega, HB3, HSQ, HTN⟩
          · have HFIN := hid (show Rise Lo ∧ ∀ z, z ∈ Lo ↔ z ∈ fr (.mk k s nm l) M from ⟨HT.out.1, fun z => by
              rw [HT.out.2, fr_parts k s nm l HP2.out]
              refine or_congr Iff.rfl (exists_congr fun j => exists_congr fun hj => ⟨fun q => q.2, fun q => ⟨by omega, q⟩⟩)⟩)
            go_wp2
            go_ret
            exact ⟨oo, on, oc, Lo, rfl, HO.out, HFIN.out.1, HFIN.out.2, bt HB1.out HX.out⟩
end Go.Proofs.YtlhhjocfbafoeaaGreatDoor.Xp
