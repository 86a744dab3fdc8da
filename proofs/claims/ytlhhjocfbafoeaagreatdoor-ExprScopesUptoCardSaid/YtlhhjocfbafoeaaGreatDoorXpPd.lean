/- Layer 10: the walk of ExprScopes. -/
import Derived.Test.YtlhhjocfbafoeaaGreatDoorXpSd
set_option linter.unusedVariables false
set_option linter.unusedSimpArgs false
namespace Go.Proofs.YtlhhjocfbafoeaaGreatDoor.Xp
open Go Go.Proofs.YtlhhjocfbafoeaaGreatDoor Go.Proofs.YtlhhjocfbafoeaaGreatDoor.Utf Go.Proofs.YtlhhjocfbafoeaaGreatDoor.Names Go.Proofs.YtlhhjocfbafoeaaGreatDoor.Sc Go.RowKit
set_option maxRecDepth 100000
set_option maxHeartbeats 16000000 in
theorem ExprScopes_walk (e : Ex) (ao : Option Addr) (an ac : Nat) (po : Option Addr) (pn pc : Nat) (v1 : Value) (more : List Nam) (w : World) (hw : Num.Fit w) (h : IsE w e (.slice ao an ac) (.slice po pn pc)) (hv1 : Strs w v1 more) (hf : e.fit) (hm : e.mass ≤ 1100000) (hx1 : ∀ x ∈ more, x.length ≤ 2000000) :
    Calls Tryz.prog 3 #[exV e (.slice ao an ac) (.slice po pn pc), v1] w fun r w' => r = .returned (.bool true) ∧ Below w.heap.size w w' := by
  obtain ⟨V, hV⟩ : ∃ V, w.alloc (.cells #[.int .i64 e.kind, .string (text e.s), .slice ao an ac, .slice po pn pc] 25) = V := ⟨_, rfl⟩
  have BV : Below w.heap.size w V := hV ▸ ba (b0 w) _
  have P2 : V.heap[w.heap.size]? = some (.cells #[.int .i64 e.kind, .string (text e.s), .slice ao an ac, .slice po pn pc] 25) := hV ▸ heap_alloc_new w _
  have hE := h.later BV
  have hsz := size_mass e
  obtain ⟨hl1, hl2⟩ := len_mass e
  have AL := hid (fun (W : World) (hW : Below V.heap.size V W) => alive_any W ((hw.at BV).at hW))
  have CK := hid (fun (W : World) (hW : Below V.heap.size V W) => Check_any e ao an ac po pn pc W ((hw.at BV).at hW) (hE.later hW) hf (by omega))
  have FR := hid (fun (W : World) (hW : Below V.heap.size V W) => Free_any e ao an ac po pn pc W (hE.later hW) (by omega))
  have DP := hid (fun (W : World) (hW : Below V.heap.size V W) => Depth_any e ao an ac po pn pc W (hE.later hW) (by omega))
  have CN := hid (fun (W : World) (hW : Below V.heap.size V W) => Count_any e ao an ac po pn pc W (hE.later hW) (by omega))
  have HE := hid hE
  have HBV := hid BV
  have HP2 := hid P2
  have HW := hid (fun (W : World) (hW : Below V.heap.size V W) => (hw.at BV).at hW)
  have HF := hid hf
  have HX := hid (show ∀ X, Below V.heap.size V X → X.cell? ⟨w.heap.size, 0, none⟩ = some (.int .i64 e.kind) ∧ X.cell? ⟨w.heap.size, 1, none⟩ = some (.string (text e.s)) ∧ X.cell? ⟨w.heap.size, 2, none⟩ = some (.slice ao an ac) ∧ X.cell? ⟨w.heap.size, 3, none⟩ = some (.slice po pn pc) from fun X hX => box_cells ((hX.block _ (lt_of_some P2)).trans P2))
  have HM1 := hid (fun (W : World) (hW : Below V.heap.size V W) => (hv1.below BV (Nat.le_refl _)).below hW (Nat.le_refl _))
  have mlen := fun X => hv1.len (P := Tryz.prog) 22 3 9 undS X
  have mle := hv1.le
  have HX1 := hid hx1
  unfold exV at CK FR DP CN ⊢
  clear hw h BV P2 hE hf hv1 hx1
  go_enter Tryz.func3, Tryz.ntmps3
  go_wp2_with fail
  refine (AL.out _ (b0 V)).mono ?_
  rintro r w1 ⟨rfl, hb1⟩
  obtain ⟨a0, a1, a2, a3⟩ := HX.out _ hb1
  have mk := Exs.made (w := w1) [(e, .slice ao an ac, .slice po pn pc)] (by
    intro x hx
    simp only [List.mem_cons, List.not_mem_nil, or_false] at hx
    subst hx
    exact HE.out.later hb1) (by simp)
  have BL := ba (b0 w1) (.cells ([(e, Value.slice ao an ac, Value.slice po pn pc)].flatMap ecells).toArray 25)
  have GR := hid (Great_any _ _ _ mk (by
    intro x hx
    simp only [List.map_cons, List.map_nil, List.mem_cons, List.not_mem_nil, or_false] at hx
    subst hx
    omega))
  have HB1 := hid hb1
  have HBL := hid BL
  simp only [List.flatMap_cons, List.flatMap_nil, ecells, List.cons_append, List.nil_append, List.append_nil, List.length_cons, List.length_nil] at GR HBL
  clear hb1 mk BL hV
  go_wp2_with fail
  refine GR.out.mono ?_
  rintro r w2 ⟨n, rfl, hn, hsm, hb2⟩
  have HB2 := hid (bt HB1.out (bt HBL.out hb2))
  have HSM := hid hsm
  clear hb2 hsm a0 a1 a2 a3 GR HBL HB1
  rcases hn with rfl | rfl
  case inr =>
    go_wp2_with fail
    refine (AL.out _ HB2.out).mono ?_
    rintro r w3 ⟨rfl, hb3⟩
    have HB3 := hid (bt HBV.out (bt HB2.out hb3))
    clear hb3
    go_wp2
    go_ret
    exact ⟨rfl, HB3.out⟩
  obtain ⟨a0, a1, a2, a3⟩ := HX.out _ HB2.out
  by_cases h50 : 100 < more.length
  case pos =>
    have h5i : (100 : Int) < (more.length : Int) := by omega
    go_wp2_with fail
    refine (AL.out _ HB2.out).mono ?_
    rintro r w9 ⟨rfl, hb9⟩
    have HB9 := hid (bt HBV.out (bt HB2.out hb9))
    clear hb9
    go_wp2
    go_ret
    exact ⟨rfl, HB9.out⟩
  have h5i : decide ((100 : Int) < (more.length : Int)) = false := decide_eq_false (by omega)
  have h5j : decide (100 < more.length) = false := decide_eq_false h50
  have H50 := hid (show more.length ≤ 100 by omega)
  have hse := (show ∀ x ∈ [e], Small x from by simpa using HSM.out) e (by simp)
  have hml := hse.mass
  have HML := hid hml
  have HSE := hid hse.1
  have RC := hid (RCheck_expr e ao an ac po pn pc w2 (HE.out.later HB2.out) (by omega))
  unfold exV at RC
  clear h50 hse hml HSM
  go_wp2_with fail
  refine RC.out.mono ?_
  rintro r w3 ⟨⟨v, rfl, hv⟩, hb3⟩
  have HB3 := hid (bt HB2.out hb3)
  have HV := hid hv
  clear hb3 hv a0 a1 a2 a3 RC
  by_cases hc : v = 0
  case neg =>
    have hcb : (v == 0) = false := by rw [beq_eq_false_iff_ne]; exact hc
    have hcb2 : (v != 0) = true := by rw [bne_iff_ne]; exact hc
    clear hc
    go_wp2_with fail
    refine (AL.out _ HB3.out).mono ?_
    rintro r w9 ⟨rfl, hb9⟩
    have HB9 := hid (bt HBV.out (bt HB3.out hb9))
    clear hb9
    go_wp2
    go_ret
    exact ⟨rfl, HB9.out⟩
  subst hc
  obtain ⟨hdep, hshp⟩ := HV.out (by first | rfl | trivial)
  have NW := hid (New_any v1 more w3 (HM1.out w3 HB3.out) (by have := H50.out; omega) HX1.out)
  have HDP := hid hdep
  have HSH := hid hshp
  clear hdep hshp HV
  go_wp2_with fail
  refine NW.out.mono ?_
  rintro r w4 ⟨p4, er, rfl, hg, hb4⟩
  have HB4 := hid (bt HB3.out hb4)
  clear hb4 NW
  by_cases her : er = 0
  case neg =>
    have hcb : (er == 0) = false := by rw [beq_eq_false_iff_ne]; exact her
    have hcb2 : (er != 0) = true := by rw [bne_iff_ne]; exact her
    have HEND := hid (bt HBV.out HB4.out)
    clear her hg
    go_wp2
    go_ret
    exact ⟨rfl, HEND.out⟩
  subst her
  obtain ⟨hall, hlen, hsc⟩ : more.all rightB = true ∧ (put [] more).length ≤ 4096 ∧ ScAt w4 p4 (put [] more) := by
    rcases hg with ⟨h, _⟩ | ⟨h, _⟩ | ⟨_, _, h1, h2, h3⟩
    · exact absurd h (by decide)
    · exact absurd h (by decide)
    · exact ⟨h1, h2, h3⟩
  have HALL := hid hall
  have HSC := hid hsc
  have hri : Rise (put [] more) := put_rise more (by simp [Rise])
  have hcv := scoped_rsc HDP.out hri.nodup HSH.out hlen
  have hfv := freeV_facts (e := e) HDP.out (by have := HML.out; omega)
  obtain ⟨N, hN⟩ : ∃ N, put [] more = N := ⟨_, rfl⟩
  have WT := hid (RWith_any (.slice none 0 0) v1 [] more w4 (Row.nil 1 w4) (HM1.out w4 HB4.out) (by simp [Rise]) (by simp) (by have := H50.out; omega) HX1.out)
  rw [hN] at HSC hcv hlen WT
  have HLN := hid hlen
  have HCV := hid hcv
  have HFV := hid hfv
  clear hg hall hsc hri hcv hfv hN hlen
  go_wp2_with fail
  refine WT.out.mono ?_
  rintro r w5 ⟨rv, e5, rfl, hb5, (⟨_, _, hbad⟩ | ⟨rfl, _, hst⟩)⟩
  · rw [HALL.out] at hbad; cases hbad
  obtain ⟨no, nn, nc, rfl⟩ := Strs.form hst
  have HB5 := hid (bt HB4.out hb5)
  have HS5 := hid (HSC.out.later hb5)
  have HN5 := hid hst
  clear hb5 hst WT HSC
  obtain ⟨cv, hcv⟩ : ∃ cv, scopedV N e = cv := ⟨_, rfl⟩
  have SC := hid (fun (W : World) (hW : Below w5.heap.size w5 W) => Scoped_any e ao an ac po pn pc p4 N W (HS5.out.later hW) (HE.out.later (bt HB5.out hW)) (by have := HML.out; omega))
  have RS := hid (fun (W : World) (hW : Below w5.heap.size w5 W) => RScoped_any e.size e ao an ac po pn pc no nn nc N W (Nat.le_refl _) (HE.out.later (bt HB5.out hW)) (HN5.out.below hW (Nat.le_refl _)) HSH.out (by have := HML.out; omega) (by have := HLN.out; omega))
  simp only [hcv] at SC
  simp only [← HCV.out, hcv] at RS
  have FX := hid (fun (W : World) (hW : Below w5.heap.size w5 W) => FR.out W (bt HB5.out hW))
  have RF := hid (fun (W : World) (hW : Below w5.heap.size w5 W) => (RFree_any e.size e ao an ac po pn pc none 0 0 [] W (Nat.le_refl _) (HE.out.later (bt HB5.out hW)) (Row.nil 1 W) HSH.out (by have := HML.out; omega) HSE.out (by have := HML.out; simp; omega)).mono (R' := fun r w' => ∃ ro rn rc, r = .returned (.slice ro rn rc) ∧ Strs w' (.slice ro rn rc) (freeV e) ∧ Below W.heap.size W w') (by
    rintro r w' ⟨ro, rn, rc, L, rfl, hst, hri, hmem, hb⟩
    have : L = freeV e := Rise.unique hri HFV.out.1 fun z => by rw [hmem, HFV.out.2]
    subst this
    exact ⟨ro, rn, rc, rfl, hst, hb⟩))
  have SM := hid (fun (W : World) (u1 u2 : Value) (h1 : Strs W u1 (freeV e)) (h2 : Strs W u2 (freeV e)) => (same_any u1 u2 (freeV e) (freeV e) W h1 h2).mono (R' := fun r w' => r = .returned (.bool true) ∧ Below W.heap.size W w') (by
    rintro r w' ⟨rfl, hb⟩
    exact ⟨by rw [decide_eq_true rfl], hb⟩))
  have HS := hid (show ∀ Z, Below w5.heap.size w5 Z → (Below w5.heap.size w5 Z ∧ Z.cell? ⟨w.heap.size, 0, none⟩ = some (.int .i64 e.kind) ∧ Z.cell? ⟨w.heap.size, 1, none⟩ = some (.string (text e.s)) ∧ Z.cell? ⟨w.heap.size, 2, none⟩ = some (.slice ao an ac) ∧ Z.cell? ⟨w.heap.size, 3, none⟩ = some (.slice po pn pc)) from fun Z hZ => ⟨hZ, HX.out Z (bt HB5.out hZ)⟩)
  have HS0 := HS.out w5.drew (bdrew w5 1)
  have HEND := hid (bt HBV.out HB5.out)
  unfold exV at SC RS RF
  clear hcv HE HP2 HW HF HX AL CK FR DP CN HCV HFV HSH HDP HML HSE HLN HS5 HN5 HM1 HX1 HALL h5i h5j mlen
  go_wp2_with fail
  go_region_held3 (fun Z => (Below w5.heap.size w5 Z ∧ Z.cell? ⟨w.heap.size, 0, none⟩ = some (.int .i64 e.kind) ∧ Z.cell? ⟨w.heap.size, 1, none⟩ = some (.string (text e.s)) ∧ Z.cell? ⟨w.heap.size, 2, none⟩ = some (.slice ao an ac) ∧ Z.cell? ⟨w.heap.size, 3, none⟩ = some (.slice po pn pc))) (first | exact HSx | exact HS0) (first
    | (go_at_call 14
       with_reducible refine (SC.out _ ?_).mono ?_
       (first | exact HSx.1 | exact HS0.1)
       rintro ev wx ⟨rfl, hb⟩
       first | have HSx := HS.out _ (bt HSx.1 hb) | have HSx := HS.out _ (bt HS0.1 hb))
    | (go_at_call 15
       with_reducible refine (RS.out _ ?_).mono ?_
       (first | exact HSx.1 | exact HS0.1)
       rintro ev wx ⟨rfl, hb⟩
       first | have HSx := HS.out _ (bt HSx.1 hb) | have HSx := HS.out _ (bt HS0.1 hb))
    | (go_at_call 17
       with_reducible refine (FX.out _ ?_).mono ?_
       (first | exact HSx.1 | exact HS0.1)
       rintro ev wx ⟨vx, rfl, hvx, hb⟩
       have HVX := hid hvx
       clear hvx
       first | have HSx := HS.out _ (bt HSx.1 hb) | have HSx := HS.out _ (bt HS0.1 hb))
    | (go_at_call 18
       with_reducible refine (RF.out _ ?_).mono ?_
       (first | exact HSx.1 | exact HS0.1)
       rintro ev wx ⟨ro, rn, rc, rfl, hvy, hb⟩
       have HVY := hid hvy
       have HVZ := hid (HVX.out.below hb (Nat.le_refl _))
       clear hvy
       first | have HSx := HS.out _ (bt HSx.1 hb) | have HSx := HS.out _ (bt HS0.1 hb))
    | (go_at_call 16
       refine (SM.out _ _ _ HVZ.out HVY.out).mono ?_
       rintro ev wx ⟨rfl, hb⟩
       first | have HSx := HS.out _ (bt HSx.1 hb) | have HSx := HS.out _ (bt HS0.1 hb)))
  all_goals go_wp2
  all_goals go_ret
  all_goals exact ⟨rfl, bt HEND.out HSx.1⟩
end Go.Proofs.YtlhhjocfbafoeaaGreatDoor.Xp
