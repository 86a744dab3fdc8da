/- Layer 9: the walk of the statement ScopeMakes. -/
import Derived.Test.YthggoohchjifnaaDoorScW
set_option linter.unusedVariables false
set_option linter.unusedSimpArgs false
namespace Go.Proofs.YthggoohchjifnaaDoor.Sc
open Go Go.Proofs.YthggoohchjifnaaDoor Go.Proofs.YthggoohchjifnaaDoor.Utf Go.Proofs.YthggoohchjifnaaDoor.Names Go.RowKit
set_option maxRecDepth 100000

set_option maxHeartbeats 8000000 in
theorem ScopeMakes_walk (v0 v1 : Value) (l more : List (List UInt8)) (w : World) (h0 : Strs w v0 l) (h1 : Strs w v1 more) (hb : strMass l + strMass more ≤ 1048576) :
    Calls Tryd.prog 3 #[v0, v1] w fun e w' => e = .returned (.bool true) ∧ Below w.heap.size w w' := by
  obtain ⟨a0, n0, c0, rfl⟩ := slice_of h0
  obtain ⟨a1, n1, c1, rfl⟩ := slice_of h1
  have hmass : massG [l, more] ≤ 1048576 := by have := massG_mass [l, more]; simp at this; omega
  have hG := fun (w1 : World) (hb1 : Below w.heap.size w w1) => by
    have hba : Below w1.heap.size w1 (w1.alloc (.cells #[.slice a0 n0 c0, .slice a1 n1 c1] 22)) := (Below.refl _ w1).alloc (Nat.le_refl _) _
    have h2 := Row.ofBuild (sz := 1) w1 #[.slice a0 n0 c0, .slice a1 n1 c1] 22 2 rfl (by omega)
    exact Great_any _ [.slice a0 n0 c0, .slice a1 n1 c1] [l, more] _ h2 rfl (fun i hi => by
      rcases i with _ | _ | i
      · exact (h0.below hb1 (Nat.le_refl _)).below hba (Nat.le_refl _)
      · exact (h1.below hb1 (Nat.le_refl _)).below hba (Nat.le_refl _)
      · exfalso; simp at hi; omega) (by omega)
  have HBA := hid (fun (w1 : World) => (show Below w1.heap.size w1 (w1.alloc (.cells #[.slice a0 n0 c0, .slice a1 n1 c1] 22)) from (Below.refl _ w1).alloc (Nat.le_refl _) _))
  have H0 := hid h0
  have H1 := hid h1
  have HG := hid hG
  clear h0 h1 hb hmass hG
  by_cases hgr : 400 < massG [l, more]
  · have HGR := hid (decide_eq_true hgr)
    clear hgr
    go_enter Tryd.func3, Tryd.ntmps3
    go_wp2_with fail
    refine (alive_any w).mono ?_
    rintro e w1 ⟨rfl, hb1⟩
    go_wp2_with fail
    refine (HG.out w1 hb1).mono ?_
    rw [HGR.out]
    rintro e w2 ⟨rfl, rfl⟩
    have HB2 := hid (hb1.trans ((HBA.out w1).mono hb1.size))
    clear hb1
    go_wp2_with fail
    refine (alive_any _).mono ?_
    rintro e w3 ⟨rfl, hb3⟩
    have HB3 := hid (bt HB2.out hb3)
    go_wp2
    go_ret
    exact ⟨rfl, HB3.out⟩
  · have HGR := hid (decide_eq_false hgr)
    have HSL := hid (And.intro (short_of hgr (l := l) (by simp)) (short_of hgr (l := more) (by simp)))
    clear hgr
    go_enter Tryd.func3, Tryd.ntmps3
    go_wp2_with fail
    refine (alive_any w).mono ?_
    rintro e w1 ⟨rfl, hb1⟩
    go_wp2_with fail
    refine (HG.out w1 hb1).mono ?_
    rw [HGR.out]
    rintro e w2 ⟨rfl, rfl⟩
    have HB2 := hid (hb1.trans ((HBA.out w1).mono hb1.size))
    clear hb1
    go_wp2_with fail
    refine (New_any _ l _ (H0.out.below HB2.out (Nat.le_refl _)) (by have := HSL.out.1.1; omega) (fun x hx => by have := HSL.out.1.2 x hx; omega)).mono ?_
    rintro e w3 ⟨po, er, rfl, hg, hb3⟩
    have HB3 := hid (bt HB2.out hb3)
    clear hb3
    have HR := hid (RWith_any (.slice none 0 0) (.slice a0 n0 c0) [] l w3 (Row.nil 1 w3) (H0.out.below HB3.out (Nat.le_refl _)) (by simp [Rise]) (by simp) (by have := HSL.out.1.1; omega) (fun x hx => by have := HSL.out.1.2 x hx; omega))
    rcases hg with ⟨rfl, rfl, h⟩ | ⟨rfl, rfl, _, h⟩ | ⟨rfl, ⟨b, rfl⟩, hall, hfew, hs⟩
    · have HA := hid h
      clear h
      go_wp2_with fail
      refine HR.out.mono ?_
      rintro e w4 ⟨r, er, rfl, hb4, hc⟩
      have HB4 := hid (bt HB3.out hb4)
      clear hb4
      rcases hc with ⟨rfl, rfl, _⟩ | ⟨rfl, h, _⟩
      · go_wp2
        go_ret
        exact ⟨rfl, HB4.out⟩
      · exfalso
        rw [HA.out] at h
        exact Bool.noConfusion h
    · exfalso
      have h5 := grows_by (N := []) (m := l) (by simp [Rise])
      have := HSL.out.1.1
      simp at h5
      omega
    obtain ⟨N, hN⟩ : ∃ N, put [] l = N := ⟨_, rfl⟩
    have hNl : N.length ≤ 500 := by
      have h5 := grows_by (N := []) (m := l) (by simp [Rise])
      have := HSL.out.1.1
      rw [hN] at h5
      simp at h5
      omega
    rw [hN] at hs HR
    have HS := hid hs
    have HA := hid hall
    clear hs hall hfew hN
    go_wp2_with fail
    refine HR.out.mono ?_
    rintro e w4 ⟨vw, er, rfl, hb4, hc⟩
    have HB4 := hid (bt HB3.out hb4)
    have HS4 := hid (HS.out.later hb4)
    clear hb4
    rcases hc with ⟨rfl, rfl, h⟩ | ⟨rfl, _, hw⟩
    · exfalso
      rw [HA.out] at h
      exact Bool.noConfusion h
    have hlw := fun W => hw.len (P := Tryd.prog) 22 3 9 Tryd.underlying22 W
    have HW := hid hw
    clear hw
    go_wp2_with fail
    refine (With_any _ N _ more _ HS4.out (H1.out.below HB4.out (Nat.le_refl _)) (by have := HSL.out.2.1; omega) (fun x hx => by have := HSL.out.2.2 x hx; omega)).mono ?_
    rintro e w5 ⟨pu, eu, rfl, hgu, hb5⟩
    have HB5 := hid (bt HB4.out hb5)
    have HS5 := hid (HS4.out.later hb5)
    have HW5 := hid (HW.out.below hb5 (Nat.le_refl _))
    clear hb5
    have HR5 := hid (RWith_any vw (.slice a1 n1 c1) N more w5 HW5.out (H1.out.below HB5.out (Nat.le_refl _)) HS5.out.rise (by omega) (by have := HSL.out.2.1; omega) (fun x hx => by have := HSL.out.2.2 x hx; omega))
    have HU := hid hgu
    clear hgu
    go_wp2_with fail
    refine HR5.out.mono ?_
    rintro e w6 ⟨va, ea, rfl, hb6, hc⟩
    have HB6 := hid (bt HB5.out hb6)
    have HS6 := hid (HS5.out.later hb6)
    have HW6 := hid (HW5.out.below hb6 (Nat.le_refl _))
    have HB56 := hid hb6
    have HC := hid hc
    clear hb6 hc
    rcases HU.out with ⟨rfl, rfl, h⟩ | ⟨rfl, rfl, _, h⟩ | ⟨rfl, ⟨b2, rfl⟩, hall, hfew, ht⟩
    · rcases HC.out with ⟨rfl, rfl, _⟩ | ⟨rfl, h2, _⟩
      · clear h HU HC
        go_wp2_with fail
        refine (names_any _ N _ HS6.out).mono ?_
        rintro e w7 ⟨vn, rfl, ho7, hb7⟩
        have HB7 := hid (bt HB6.out hb7)
        have HS7 := hid (HS6.out.later hb7)
        have HW7 := hid (HW6.out.below hb7 (Nat.le_refl _))
        have HO7 := hid (ho7.strs (by omega))
        clear ho7 hb7
        go_wp2_with fail
        refine (SSame_any _ _ N N _ HO7.out HW7.out).mono ?_
        rw [decide_eq_true rfl]
        rintro e w8 ⟨rfl, hb8⟩
        have HB8 := hid (bt HB7.out hb8)
        have HL8 := hid (SLen_any _ N w8 (HS7.out.later hb8))
        clear hb8
        generalize N.length = n at *
        go_wp2_with fail
        refine HL8.out.mono ?_
        rintro e w9 ⟨rfl, hw9⟩
        subst hw9
        go_wp2
        go_ret
        exact ⟨rfl, HB8.out⟩
      · exfalso
        rw [h] at h2
        exact Bool.noConfusion h2
    · exfalso
      have h5 := grows_by (m := more) HS5.out.rise
      have := HSL.out.2.1
      omega
    · rcases HC.out with ⟨_, _, h2⟩ | ⟨rfl, _, hva⟩
      · exfalso
        rw [hall] at h2
        exact Bool.noConfusion h2
      obtain ⟨M, hM⟩ : ∃ M, put N more = M := ⟨_, rfl⟩
      rw [hM] at ht hva hfew
      have HT6 := hid (ht.later HB56.out)
      have hla := fun W => hva.len (P := Tryd.prog) 22 3 9 Tryd.underlying22 W
      have HVA := hid hva
      clear HU HC ht hva hall hM
      go_wp2_with fail
      refine (names_any _ M _ HT6.out).mono ?_
      rintro e w7 ⟨vn, rfl, ho7, hb7⟩
      have HB7 := hid (bt HB6.out hb7)
      have HS7 := hid (HS6.out.later hb7)
      have HW7 := hid (HW6.out.below hb7 (Nat.le_refl _))
      have HT7 := hid (HT6.out.later hb7)
      have HVA7 := hid (HVA.out.below hb7 (Nat.le_refl _))
      have HO7 := hid (ho7.strs (by omega))
      clear ho7 hb7
      go_wp2_with fail
      refine (SSame_any _ _ M M _ HO7.out HVA7.out).mono ?_
      rw [decide_eq_true rfl]
      rintro e w8 ⟨rfl, hb8⟩
      have HB8 := hid (bt HB7.out hb8)
      have HS8 := hid (HS7.out.later hb8)
      have HW8 := hid (HW7.out.below hb8 (Nat.le_refl _))
      have HL8 := hid (SLen_any _ M w8 (HT7.out.later hb8))
      clear hb8
      generalize M.length = m at *
      go_wp2_with fail
      refine HL8.out.mono ?_
      rintro e w9 ⟨rfl, hw9⟩
      subst hw9
      go_wp2_with fail
      refine (names_any _ N _ HS8.out).mono ?_
      rintro e w10 ⟨vn2, rfl, ho10, hb10⟩
      have HB10 := hid (bt HB8.out hb10)
      have HS10 := hid (HS8.out.later hb10)
      have HW10 := hid (HW8.out.below hb10 (Nat.le_refl _))
      have HO10 := hid (ho10.strs (by omega))
      clear ho10 hb10
      go_wp2_with fail
      refine (SSame_any _ _ N N _ HO10.out HW10.out).mono ?_
      rw [decide_eq_true rfl]
      rintro e w11 ⟨rfl, hb11⟩
      have HB11 := hid (bt HB10.out hb11)
      have HL11 := hid (SLen_any _ N w11 (HS10.out.later hb11))
      clear hb11
      generalize N.length = n at *
      go_wp2_with fail
      refine HL11.out.mono ?_
      rintro e w12 ⟨rfl, hw12⟩
      subst hw12
      go_wp2
      go_ret
      exact ⟨rfl, HB11.out⟩
end Go.Proofs.YthggoohchjifnaaDoor.Sc
