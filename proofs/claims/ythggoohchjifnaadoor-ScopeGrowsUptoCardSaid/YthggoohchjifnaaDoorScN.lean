/- Layer 9: the walk of the statement ScopeGrows. -/
import Derived.Test.YthggoohchjifnaaDoorScH
import Derived.Test.YthggoohchjifnaaDoorScL
set_option linter.unusedVariables false
set_option linter.unusedSimpArgs false
namespace Go.Proofs.YthggoohchjifnaaDoor.Sc
open Go Go.Proofs.YthggoohchjifnaaDoor Go.Proofs.YthggoohchjifnaaDoor.Utf Go.Proofs.YthggoohchjifnaaDoor.Names Go.RowKit
set_option maxRecDepth 100000

set_option maxHeartbeats 4000000 in
theorem ScopeGrows_walk (v0 v1 v2 : Value) (l more ws : List (List UInt8)) (w : World) (h0 : Strs w v0 l) (h1 : Strs w v1 more) (h2 : Strs w v2 ws) (hb : strMass l + strMass more + strMass ws ≤ 1048576) :
    Calls Tryd.prog 6 #[v0, v1, v2] w fun e w' => e = .returned (.bool true) ∧ Below w.heap.size w w' := by
  obtain ⟨a0, n0, c0, rfl⟩ := slice_of h0
  obtain ⟨a1, n1, c1, rfl⟩ := slice_of h1
  obtain ⟨a2, n2, c2, rfl⟩ := slice_of h2
  have hmass : massG [l, more, ws] ≤ 1048576 := by have := massG_mass [l, more, ws]; simp at this; omega
  have hG := fun (w1 : World) (hb1 : Below w.heap.size w w1) => by
    have hba : Below w1.heap.size w1 (w1.alloc (.cells #[.slice a0 n0 c0, .slice a1 n1 c1, .slice a2 n2 c2] 22)) := (Below.refl _ w1).alloc (Nat.le_refl _) _
    have hrow := Row.ofBuild (sz := 1) w1 #[.slice a0 n0 c0, .slice a1 n1 c1, .slice a2 n2 c2] 22 3 rfl (by omega)
    exact Great_any _ [.slice a0 n0 c0, .slice a1 n1 c1, .slice a2 n2 c2] [l, more, ws] _ hrow rfl (fun i hi => by
      rcases i with _ | _ | _ | i
      · exact (h0.below hb1 (Nat.le_refl _)).below hba (Nat.le_refl _)
      · exact (h1.below hb1 (Nat.le_refl _)).below hba (Nat.le_refl _)
      · exact (h2.below hb1 (Nat.le_refl _)).below hba (Nat.le_refl _)
      · exfalso; simp at hi; omega) (by omega)
  have HBA := hid (fun (w1 : World) => (show Below w1.heap.size w1 (w1.alloc (.cells #[.slice a0 n0 c0, .slice a1 n1 c1, .slice a2 n2 c2] 22)) from (Below.refl _ w1).alloc (Nat.le_refl _) _))
  have H0 := hid h0
  have H1 := hid h1
  have H2 := hid h2
  have HG := hid hG
  have HSW := hid (Nat.le_trans (said_mass ws) (by omega : strMass ws ≤ 1000000000))
  clear h0 h1 h2 hb hmass hG
  by_cases hgr : 400 < massG [l, more, ws]
  · have HGR := hid (decide_eq_true hgr)
    clear hgr
    go_enter Tryd.func6, Tryd.ntmps6
    go_wp2_with fail
    refine (alive_any w).mono ?_
    rintro e w1 ⟨rfl, hb1⟩
    go_wp2_with fail
    refine (HG.out w1 hb1).mono ?_
    rw [HGR.out]
    rintro e w2 ⟨rfl, rfl⟩
    have HB2 := hid (hb1.trans ((HBA.out w1).mono hb1.size))
    clear hb1
    go_wp2_with fail
    refine (alive_any _).mono ?_
    rintro e w3 ⟨rfl, hb3⟩
    have HB3 := hid (bt HB2.out hb3)
    go_wp2
    go_ret
    exact ⟨rfl, HB3.out⟩
  · have HGR := hid (decide_eq_false hgr)
    have HSL := hid (And.intro (short_of hgr (l := l) (by simp)) (short_of hgr (l := more) (by simp)))
    clear hgr
    go_enter Tryd.func6, Tryd.ntmps6
    go_wp2_with fail
    refine (alive_any w).mono ?_
    rintro e w1 ⟨rfl, hb1⟩
    go_wp2_with fail
    refine (HG.out w1 hb1).mono ?_
    rw [HGR.out]
    rintro e w2 ⟨rfl, rfl⟩
    have HB2 := hid (hb1.trans ((HBA.out w1).mono hb1.size))
    clear hb1
    go_wp2_with fail
    refine (New_any _ l _ (H0.out.below HB2.out (Nat.le_refl _)) (by have := HSL.out.1.1; omega) (fun x hx => by have := HSL.out.1.2 x hx; omega)).mono ?_
    rintro e w3 ⟨po, er, rfl, hg, hb3⟩
    have HB3 := hid (bt HB2.out hb3)
    clear hb3
    rcases hg with ⟨rfl, rfl, h⟩ | ⟨rfl, rfl, _, h⟩ | ⟨rfl, ⟨b, rfl⟩, hall, hfew, hs⟩
    · clear h
      go_wp2
      go_ret
      exact ⟨rfl, HB3.out⟩
    · clear h
      go_wp2
      go_ret
      exact ⟨rfl, HB3.out⟩
    obtain ⟨N1, hN1⟩ : ∃ N1, put [] l = N1 := ⟨_, rfl⟩
    rw [hN1] at hs
    have HS := hid hs
    clear hs hall hfew hN1
    go_wp2_with fail
    refine (With_any _ N1 _ more _ HS.out (H1.out.below HB3.out (Nat.le_refl _)) (by have := HSL.out.2.1; omega) (fun x hx => by have := HSL.out.2.2 x hx; omega)).mono ?_
    rintro e w4 ⟨po, er, rfl, hg, hb4⟩
    have HB4 := hid (bt HB3.out hb4)
    have HS4 := hid (HS.out.later hb4)
    clear hb4
    rcases hg with ⟨rfl, rfl, h⟩ | ⟨rfl, rfl, _, h⟩ | ⟨rfl, ⟨b2, rfl⟩, hall, hfew, ht⟩
    · clear h
      go_wp2
      go_ret
      exact ⟨rfl, HB4.out⟩
    · clear h
      go_wp2
      go_ret
      exact ⟨rfl, HB4.out⟩
    obtain ⟨N2, hN2⟩ : ∃ N2, put N1 more = N2 := ⟨_, rfl⟩
    have hsub : ∀ z ∈ N1, z ∈ N2 := fun z hz => by rw [← hN2, put_mem]; exact .inl hz
    rw [hN2] at ht
    have HT := hid ht
    have hmono := longN_mono hsub ws ws.length
    have HM1 := hid (longN_mem N1 ws ws.length)
    have HM2 := hid (longN_mem N2 ws ws.length)
    have HSUB := hid hsub
    clear ht hall hfew hN2 hsub
    go_wp2_with fail
    refine (SLongest_any _ N1 _ ws _ HS4.out (H2.out.below HB4.out (Nat.le_refl _)) HSW.out).mono ?_
    rintro e w5 ⟨rfl, hb5⟩
    have HB5 := hid (bt HB4.out hb5)
    have HS5 := hid (HS4.out.later hb5)
    have HT5 := hid (HT.out.later hb5)
    clear hb5
    go_wp2_with fail
    refine (SLongest_any _ N2 _ ws _ HT5.out (H2.out.below HB5.out (Nat.le_refl _)) HSW.out).mono ?_
    rintro e w6 ⟨rfl, hb6⟩
    have HB6 := hid (bt HB5.out hb6)
    have HS6 := hid (HS5.out.later hb6)
    have HT6 := hid (HT5.out.later hb6)
    clear hb6
    generalize longN N1 ws ws.length = K1 at *
    generalize longN N2 ws ws.length = K2 at *
    have mem1 : ∀ q, K1 ≠ 0 → Calls Tryd.prog 20 #[.pointer (some ⟨b, 0, none⟩), .string (text (said (ws.take K1)))] (w6.drewN q) fun e w' => e = .returned (.bool true) ∧ ∃ n, w' = (w6.drewN q).drewN n := fun q hk => by
      have := SHas_any (some ⟨b, 0, none⟩) N1 (said (ws.take K1)) (w6.drewN q) (HS6.out.later (below_drewN w6 (Below.refl _ _) q))
      rw [decide_eq_true (HM1.out hk)] at this
      exact this
    have mem2 : ∀ q k, (k = K1 ∨ k = K2) → k ≠ 0 → Calls Tryd.prog 20 #[.pointer (some ⟨b2, 0, none⟩), .string (text (said (ws.take k)))] (w6.drewN q) fun e w' => e = .returned (.bool true) ∧ ∃ n, w' = (w6.drewN q).drewN n := fun q k hk0 hk => by
      have := SHas_any (some ⟨b2, 0, none⟩) N2 (said (ws.take k)) (w6.drewN q) (HT6.out.later (below_drewN w6 (Below.refl _ _) q))
      rw [decide_eq_true (by rcases hk0 with rfl | rfl; exact HSUB.out _ (HM1.out hk); exact HM2.out hk)] at this
      exact this
    have M1 := hid mem1
    have M2 := hid mem2
    clear mem1 mem2
    have e0 : w6 = w6.drewN 0 := rfl
    have E0 := hid e0
    clear e0
    by_cases hk1 : K1 = 0
    · have i1 : ((K1 : Int) == 0) = true := by rw [hk1]; rfl
      by_cases hk2 : K2 = 0
      · subst hk1
        have hk2' : K2 = 0 := hk2
        subst hk2'
        have htt : ((text (said (ws.take 0))).toList == (text (said (ws.take 0))).toList) = true := by simp
        clear i1 hk2 hmono
        generalize said (ws.take 0) = S at *
        go_wp2
        go_ret
        exact ⟨rfl, HB6.out⟩
      · subst hk1
        have i2 : ((K2 : Int) == 0) = false := beq_eq_false_iff_ne.2 (by omega)
        have i3 : (0 : Int) < (K2 : Int) := by omega
        have i4 : (0 : Int) ≤ (K2 : Int) := by omega
        have HK2 := hid hk2
        clear hk2 i1 hmono
        go_wp2_with fail
        refine (M2.out 0 K2 (.inr rfl) HK2.out).mono ?_
        rintro e w7 ⟨rfl, q, rfl⟩
        go_wp2
        go_ret
        exact ⟨rfl, below_drewN w HB6.out _⟩
    · have i1 : ((K1 : Int) == 0) = false := beq_eq_false_iff_ne.2 (by omega)
      have i2 : ((K2 : Int) == 0) = false := beq_eq_false_iff_ne.2 (by omega)
      have i4 : (K1 : Int) ≤ (K2 : Int) := by omega
      have HK1 := hid hk1
      have HK2 := hid (show K2 ≠ 0 by omega)
      clear hk1
      by_cases hlt : K1 < K2
      · have i3 : (K1 : Int) < (K2 : Int) := by omega
        clear hlt hmono
        go_wp2_with fail
        refine (M1.out 0 HK1.out).mono ?_
        rintro e w7 ⟨rfl, q, rfl⟩
        go_wp2_with fail
        refine (M2.out q K1 (.inl rfl) HK1.out).mono ?_
        rintro e w8 ⟨rfl, q2, rfl⟩
        go_wp2_with fail
        refine (M2.out (q + q2) K2 (.inr rfl) HK2.out).mono ?_
        rintro e w9 ⟨rfl, q3, rfl⟩
        go_wp2
        go_ret
        exact ⟨rfl, below_drewN w HB6.out _⟩
      · obtain rfl : K1 = K2 := by omega
        have i3 : ¬ (K1 : Int) < (K1 : Int) := by omega
        have htt : ((text (said (ws.take K1))).toList == (text (said (ws.take K1))).toList) = true := by simp
        clear hlt hmono i2 i4
        go_wp2_with fail
        refine (M1.out 0 HK1.out).mono ?_
        rintro e w7 ⟨rfl, q, rfl⟩
        go_wp2_with fail
        refine (M2.out q K1 (.inl rfl) HK1.out).mono ?_
        rintro e w8 ⟨rfl, q2, rfl⟩
        go_wp2_with fail
        refine (M2.out (q + q2) K1 (.inr rfl) HK2.out).mono ?_
        rintro e w9 ⟨rfl, q3, rfl⟩
        go_wp2
        go_ret
        exact ⟨rfl, below_drewN w HB6.out _⟩
end Go.Proofs.YthggoohchjifnaaDoor.Sc
