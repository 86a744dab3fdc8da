/- Layer 9: the walk of the statement ScopeNone. -/
import Derived.Test.YthggoohchjifnaaDoorScP
set_option linter.unusedVariables false
set_option linter.unusedSimpArgs false
namespace Go.Proofs.YthggoohchjifnaaDoor.Sc
open Go Go.Proofs.YthggoohchjifnaaDoor Go.Proofs.YthggoohchjifnaaDoor.Utf Go.Proofs.YthggoohchjifnaaDoor.Names Go.RowKit
set_option maxRecDepth 100000

theorem put_one (x : List UInt8) : put [] [x] = [x] := by simp [put, ins]

set_option maxHeartbeats 4000000 in
theorem ScopeNone_walk (v0 : Value) (ws : List (List UInt8)) (s1 : ByteArray) (hs1 : s1.size ≤ 140737488351232) (w : World) (h0 : Strs w v0 ws) :
    Calls Tryd.prog 5 #[v0, .string s1] w fun e w' => e = .returned (.bool true) ∧ Below w.heap.size w w' := by
  obtain ⟨nm, rfl, hnm⟩ := name_of s1
  rw [← hnm] at hs1
  obtain ⟨a0, n0, c0, rfl⟩ := slice_of h0
  have hG : Calls Tryd.prog 11 #[.slice (some ⟨w.heap.size, 0, none⟩) 1 1] (w.alloc (.cells #[.slice a0 n0 c0] 22)) fun e w' => ∃ m : Bool, e = .returned (.bool m) ∧ w' = w.alloc (.cells #[.slice a0 n0 c0] 22) := by
    have hba : Below w.heap.size w (w.alloc (.cells #[.slice a0 n0 c0] 22)) := (Below.refl _ w).alloc (Nat.le_refl _) _
    have h2 := Row.ofBuild (sz := 1) w #[.slice a0 n0 c0] 22 1 rfl (by omega)
    exact Great_loose _ [.slice a0 n0 c0] [ws] _ h2 (fun i hi => by
      rcases i with _ | i
      · exact h0.below hba (Nat.le_refl _)
      · exfalso; simp at hi)
  have hb2 : Below w.heap.size w (w.alloc (.cells #[.slice a0 n0 c0] 22)) := (Below.refl _ w).alloc (Nat.le_refl _) _
  have HG := hid hG
  have HB2 := hid hb2
  clear hG hb2 h0
  go_enter Tryd.func5, Tryd.ntmps5
  go_wp2_with fail
  refine HG.out.mono ?_
  rintro e w2 ⟨m, rfl, hw2⟩
  have HB3 : Hid (Below w.heap.size w w2) := hid (by rw [hw2]; exact HB2.out)
  clear hw2
  cases m
  · by_cases hbig : 500 < nm.length
    · have hbz : (500 : Int) < ((text nm).size : Int) := by rw [text_size]; omega
      clear hbig hnm hs1
      go_wp2_with fail
      refine (alive_any _).mono ?_
      rintro e w3 ⟨rfl, hb3⟩
      have HB4 := hid (bt HB3.out hb3)
      go_wp2
      go_ret
      exact ⟨rfl, HB4.out⟩
    · have hbz : ¬ (500 : Int) < ((text nm).size : Int) := by rw [text_size]; omega
      have HNM := hid (show nm.length ≤ 100000 by omega)
      clear hbig hnm hs1
      go_wp2_with fail
      refine (Longest_none _ w2).mono ?_
      rintro e w3 ⟨rfl, rfl⟩
      go_wp2_with fail
      have hba : Below w3.heap.size w3 (w3.alloc (.cells #[.string (text nm)] 9)) := (Below.refl _ w3).alloc (Nat.le_refl _) _
      have h1 := Row.ofBuild (sz := 1) w3 #[.string (text nm)] 9 1 rfl (by omega)
      refine (With_nil _ [nm] _ (show Strs _ _ [nm] from h1) (by simp) (fun x hx => by rw [List.mem_singleton] at hx; subst hx; exact HNM.out)).mono ?_
      rw [show (GotSc [] [nm]) = GotSc [] [nm] from rfl]
      rintro e w4 ⟨po, er, rfl, hg, hb4⟩
      have HGT := hid hg
      have HB4 := hid (HB3.out.trans ((hba.trans (hb4.mono hba.size)).mono HB3.out.size))
      clear hg hb4 hba h1
      go_wp2_with fail
      refine (alive_any _).mono ?_
      rintro e w5 ⟨rfl, hb5⟩
      have HB5 := hid (bt HB4.out hb5)
      have HA5 := hid hb5
      clear hb5
      go_wp2_with fail
      refine (SHas_any none [] nm _ (ScAt.none _)).mono ?_
      rw [show decide (nm ∈ ([] : List (List UInt8))) = false by simp]
      rintro e w6 ⟨rfl, q, rfl⟩
      have HB6 := hid (below_drewN w HB5.out q)
      have HA6 := hid (below_drewN w4 HA5.out q)
      generalize w5.drewN q = w6 at *
      have htn : ((text ([] : List UInt8)).toList != []) = false := by rw [tlist]; rfl
      have htn2 : ((text ([] : List UInt8)).toList == []) = true := by rw [tlist]; rfl
      go_wp2_with fail
      refine (SLen_any none [] w6 (ScAt.none _)).mono ?_
      rintro e w7 ⟨rfl, rfl⟩
      go_wp2_with fail
      refine (RRight_any nm HNM.out _).mono ?_
      rintro e w8 ⟨rfl, hb8⟩
      have HB8 := hid (bt HB6.out hb8)
      have HA8 := hid (bt HA6.out hb8)
      clear hb8
      cases hr : rightB nm
      · have hgt := HGT.out
        rcases hgt with ⟨rfl, rfl, h⟩ | ⟨_, _, h, _⟩ | ⟨_, _, h, _⟩
        · clear h hr
          go_wp2
          go_ret
          exact ⟨rfl, HB8.out⟩
        · simp [hr] at h
        · simp [hr] at h
      · have hgt := HGT.out
        rw [show GotSc [] [nm] = GotSc [] [nm] from rfl] at hgt
        rcases hgt with ⟨_, _, h⟩ | ⟨_, _, _, h⟩ | ⟨rfl, ⟨b, rfl⟩, _, _, hs⟩
        · simp [hr] at h
        · rw [put_one] at h; simp at h
        · rw [put_one] at hs
          have HS8 := hid (hs.later HA8.out)
          clear hs hr
          go_wp2_with fail
          refine (SHas_any _ [nm] nm _ HS8.out).mono ?_
          rw [show decide (nm ∈ [nm]) = true by simp]
          rintro e w9 ⟨rfl, q9, rfl⟩
          have HB9 := hid (below_drewN w HB8.out q9)
          have HS9 := hid (HS8.out.later (below_drewN w8 (Below.refl _ _) q9))
          generalize w8.drewN q9 = w9 at *
          go_wp2_with fail
          refine (SLen_any _ [nm] w9 HS9.out).mono ?_
          rintro e w10 ⟨rfl, rfl⟩
          go_wp2_with fail
          refine (names_any _ [nm] _ HS9.out).mono ?_
          rintro e w11 ⟨v, rfl, ho, hb11⟩
          have HB11 := hid (bt HB9.out hb11)
          have HV := hid (ho.strs (by simp))
          clear ho hb11
          obtain ⟨av, nv, cv, rfl⟩ := slice_of HV.out
          go_wp2_with fail
          have hba : Below w11.heap.size w11 (w11.alloc (.cells #[.string (text nm)] 9)) := (Below.refl _ w11).alloc (Nat.le_refl _) _
          have h1 := Row.ofBuild (sz := 1) w11 #[.string (text nm)] 9 1 rfl (by omega)
          refine (SSame_any _ _ [nm] [nm] _ (HV.out.below hba (Nat.le_refl _)) (show Strs _ _ [nm] from h1)).mono ?_
          rw [decide_eq_true rfl]
          rintro e w12 ⟨rfl, hb12⟩
          have HB12 := hid (HB11.out.trans ((hba.trans (hb12.mono hba.size)).mono HB11.out.size))
          clear hba h1 hb12
          go_wp2
          go_ret
          exact ⟨rfl, HB12.out⟩
  · clear hnm hs1
    go_wp2_with fail
    refine (alive_any _).mono ?_
    rintro e w3 ⟨rfl, hb3⟩
    have HB4 := hid (bt HB3.out hb3)
    go_wp2
    go_ret
    exact ⟨rfl, HB4.out⟩
end Go.Proofs.YthggoohchjifnaaDoor.Sc
