/- Layer 9: the walk of the statement ScopeWords. -/
import Derived.Test.YthggoohchjifnaaDoorScP
set_option linter.unusedVariables false
set_option linter.unusedSimpArgs false
namespace Go.Proofs.YthggoohchjifnaaDoor.Sc
open Go Go.Proofs.YthggoohchjifnaaDoor Go.Proofs.YthggoohchjifnaaDoor.Utf Go.Proofs.YthggoohchjifnaaDoor.Names Go.RowKit
set_option maxRecDepth 100000

theorem said_pre {ws : List (List UInt8)} {j k : Nat} (hjk : j ≤ k) (hk : k ≤ ws.length) : said (ws.take j) <+: said (ws.take k) := by
  obtain ⟨d, rfl⟩ : ∃ d, k = j + d := ⟨k - j, by omega⟩
  clear hjk
  induction d with
  | zero => exact List.prefix_refl _
  | succ d ih =>
    rw [← Nat.add_assoc, said_take (by omega)]
    exact (ih (by omega)).trans (List.prefix_append _ _)
theorem said_more {ws : List (List UInt8)} {j k : Nat} (hj : j ≠ 0) (hjk : j < k) (hk : k ≤ ws.length) : (said (ws.take j)).length < (said (ws.take k)).length := by
  have h1 := (said_pre (show j + 1 ≤ k by omega) hk).length_le
  rw [said_take (show j < ws.length by omega), if_neg hj, List.length_append, List.length_cons] at h1
  omega
theorem mass_said : ∀ ws : List (List UInt8), strMass ws ≤ (said ws).length + 1
  | [] => by simp [strMass]
  | [a] => by simp [strMass, said]; omega
  | a :: b :: r => by
    have := mass_said (b :: r)
    rw [strMass_cons]
    simp only [said, List.length_append, List.length_cons] at this ⊢
    omega
theorem strMass_app (a b : List (List UInt8)) : strMass (a ++ b) = strMass a + strMass b := by simp [strMass]
theorem words_of {x : List UInt8} (h : rightB x = true) : wordsO x = some (pieces x) ∧ said (pieces x) = x ∧ pieces x ≠ [] := by
  refine ⟨?_, by rw [said_joined]; exact joined_cut x, cutAt_ne 32 x⟩
  have : (wordsO x).isSome = true := h
  unfold wordsO at this ⊢
  split at this
  · rename_i hp; rw [if_pos hp]
  · cases this

set_option maxHeartbeats 8000000 in
theorem ScopeWords_walk (v0 v1 : Value) (l behind : List (List UInt8)) (w : World) (h0 : Strs w v0 l) (h1 : Strs w v1 behind) (hb : strMass l + strMass behind ≤ 1048576) :
    Calls Tryd.prog 7 #[v0, v1] w fun e w' => e = .returned (.bool true) ∧ Below w.heap.size w w' := by
  obtain ⟨i0, hi, hz0, hz1, hz2⟩ := info_parts infoT
  have underS := Tryd.underlying22
  obtain ⟨a0, n0, c0, rfl⟩ := slice_of h0
  obtain ⟨a1, n1, c1, rfl⟩ := slice_of h1
  have hmass : massG [l, behind] ≤ 1048576 := by have := massG_mass [l, behind]; simp at this; omega
  have hG := fun (w1 : World) (hb1 : Below w.heap.size w w1) => by
    have hba : Below w1.heap.size w1 (w1.alloc (.cells #[.slice a0 n0 c0, .slice a1 n1 c1] 22)) := (Below.refl _ w1).alloc (Nat.le_refl _) _
    have h2 := Row.ofBuild (sz := 1) w1 #[.slice a0 n0 c0, .slice a1 n1 c1] 22 2 rfl (by omega)
    exact Great_any _ [.slice a0 n0 c0, .slice a1 n1 c1] [l, behind] _ h2 rfl (fun i hi => by
      rcases i with _ | _ | i
      · exact (h0.below hb1 (Nat.le_refl _)).below hba (Nat.le_refl _)
      · exact (h1.below hb1 (Nat.le_refl _)).below hba (Nat.le_refl _)
      · exfalso; simp at hi; omega) (by omega)
  have HBA := hid (fun (w1 : World) => (show Below w1.heap.size w1 (w1.alloc (.cells #[.slice a0 n0 c0, .slice a1 n1 c1] 22)) from (Below.refl _ w1).alloc (Nat.le_refl _) _))
  have hlen0 := fun W => h0.len (P := Tryd.prog) 22 3 9 Tryd.underlying22 W
  have hle := h0.le
  have H0 := hid h0
  have H1 := hid h1
  have HG := hid hG
  have HBM := hid hb
  clear h0 h1 hb hmass hG
  by_cases hgr : 400 < massG [l, behind]
  · have HGR := hid (decide_eq_true hgr)
    clear hgr
    go_enter Tryd.func7, Tryd.ntmps7
    go_wp2_with fail
    refine (alive_any w).mono ?_
    rintro e w1 ⟨rfl, hb1⟩
    go_wp2_with fail
    refine (HG.out w1 hb1).mono ?_
    rw [HGR.out]
    rintro e w2 ⟨rfl, rfl⟩
    have HB2 := hid (hb1.trans ((HBA.out w1).mono hb1.size))
    clear hb1
    go_wp2_with fail
    refine (alive_any _).mono ?_
    rintro e w3 ⟨rfl, hb3⟩
    have HB3 := hid (bt HB2.out hb3)
    go_wp2
    go_ret
    exact ⟨rfl, HB3.out⟩
  · have HGR := hid (decide_eq_false hgr)
    have HSL := hid (And.intro (short_of hgr (l := l) (by simp)) (short_of hgr (l := behind) (by simp)))
    clear hgr
    by_cases hl0 : l = []
    · have hlz : ∀ W, (Builtin.len_ #[22] 3 #[.slice a0 n0 c0]).run Tryd.prog W = .ok (.int .i64 0) W := by intro W; rw [hlen0 W, hl0]; rfl
      clear hl0 hlen0
      go_enter Tryd.func7, Tryd.ntmps7
      go_wp2_with fail
      refine (alive_any w).mono ?_
      rintro e w1 ⟨rfl, hb1⟩
      go_wp2_with fail
      refine (HG.out w1 hb1).mono ?_
      rw [HGR.out]
      rintro e w2 ⟨rfl, rfl⟩
      have HB2 := hid (hb1.trans ((HBA.out w1).mono hb1.size))
      clear hb1
      go_wp2_with fail
      refine (alive_any _).mono ?_
      rintro e w3 ⟨rfl, hb3⟩
      have HB3 := hid (bt HB2.out hb3)
      go_wp2
      go_ret
      exact ⟨rfl, HB3.out⟩
    · have hlpos : ((l.length : Int) == 0) = false := beq_eq_false_iff_ne.2 (by have := List.length_pos_iff.2 hl0; omega)
      clear hl0
      go_enter Tryd.func7, Tryd.ntmps7
      go_wp2_with fail
      refine (alive_any w).mono ?_
      rintro e w1 ⟨rfl, hb1⟩
      go_wp2_with fail
      refine (HG.out w1 hb1).mono ?_
      rw [HGR.out]
      rintro e w2 ⟨rfl, rfl⟩
      have HB2 := hid (hb1.trans ((HBA.out w1).mono hb1.size))
      clear hb1
      go_wp2_with fail
      refine (New_any _ l _ (H0.out.below HB2.out (Nat.le_refl _)) (by have := HSL.out.1.1; omega) (fun x hx => by have := HSL.out.1.2 x hx; omega)).mono ?_
      rintro e w3 ⟨po, er, rfl, hg, hb3⟩
      have HB3 := hid (bt HB2.out hb3)
      clear hb3
      rcases hg with ⟨rfl, rfl, h⟩ | ⟨rfl, rfl, _, h⟩ | ⟨rfl, ⟨b, rfl⟩, hall, hfew, hs⟩
      · clear h
        go_wp2
        go_ret
        exact ⟨rfl, HB3.out⟩
      · clear h
        go_wp2
        go_ret
        exact ⟨rfl, HB3.out⟩
      have hmem : ∀ z, z ∈ l → z ∈ put [] l := fun z hz => by rw [put_mem]; exact .inr hz
      have HR := hid (fun z (hz : z ∈ l) => List.all_eq_true.1 hall z hz)
      obtain ⟨N, hN⟩ : ∃ N, put [] l = N := ⟨_, rfl⟩
      rw [hN] at hs hmem
      have HS := hid hs
      have HM := hid hmem
      clear hs hall hfew hN hmem
      go_wp2_with fail
      go_loopg [38] l.length (fun kx s38 wr => ∃ i : Nat, s38 = .int .i64 i ∧ i ≤ l.length ∧ l.length - i ≤ kx ∧ Hid (Below w.heap.size w wr ∧ ScAt wr (some ⟨b, 0, none⟩) N))
      case atStart => exact ⟨0, rfl, Nat.zero_le _, by omega, hid ⟨HB3.out, HS.out⟩⟩
      case round =>
        obtain ⟨i, rfl, hi', hg, I⟩ := hrel
        by_cases hil : i < l.length
        · obtain ⟨bw, ow, hix, hcl⟩ := (H0.out.below I.out.1 (Nat.le_refl _)).at (P := Tryd.prog) i hil 22 9 Tryd.underlying22 Tryd.sizeOf9
          have hrt := HR.out _ (List.getElem_mem hil)
          have hmN := HM.out _ (List.getElem_mem hil)
          have hlen := HSL.out.1.2 _ (List.getElem_mem hil)
          obtain ⟨x, hx⟩ : ∃ x, l[i] = x := ⟨_, rfl⟩
          rw [hx] at hcl hrt hmN hlen
          clear hx
          obtain ⟨hw1, hw2, hw3⟩ := words_of hrt
          obtain ⟨P, hP⟩ : ∃ P, pieces x = P := ⟨_, rfl⟩
          rw [hP] at hw1 hw2 hw3
          have HWD := hid (fun W => RWords_any x (by omega) W)
          rw [hw1] at HWD
          have hP0 : P.length ≠ 0 := fun h => hw3 (List.eq_nil_of_length_eq_zero h)
          have hsP : said (P.take P.length) = x := by rw [List.take_length]; exact hw2
          have hK1 : longN N P P.length = P.length := Nat.le_antisymm (longN_le N P _) (longN_max N P _ _ (Nat.le_refl _) hP0 (by rw [hsP]; exact hmN))
          obtain ⟨L2, hL2⟩ : ∃ L2, P ++ behind = L2 := ⟨_, rfl⟩
          have hlL : L2.length = P.length + behind.length := by rw [← hL2, List.length_append]
          have hsL : said (L2.take P.length) = x := by rw [← hL2, List.take_left, hw2]
          have hmP : strMass P ≤ 4000 := by have := mass_said P; rw [hw2] at this; omega
          have hmL : (said L2).length ≤ 1000000000 := by
            have h5 := said_mass L2
            rw [← hL2, strMass_app, hL2] at h5
            have h6 := HBM.out
            omega
          have hPl : P.length ≤ 4000 := Nat.le_trans (strMass_len P) hmP
          have hbl : behind.length ≤ 400 := HSL.out.2.1
          have hgeK : P.length ≤ longN N L2 L2.length := longN_max N L2 _ _ (by omega) hP0 (by rw [hsL]; exact hmN)
          have hKl := longN_le N L2 L2.length
          have hKm := longN_mem N L2 L2.length
          have HMP := hid (Nat.le_trans (said_mass P) (by omega : strMass P ≤ 1000000000))
          have HML := hid hmL
          have HSP := hid hsP
          have HSLL := hid (And.intro hsL (And.intro hlL (And.intro hP0 hL2)))
          clear hrt hmN hw1 hw2 hw3 hP hsP hsL hlL hL2 hP0 hmP hmL hlen
          go_wp2_with fail
          refine (HWD.out _).mono ?_
          rintro e w4 ⟨vw, rfl, hvw, hb4⟩
          have HB4 := hid (bt I.out.1 hb4)
          have HS4 := hid (I.out.2.later hb4)
          have HVW : Hid (Strs w4 vw P) := hid hvw
          clear hvw hb4
          go_wp2_with fail
          refine (SLongest_any _ N vw P _ HS4.out HVW.out HMP.out).mono ?_
          rw [hK1, HSP.out]
          rintro e w5 ⟨rfl, hb5⟩
          have HB5 := hid (bt HB4.out hb5)
          have HS5 := hid (HS4.out.later hb5)
          have HVW5 := hid (HVW.out.below hb5 (Nat.le_refl _))
          have hlw := fun W => HVW.out.len (P := Tryd.prog) 22 3 9 Tryd.underlying22 W
          clear hb5 hK1
          have HOE := hid (owns_empty w5 9 1 w5.heap.size (Nat.le_refl _))
          have hba := ba (b0 w5) (.cells #[] 9)
          have HR0 := hid (Row.below HVW5.out hba (Nat.le_refl _))
          have HBA5 := hid hba
          clear hba
          go_wp2_with (at_builtin; refine wpList_append_row rfl _ _ 22 rfl w5.heap.size 9 i0 _ 1 16 underS hi hz0 hz1 hz2 rfl (by decide) _ _ _ rfl HOE.out _ P.length (strsOf P) rfl HR0.out ?d0 ?d1 ?d2 ?d3 ?_)
          case d0 => exact strsOf_one _
          case d1 => omega
          case d2 => unfold maxLen; omega
          case d3 => simp
          intro v6 w6 hown6 hg6
          have HB6 := hid (grown_below HBA5.out HOE.out (Nat.le_refl _) hg6)
          have HW6 : Hid (w6.ownsRow w5.heap.size 9 1 v6 P.length (strsOf P)) := hid (by simpa using hown6)
          have HR1 := hid (H1.out.below (bt HB5.out HB6.out) (Nat.le_refl _))
          have hlt6 : w5.heap.size ≤ w6.heap.size := HB6.out.size
          clear hown6 hg6
          go_wp2_with (at_builtin; refine wpList_append_row rfl _ _ 22 rfl w5.heap.size 9 i0 _ 1 16 underS hi hz0 hz1 hz2 rfl (by decide) _ _ _ rfl HW6.out _ behind.length (strsOf behind) rfl HR1.out ?e0 ?e1 ?e2 ?e3 ?_)
          case e0 => exact strsOf_one _
          case e1 => omega
          case e2 => unfold maxLen; omega
          case e3 => omega
          intro v7 w7 hown7 hg7
          have HB7 := hid (grown_below HB6.out HW6.out (Nat.le_refl _) hg7)
          have HV7 : Hid (Strs w7 v7 L2) := hid (by
            have := Row.ofOwns hown7 (by omega)
            unfold Strs
            rw [HSLL.out.2.1, ← HSLL.out.2.2.2, strsOf_append]
            exact this)
          clear hown7 hg7
          go_wp2_with fail
          refine (SLongest_any _ N v7 L2 _ (HS5.out.later HB7.out) HV7.out HML.out).mono ?_
          obtain ⟨K, hK⟩ : ∃ K, longN N L2 L2.length = K := ⟨_, rfl⟩
          rw [hK] at hgeK hKl hKm ⊢
          clear hK
          rintro e w8 ⟨rfl, hb8⟩
          have HB8 := hid (bt (bt HB5.out HB7.out) hb8)
          have HS8 := hid ((HS5.out.later HB7.out).later hb8)
          have hkn : ¬ (K : Int) < (P.length : Int) := by omega
          clear hb8 hlt6
          by_cases hKP : K = P.length
          · subst hKP
            have hY : said (L2.take P.length) = x := HSLL.out.1
            rw [hY]
            clear hgeK hKl hKm hY
            generalize text x = tx at *
            go_wp2_with fail
            go_roundg (l.length - (i + 1))
            case measure => omega
            case rel => exact ⟨i + 1, by go_num, by omega, Nat.le_refl _, hid ⟨HB8.out, HS8.out⟩⟩
          · have hkb : ((K : Int) == (P.length : Int)) = false := beq_eq_false_iff_ne.2 (by omega)
            have hkg : (P.length : Int) < (K : Int) := by omega
            have hm2 := hKm (by omega)
            have hpre := said_pre (ws := L2) (show P.length ≤ K by omega) hKl
            have hlt := said_more (ws := L2) HSLL.out.2.2.1 (show P.length < K by omega) hKl
            rw [HSLL.out.1] at hpre hlt
            obtain ⟨Y, hY⟩ : ∃ Y, said (L2.take K) = Y := ⟨_, rfl⟩
            rw [hY] at hm2 hpre hlt ⊢
            have hHas := SHas_any _ N Y w8 HS8.out
            rw [decide_eq_true hm2] at hHas
            have hs1 : (text Y).size = Y.length := text_size Y
            have hs2 : (text x).size = x.length := text_size x
            have hsz : ¬ ((text Y).size : Int) ≤ ((text x).size : Int) := by omega
            have hsz2 : ((text x).size : Int) ≤ ((text Y).size : Int) := by omega
            have hcut : (text Y).extract 0 (text x).size = text x := by
              rw [text_cut, hs2, List.drop_zero, Nat.sub_zero]
              obtain ⟨z, rfl⟩ := hpre
              rw [List.take_left]
            have HHAS := hid hHas
            clear hs1 hs2 hpre hlt hm2 hY hHas hKm hKl hgeK
            generalize text Y = tY at *
            generalize text x = tx at *
            go_wp2_with fail
            refine HHAS.out.mono ?_
            rintro e w9 ⟨rfl, q, rfl⟩
            go_wp2_with fail
            go_roundg (l.length - (i + 1))
            case measure => omega
            case rel => exact ⟨i + 1, by go_num, by omega, Nat.le_refl _, hid ⟨below_drewN w HB8.out q, HS8.out.later (below_drewN w8 (Below.refl _ _) q)⟩⟩
        · have HE := I
          clear I
          go_wp2
          go_ret
          exact ⟨rfl, HE.out.1⟩
end Go.Proofs.YthggoohchjifnaaDoor.Sc
