/- Layer 14: the walks of OrderSorts and OrderStuck. -/
import Derived.Test.YtkpmkabddhpojaaOrN
import Derived.Test.YtkpmkabddhpojaaOrP
set_option linter.unusedVariables false
set_option linter.unusedSimpArgs false
namespace Go.Proofs.Ytkpmkabddhpojaa.Or
open Go Go.Proofs.Ytkpmkabddhpojaa Go.RowKit
set_option maxRecDepth 100000
variable {D : Nat → Prop}

theorem row_nil (w : World) : Row 1 w (.slice none 0 0) ([] : List Nat).length (nums []) := Row.nil 1 w
set_option maxHeartbeats 8000000 in
theorem OrderSorts_walk (nv v : Value) (S : List (List UInt8)) (M : List (List Int)) (w : World) (hs : Strs w nv S) (hv : Nd encI D w v M) (hn : M.length + massI M ≤ 1000000000) :
    Calls Try.prog 3 #[nv, v] w fun e w' => e = .returned (.bool true) ∧ Below w.heap.size w w' := by
  have hlens := fun W => hs.len (P := Try.prog) 22 3 9 Try.underlying22 W
  have AL := hid (fun W => alive_any W)
  have HS := hid hs
  have HV := hid hv
  have hSle := hs.le
  clear hs hv
  go_enter Try.func3, Try.ntmps3
  go_wp2_with fail
  refine (AL.out _).mono ?_
  rintro e w1 ⟨rfl, b1⟩
  have B1 := hid b1
  have GR := hid (great_any v M w1 (HV.out.later b1) hn)
  clear b1
  cases hg : decide (300 < M.length + massI M) with
  | true =>
    rw [hg] at GR
    clear hg
    go_wp2_with fail
    refine GR.out.mono ?_
    rintro e w2 ⟨rfl, rfl⟩
    go_wp2_with fail
    refine (AL.out _).mono ?_
    rintro e w2 ⟨rfl, b2⟩
    have B2 := hid (bt B1.out b2)
    clear b2
    go_wp2_with fail
    go_ret
    exact ⟨rfl, B2.out⟩
  | false =>
    rw [hg] at GR
    have hM : M.length + massI M ≤ 300 := by simpa using hg
    clear hg
    by_cases hS3 : 300 < S.length
    · have hS3' : (300 : Int) < S.length := by omega
      go_wp2_with fail
      refine GR.out.mono ?_
      rintro e w2 ⟨rfl, rfl⟩
      go_wp2_with fail
      refine (AL.out _).mono ?_
      rintro e w2 ⟨rfl, b2⟩
      have B2 := hid (bt B1.out b2)
      clear b2
      go_wp2_with fail
      go_ret
      exact ⟨rfl, B2.out⟩
    · go_wp2_with fail
      refine GR.out.mono ?_
      rintro e w2 ⟨rfl, rfl⟩
      have HS1 := hid (HS.out.below B1.out (Nat.le_refl _))
      have HV1 := hid (HV.out.later B1.out)
      by_cases hne : S.length = M.length
      · cases hR : rightB M with
        | false =>
          have A1 := hid (Sort_bad HS1.out HV1.out hne hR)
          have A2 := hid (RSort_bad HS1.out HV1.out hne hR)
          have A3 := hid (same_any _ _ [] [] w1 (row_nil w1) (row_nil w1))
          rw [show decide (([] : List Nat) = []) = true from rfl] at A3
          clear hR
          go_wp2_with fail
          refine A1.out.mono ?_
          rintro e w2 ⟨rfl, rfl⟩
          go_wp2_with fail
          refine A2.out.mono ?_
          rintro e w2 ⟨rfl, rfl⟩
          go_wp2_with fail
          refine A3.out.mono ?_
          rintro e w2 ⟨rfl, b2⟩
          have B2 := hid (bt B1.out b2)
          clear b2
          go_wp2_with fail
          go_ret
          exact ⟨rfl, B2.out⟩
        | true =>
          obtain ⟨N, rfl, hRN⟩ := right_nat hR
          rw [toI_length] at hne
          rw [toI_length, massI_toI] at hM
          have A1 := hid (Sort_ok HS1.out (nd_int.1 HV1.out) hne hRN (by omega))
          have HRN := hid hRN
          have HNE := hid hne
          clear hR hRN hne
          go_wp2_with fail
          refine A1.out.mono ?_
          rintro e w2 ⟨line, out, hb, hd, ⟨r, ho, rfl⟩, b2⟩
          have HB := hid hb
          have HD := hid hd
          have HO := hid ho
          have B2 := hid (bt B1.out b2)
          have A2 := hid (RSort_ok (HS1.out.below b2 (Nat.le_refl _)) ((nd_int.1 HV1.out).later b2) HNE.out HRN.out (by omega) hb)
          have hol : out.length ≤ N.length := hd.le (by rw [← HNE.out]; exact hb.1)
          clear hb hd ho b2
          by_cases hq : out.length < N.length
          · rw [if_pos hq]
            go_wp2_with fail
            refine A2.out.mono ?_
            rintro e w3 ⟨out2, hd2, ⟨r2, ho2, rfl⟩, b3⟩
            obtain rfl := HD.out.unique hd2
            rw [if_pos hq]
            have B3 := hid (bt B2.out b3)
            have A3 := hid (same_any _ _ [] [] w3 (row_nil w3) (row_nil w3))
            rw [show decide (([] : List Nat) = []) = true from rfl] at A3
            clear hd2 ho2 b3
            go_wp2_with fail
            refine A3.out.mono ?_
            rintro e w4 ⟨rfl, b4⟩
            have B4 := hid (bt B3.out b4)
            clear b4
            go_wp2_with fail
            go_ret
            exact ⟨rfl, B4.out⟩
          · rw [if_neg hq]
            go_wp2_with fail
            refine A2.out.mono ?_
            rintro e w3 ⟨out2, hd2, ⟨r2, ho2, rfl⟩, b3⟩
            obtain rfl := HD.out.unique hd2
            rw [if_neg hq]
            have B3 := hid (bt B2.out b3)
            have A3 := hid (same_any r r2 out out w3 (Row.ofOwns (owns_later HO.out b3) (by omega)) (Row.ofOwns ho2 (by omega)))
            rw [show decide (out = out) = true by simp] at A3
            clear hd2 ho2 b3
            go_wp2_with fail
            refine A3.out.mono ?_
            rintro e w4 ⟨rfl, b4⟩
            have B4 := hid (bt B3.out b4)
            clear b4
            go_wp2_with fail
            go_ret
            exact ⟨rfl, B4.out⟩
      · have A1 := hid (Sort_len HS1.out HV1.out hne)
        have A2 := hid (RSort_len HS1.out HV1.out hne)
        have A3 := hid (same_any _ _ [] [] w1 (row_nil w1) (row_nil w1))
        rw [show decide (([] : List Nat) = []) = true from rfl] at A3
        clear hne
        go_wp2_with fail
        refine A1.out.mono ?_
        rintro e w2 ⟨rfl, rfl⟩
        go_wp2_with fail
        refine A2.out.mono ?_
        rintro e w2 ⟨rfl, rfl⟩
        go_wp2_with fail
        refine A3.out.mono ?_
        rintro e w2 ⟨rfl, b2⟩
        have B2 := hid (bt B1.out b2)
        clear b2
        go_wp2_with fail
        go_ret
        exact ⟨rfl, B2.out⟩

set_option maxHeartbeats 8000000 in
theorem OrderStuck_walk (v : Value) (M : List (List Int)) (a : Int) (w : World) (hv : Nd encI D w v M) (hn : M.length + massI M ≤ 1000000000) :
    Calls Try.prog 4 #[v, .int .i64 a] w fun e w' => e = .returned (.bool true) ∧ Below w.heap.size w w' := by
  have hlen := fun W => hv.len (P := Try.prog) 23 3 26 Try.underlying23 W
  have AL := hid (fun W => alive_any W)
  have HV := hid hv
  clear hv
  go_enter Try.func4, Try.ntmps4
  go_wp2_with fail
  refine (AL.out _).mono ?_
  rintro e w1 ⟨rfl, b1⟩
  have B1 := hid b1
  have HV1 := hid (HV.out.later b1)
  have GR := hid (great_any v M w1 HV1.out hn)
  clear b1
  cases hg : decide (300 < M.length + massI M) with
  | true =>
    rw [hg] at GR
    clear hg
    go_wp2_with fail
    refine GR.out.mono ?_
    rintro e w2 ⟨rfl, rfl⟩
    go_wp2_with fail
    refine (AL.out _).mono ?_
    rintro e w2 ⟨rfl, b2⟩
    have B2 := hid (bt B1.out b2)
    clear b2
    go_wp2_with fail
    go_ret
    exact ⟨rfl, B2.out⟩
  | false =>
    rw [hg] at GR
    have hM : M.length + massI M ≤ 300 := by simpa using hg
    clear hg
    go_wp2_with fail
    refine GR.out.mono ?_
    rintro e w2 ⟨rfl, rfl⟩
    cases hR : rightB M with
    | false =>
      have A1 := hid (Stuck_bad HV1.out hR)
      have A2 := hid (Reach_bad a HV1.out hR)
      have A3 := hid (Right_any v M w1 HV1.out)
      rw [hR] at A3
      clear hR
      go_wp2_with fail
      refine A1.out.mono ?_
      rintro e w2 ⟨rfl, rfl⟩
      go_wp2_with fail
      refine A2.out.mono ?_
      rintro e w2 ⟨rfl, rfl⟩
      go_wp2_with fail
      refine A3.out.mono ?_
      rintro e w2 ⟨rfl, rfl⟩
      go_wp2_with fail
      go_ret
      exact ⟨rfl, B1.out⟩
    | true =>
      obtain ⟨N, rfl, hRN⟩ := right_nat hR
      rw [toI_length, massI_toI] at hM
      rw [toI_length] at hlen
      have HN1 := hid (nd_int.1 HV1.out)
      have HRN := hid hRN
      have A1 := hid (Stuck_ok HN1.out hRN (by omega))
      have HR2 := hid hR
      clear hR hRN
      go_wp2_with fail
      refine A1.out.mono ?_
      rintro e w2 ⟨r, out, rfl, dn, ho, b2⟩
      have DN := hid dn
      have HO := hid ho
      have HBB := hid b2
      have B2 := hid (bt B1.out b2)
      have HN2 := hid (HN1.out.later b2)
      have hsl : (stuck N.length out).length ≤ 300 := by
        have := List.length_filter_le (fun t => !(out.contains t)) (List.range N.length)
        rw [List.length_range] at this
        unfold stuck; omega
      clear dn ho b2
      by_cases ha : okI N.length a = true
      · obtain ⟨k, rfl⟩ : ∃ k : Nat, a = k := ⟨a.toNat, by simp [okI] at ha; omega⟩
        have hk : k < N.length := by simp [okI] at ha; omega
        have A2 := hid (Reach_ok k HN2.out HRN.out hk (by omega))
        clear ha
        go_wp2_with fail
        refine A2.out.mono ?_
        rintro e w3 ⟨r3, m3, rfl, hm3, hr3, ho3, b3⟩
        have HM3 := hid (And.intro hm3 hr3)
        have HO3 := hid ho3
        have B3 := hid (bt B2.out b3)
        have HN3 := hid (HN2.out.later b3)
        have HOA := hid (owns_later HO.out b3)
        have A3 := hid (Right_any v (toI N) w3 (nd_int.2 HN3.out))
        rw [HR2.out] at A3
        have A4 := hid (RStuck_any HN3.out HRN.out (by omega))
        clear hm3 hr3 ho3 b3
        go_wp2_with fail
        refine A3.out.mono ?_
        rintro e w4 ⟨rfl, rfl⟩
        go_wp2_with fail
        refine A4.out.mono ?_
        rintro e w5 ⟨r5, out5, rfl, dn5, ho5, b5⟩
        obtain rfl := DN.out.unique dn5
        have B5 := hid (bt B3.out b5)
        have HN5 := hid (HN3.out.later b5)
        have HO35 := hid (owns_later HO3.out b5)
        have A5 := hid (same_any r r5 _ _ w5 (Row.ofOwns (owns_later HOA.out b5) (by omega)) (Row.ofOwns ho5 (by omega)))
        rw [show decide (stuck N.length out = stuck N.length out) = true by simp] at A5
        clear dn5 ho5 b5
        go_wp2_with fail
        refine A5.out.mono ?_
        rintro e w6 ⟨rfl, b6⟩
        have B6 := hid (bt B5.out b6)
        have HO36 := hid (owns_later HO35.out b6)
        have A6 := hid (RReach_any k (HN5.out.later b6) HRN.out hk (by omega))
        clear b6
        go_wp2_with fail
        refine A6.out.mono ?_
        rintro e w7 ⟨r7, m7, rfl, hm7, hr7, ho7, b7⟩
        have B7 := hid (bt B6.out b7)
        have heq : on m3 true = on m7 true := on_eq (by rw [hm7, HM3.out.1]) fun t _ => by rw [HM3.out.2, hr7]
        have hol : (on m7 true).length ≤ 300 := by
          have := List.length_filter_le (fun t => m7.getD t false == true) (List.range m7.length)
          rw [List.length_range] at this
          unfold on; omega
        have A7 := hid (same_any r3 r7 (on m3 true) (on m7 true) w7 (Row.ofOwns (owns_later HO36.out b7) (by rw [heq]; omega)) (Row.ofOwns ho7 (by omega)))
        rw [heq, show decide (on m7 true = on m7 true) = true by simp] at A7
        clear hm7 hr7 ho7 b7 heq hol
        go_wp2_with fail
        refine A7.out.mono ?_
        rintro e w8 ⟨rfl, b8⟩
        have B8 := hid (bt B7.out b8)
        clear b8
        go_wp2_with fail
        go_ret
        exact ⟨rfl, B8.out⟩
      · have ha' : okI N.length a = false := by simpa using ha
        have A2 := hid (Reach_out a (nd_int.2 HN2.out) HR2.out (by rw [toI_length]; exact ha'))
        have A3 := hid (Right_any v (toI N) w2 (nd_int.2 HN2.out))
        rw [HR2.out] at A3
        have A4 := hid (RStuck_any HN2.out HRN.out (by omega))
        have hcase : a < 0 ∨ (0 ≤ a ∧ (N.length : Int) ≤ a) := by simp [okI] at ha'; omega
        clear ha ha'
        go_wp2_with fail
        refine A2.out.mono ?_
        rintro e w3 ⟨rfl, rfl⟩
        go_wp2_with fail
        refine A3.out.mono ?_
        rintro e w4 ⟨rfl, rfl⟩
        go_wp2_with fail
        refine A4.out.mono ?_
        rintro e w5 ⟨r5, out5, rfl, dn5, ho5, b5⟩
        obtain rfl := DN.out.unique dn5
        have B5 := hid (bt B2.out b5)
        have A5 := hid (same_any r r5 _ _ w5 (Row.ofOwns (owns_later HO.out b5) (by omega)) (Row.ofOwns ho5 (by omega)))
        rw [show decide (stuck N.length out = stuck N.length out) = true by simp] at A5
        clear dn5 ho5 b5
        rcases hcase with hc | ⟨hc1, hc2⟩
        · go_wp2_with fail
          refine A5.out.mono ?_
          rintro e w6 ⟨rfl, b6⟩
          have B6 := hid (bt B5.out b6)
          clear b6
          go_wp2_with fail
          go_ret
          exact ⟨rfl, B6.out⟩
        · have hc1' : ¬ a < 0 := by omega
          go_wp2_with fail
          refine A5.out.mono ?_
          rintro e w6 ⟨rfl, b6⟩
          have B6 := hid (bt B5.out b6)
          clear b6
          go_wp2_with fail
          go_ret
          exact ⟨rfl, B6.out⟩
end Go.Proofs.Ytkpmkabddhpojaa.Or
