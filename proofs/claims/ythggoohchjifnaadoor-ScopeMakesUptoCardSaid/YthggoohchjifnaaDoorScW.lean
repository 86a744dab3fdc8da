/- Layer 9: the document's With, and the walk of the statement ScopeMakes. -/
import Derived.Test.YthggoohchjifnaaDoorScS
import Derived.Test.YthggoohchjifnaaDoorApp
set_option linter.unusedVariables false
set_option linter.unusedSimpArgs false
namespace Go.Proofs.YthggoohchjifnaaDoor.Sc
open Go Go.Proofs.YthggoohchjifnaaDoor Go.Proofs.YthggoohchjifnaaDoor.Utf Go.Proofs.YthggoohchjifnaaDoor.Names Go.RowKit
set_option maxRecDepth 100000

theorem sw_at (A D : List (List UInt8)) (x y : List UInt8) : (strsOf (A ++ y :: x :: D))[A.length]? = some (.string (text y)) ∧ (strsOf (A ++ y :: x :: D))[A.length + 1]? = some (.string (text x)) := by
  constructor
  · simp [strsOf]
  · simp [strsOf, List.getElem?_append_right]
theorem sw_set (A D : List (List UInt8)) (x y : List UInt8) : ((strsOf (A ++ y :: x :: D)).set (A.length + 1) (.string (text y))).set A.length (.string (text x)) = strsOf (A ++ x :: y :: D) := by
  induction A with
  | nil => simp [strsOf]
  | cons a A ih => simp only [strsOf, List.map_cons, List.cons_append, List.length_cons, List.set_cons_succ] at ih ⊢; rw [ih]
theorem grows_by {N m : List (List UInt8)} (h : Rise N) : (put N m).length ≤ N.length + m.length := by
  rw [(put_perm h).length_eq, List.length_append]
  have h1 := List.length_filter_le (fun x => !decide (x ∈ N)) (norm m)
  have h2 := (norm_facts m).2.2
  omega
theorem put_snoc (N m : List (List UInt8)) (x : List UInt8) : put N (m ++ [x]) = ins x (put N m) := by simp [put]
theorem ins_down {N : List (List UInt8)} {x : List UInt8} {k : Nat} (hN : Rise N) (hb : ∀ y ∈ N.drop k, Op.bytesLess x y = true) (ha : ∀ y ∈ N.take k, Op.bytesLess y x = true) : ins x N = N.take k ++ x :: N.drop k := by
  have h := ins_at (x := x) (a := N.take k) (b := N.drop k) (by rw [List.take_append_drop]; exact hN) ha hb
  rw [List.take_append_drop] at h
  exact h

set_option maxHeartbeats 8000000 in
theorem RWith_any (u v : Value) (N more : List (List UInt8)) (w : World) (hu : Strs w u N) (hv : Strs w v more) (hN : Rise N) (hn : N.length ≤ 1000) (hm : more.length ≤ 1000) (hx : ∀ x ∈ more, x.length ≤ 100000) :
    Calls Tryd.prog 13 #[u, v] w fun e w' => ∃ r er, e = .returned (.tuple #[r, .int .i64 er]) ∧ Below w.heap.size w w' ∧ ((er = 6 ∧ r = .slice none 0 0 ∧ more.all rightB = false) ∨ (er = 0 ∧ more.all rightB = true ∧ Strs w' r (put N more))) := by
  obtain ⟨i0, hi, hz0, hz1, hz2⟩ := info_parts infoS
  have mixed : Tryd.prog.follows Departure.mixedOrders = true := by kernel_rfl
  have hlen := fun W => hv.len (P := Tryd.prog) 22 3 9 underS W
  have HU := hid (hu.below (ba (b0 w) (.cells #[] 9)) (Nat.le_refl _))
  have HV := hid hv
  have HN := hid hN
  have HX := hid hx
  clear hu hv hN hx
  go_enter Tryd.func13, Tryd.ntmps13
  go_wp2_with (at_builtin; refine wpList_append_row rfl _ _ 22 rfl w.heap.size 9 i0 _ 1 16 underS hi hz0 hz1 hz2 rfl (by decide) _ 0 [] rfl (owns_empty w _ 1 _ (Nat.le_refl _)) _ N.length (strsOf N) rfl HU.out (strsOf_one N) ?d1 ?d2 ?d3 ?_)
  case d1 => omega
  case d2 => unfold maxLen; omega
  case d3 => simp
  intro v3 w3 hown3 hg3
  have HB := hid (grown_below (ba (b0 w) (.cells #[] 9)) (owns_empty w _ 1 _ (Nat.le_refl _)) (Nat.le_refl _) hg3)
  have HO : Hid (OwnS w.heap.size w3 v3 N) := hid (by
    unfold OwnS
    simpa using hown3)
  clear hown3 hg3
  go_wp2_with fail
  go_loopg [7] more.length (fun kx s7 wr => ∃ i : Nat, s7 = .int .i64 i ∧ i ≤ more.length ∧ more.length - i ≤ kx ∧ Hid (Below w3.heap.size w3 wr ∧ (more.take i).all rightB = true))
  case atStart => exact ⟨0, rfl, Nat.zero_le _, by omega, hid ⟨Below.refl _ _, by simp⟩⟩
  case round =>
    obtain ⟨i, rfl, hi2, hg, I⟩ := hrel
    by_cases hil : i < more.length
    · obtain ⟨b1, o1, hix1, hcl1⟩ := ((HV.out.below HB.out (Nat.le_refl _)).below I.out.1 (Nat.le_refl _)).at (P := Tryd.prog) i hil 22 9 underS sizeS
      have hst : (more.take (i + 1)).all rightB = ((more.take i).all rightB && rightB more[i]) := by rw [List.take_succ_eq_append_getElem hil, List.all_append]; simp
      have HR := hid (RRight_any more[i] (HX.out _ (List.getElem_mem hil)) wr)
      have HST := hid hst
      have HMM := hid (List.getElem_mem hil)
      clear hst
      generalize more[i] = x at *
      obtain ⟨m, hm2⟩ : ∃ m, rightB x = m := ⟨_, rfl⟩
      rw [hm2] at HR HST
      have HM := hid hm2
      clear hm2
      generalize text x = tx at *
      cases m with
      | false =>
        go_wp2_with fail
        refine HR.out.mono ?_
        rintro e w4 ⟨rfl, hb4⟩
        have HB4 := hid (bt (bt HB.out I.out.1) hb4)
        clear hb4
        go_wp2
        go_ret2
        exact ⟨_, _, rfl, HB4.out, .inl ⟨rfl, rfl, List.all_eq_false.2 ⟨x, HMM.out, by rw [HM.out]; decide⟩⟩⟩
      | true =>
        go_wp2_with fail
        refine HR.out.mono ?_
        rintro e w4 ⟨rfl, hb4⟩
        have HB4 := hid (bt I.out.1 hb4)
        clear hb4
        go_wp2
        go_roundg (more.length - (i + 1))
        case measure => omega
        case rel => exact ⟨i + 1, by go_num, by omega, Nat.le_refl _, hid ⟨HB4.out, by rw [HST.out, I.out.2]; rfl⟩⟩
    · have e : i = more.length := by omega
      subst e
      have HALL : Hid (more.all rightB = true) := hid (by have := I.out.2; rwa [List.take_of_length_le (Nat.le_refl _)] at this)
      have HO1 := hid (HO.out.later I.out.1)
      have HB1 := hid (bt HB.out I.out.1)
      clear I
      go_wp2_with fail
      go_loopg [6, 8, 9, 10] more.length (fun kx s6 s8 s9 s10 wr => ∃ i : Nat, s8 = .int .i64 i ∧ i ≤ more.length ∧ more.length - i ≤ kx ∧ Hid (OwnS w.heap.size wr s6 (put N (more.take i)) ∧ Below w.heap.size w wr))
      case atStart => exact ⟨0, rfl, Nat.zero_le _, by omega, hid ⟨by rw [List.take_zero]; exact HO1.out, HB1.out⟩⟩
      case round =>
        obtain ⟨i, rfl, hi2, hg, I⟩ := hrel
        have hnl : (put N (more.take i)).length ≤ 2000 := by
          have h1 := grows_by (m := more.take i) HN.out
          have h2 : (more.take i).length ≤ more.length := by rw [List.length_take]; omega
          omega
        have HNR := hid (put_rise (more.take i) HN.out)
        by_cases hil : i < more.length
        · obtain ⟨b1, o1, hix1, hcl1⟩ := (HV.out.below I.out.2 (Nat.le_refl _)).at (P := Tryd.prog) i hil 22 9 underS sizeS
          have HST : Hid (put N (more.take (i + 1)) = ins more[i] (put N (more.take i))) := hid (by rw [List.take_succ_eq_append_getElem hil, put_snoc])
          have HHAS := hid (RHas_any _ (put N (more.take i)) more[i] wr (I.out.1.strs (by omega)))
          generalize put N (more.take i) = M at *
          generalize more[i] = x at *
          by_cases hxm : x ∈ M
          · rw [decide_eq_true hxm] at HHAS
            have HE : Hid (ins x M = M) := hid (ins_there HNR.out hxm)
            clear hxm
            generalize text x = tx at *
            go_wp2_with fail
            refine HHAS.out.mono ?_
            rintro e w4 ⟨rfl, hw4⟩
            subst hw4
            go_wp2
            go_roundg (more.length - (i + 1))
            case measure => omega
            case rel => exact ⟨i + 1, by go_num, by omega, Nat.le_refl _, hid ⟨by rw [HST.out, HE.out]; exact I.out.1, I.out.2⟩⟩
          · rw [decide_eq_false hxm] at HHAS
            have HXM := hid hxm
            have HAP := hid (I.out.1.later (ba (b0 wr) (.cells #[.string (text x)] 9)))
            have HRO := hid (Row.ofBuild (sz := 1) wr #[.string (text x)] 9 1 rfl (by omega))
            have HBQ := hid (ba I.out.2 (.cells #[.string (text x)] 9))
            clear hxm I
            obtain ⟨tx, htx⟩ : ∃ tx, text x = tx := ⟨_, rfl⟩
            rw [htx] at HHAS HAP HRO HBQ hcl1
            have HTX := hid htx
            clear htx
            go_wp2_with fail
            refine HHAS.out.mono ?_
            rintro e w4 ⟨rfl, hw4⟩
            subst hw4
            go_wp2_with (at_builtin; refine wpList_append_row rfl _ _ 22 rfl w.heap.size 9 i0 _ 1 16 underS hi hz0 hz1 hz2 rfl (by decide) _ _ _ rfl HAP.out _ 1 [.string tx] rfl HRO.out ?d0 ?e1 ?e2 ?e3 ?_)
            case d0 => simp [Value.oneCell']
            case e1 => omega
            case e2 => unfold maxLen; omega
            case e3 => exact HBQ.out.size
            intro v6 w6 hown6 hg6
            have HB6 := hid (grown_below HBQ.out HAP.out (Nat.le_refl _) hg6)
            have hO6 : OwnS w.heap.size w6 v6 (M ++ [x]) := by
              unfold OwnS
              rw [List.length_append, strsOf_append]
              have e : strsOf [x] = [.string tx] := by rw [← HTX.out]; rfl
              rw [e]
              exact hown6
            obtain ⟨n, hn2⟩ : ∃ n, M.length = n := ⟨_, rfl⟩
            have hl6 := fun W => (hO6.strs (by simp; omega)).len (P := Tryd.prog) 22 3 9 underS W
            have hl6' : ∀ W, (Builtin.len_ #[22] 3 #[v6]).run Tryd.prog W = .ok (.int .i64 ((n : Int) + 1)) W := fun W => by
              rw [hl6 W, List.length_append, hn2]; rfl
            have HO6 := hid hO6
            have HN2 := hid hn2
            rw [hn2] at hnl
            clear hO6 hl6 hown6 hg6 hn2
            go_wp2_with fail
            go_loopg [9, 10] n (fun kx s9 s10 wr => ∃ k : Nat, s9 = .int .i64 k ∧ k ≤ n ∧ k ≤ kx ∧ Hid (OwnS w.heap.size wr v6 (M.take k ++ x :: M.drop k) ∧ Below w.heap.size w wr ∧ ∀ y ∈ M.drop k, Op.bytesLess x y = true))
            case atStart => exact ⟨n, by go_num, Nat.le_refl _, Nat.le_refl _, hid ⟨by rw [← HN2.out, List.take_length, List.drop_length]; exact HO6.out, HB6.out, by rw [← HN2.out, List.drop_length]; simp⟩⟩
            case round =>
              obtain ⟨k, rfl, hk, hkg, J⟩ := hrel
              have fin : (∀ y ∈ M.take k, Op.bytesLess y x = true) → OwnS w.heap.size wr v6 (put N (more.take (i + 1))) := fun h => by
                rw [HST.out, ins_down HNR.out J.out.2.2 h]; exact J.out.1
              have FIN := hid fin
              have hkM : k ≤ M.length := by rw [HN2.out]; exact hk
              clear fin
              by_cases h00 : k = 0
              · have hp : decide ((0 : Int) < (k : Int)) = false := decide_eq_false (by omega)
                have hp2 : decide (0 < k) = false := decide_eq_false (by omega)
                have HF := hid (FIN.out (by subst h00; simp))
                clear h00 FIN
                go_wp2_with fail
                go_quiet (fail)
                go_wp2
                go_roundg (more.length - (i + 1))
                case measure => omega
                case rel => exact ⟨i + 1, by go_num, by omega, Nat.le_refl _, hid ⟨HF.out.later (below_drewN wr (Below.refl _ wr) _), bt J.out.2.1 (below_drewN wr (Below.refl _ wr) _)⟩⟩
              · obtain ⟨A, hA⟩ : ∃ A, M.take (k - 1) = A := ⟨_, rfl⟩
                obtain ⟨D, hD⟩ : ∃ D, M.drop k = D := ⟨_, rfl⟩
                obtain ⟨y, hy⟩ : ∃ y, M[k - 1]'(by omega) = y := ⟨_, rfl⟩
                have hAl : A.length = k - 1 := by rw [← hA, List.length_take]; omega
                have hAk : A.length + 1 = k := by omega
                have htk : M.take k = A ++ [y] := by
                  have := List.take_succ_eq_append_getElem (l := M) (i := k - 1) (by omega)
                  rw [show k - 1 + 1 = k by omega, hA, hy] at this
                  exact this
                have hdk : M.drop (k - 1) = y :: D := by
                  have := List.drop_eq_getElem_cons (l := M) (i := k - 1) (by omega)
                  rw [show k - 1 + 1 = k by omega, hD, hy] at this
                  exact this
                have hL : M.take k ++ x :: M.drop k = A ++ y :: x :: D := by rw [htk, hD]; simp
                have O1 : OwnS w.heap.size wr v6 (A ++ y :: x :: D) := by rw [← hL]; exact J.out.1
                have hlL : (A ++ y :: x :: D).length = n + 1 := by rw [← hL, List.length_append, List.length_cons, List.length_take, List.length_drop, HN2.out]; omega
                have hk1 : k - 1 < (A ++ y :: x :: D).length := by omega
                have hkk : ((k - 1 : Nat) : Int) = (k : Int) - 1 := by omega
                have hp : (0 : Int) < (k : Int) := by omega
                have hp2 : 0 < k := by omega
                have hwr : IntKind.i64.wrap ((k : Int) - 1) = (k : Int) - 1 := IntWalk.i64_in _ (by omega)
                have s1 := (sw_at A D x y).1
                have s2 := (sw_at A D x y).2
                rw [hAl] at s1
                rw [hAk] at s2
                obtain ⟨ty, hty⟩ : ∃ ty, text y = ty := ⟨_, rfl⟩
                rw [hty] at s1
                rw [HTX.out] at s2
                have hless := tless x y
                rw [HTX.out, hty] at hless
                have hrel2 : Op.bytesLess x y = true ∨ (Op.bytesLess x y = false ∧ ∀ z ∈ M.take k, Op.bytesLess z x = true) := by
                  have hyM : y ∈ M := by rw [← hy]; exact List.getElem_mem _
                  have hxy : x ≠ y := fun e => HXM.out (e ▸ hyM)
                  rcases less_total hxy with h | h
                  · exact .inl h
                  · refine .inr ⟨less_asymm h, fun z hz => ?_⟩
                    rw [htk] at hz
                    rcases List.mem_append.1 hz with hz | hz
                    · refine less_trans ?_ h
                      have hr := HNR.out
                      rw [← List.take_append_drop k M, htk] at hr
                      have h5 := (List.pairwise_append.1 hr).1
                      exact (List.pairwise_append.1 h5).2.2 z hz y (by simp)
                    · rw [List.mem_singleton] at hz; rw [hz]; exact h
                have hbelow : ∀ z ∈ M.drop k, Op.bytesLess x z = true := J.out.2.2
                have HDK : Hid (Op.bytesLess x y = true → ∀ z ∈ M.drop (k - 1), Op.bytesLess x z = true) := hid (fun h z hz => by
                  rw [hdk] at hz
                  rcases List.mem_cons.1 hz with rfl | hz
                  · exact h
                  · exact hbelow z (by rw [hD]; exact hz))
                have hnew : OwnS w.heap.size wr v6 (A ++ y :: x :: D) → ∀ W, W.ownsRow w.heap.size 9 1 v6 (A ++ y :: x :: D).length (strsOf (A ++ x :: y :: D)) → OwnS w.heap.size W v6 (M.take (k - 1) ++ x :: M.drop (k - 1)) := fun _ W h => by
                  rw [hA, hdk]
                  unfold OwnS
                  have : (A ++ x :: y :: D).length = (A ++ y :: x :: D).length := by simp
                  rw [this]
                  exact h
                have HNEW := hid (hnew O1)
                have s3 := sw_set A D x y
                rw [hAk, hAl, HTX.out, hty] at s3
                have HS3 := hid s3
                have HS1 := hid s1
                have HS2 := hid s2
                have HO1 := hid O1
                have HLL := hid hlL
                clear hnew s1 s2 s3 O1 hbelow hL htk hdk hA hD hy hAl hAk hty h00
                generalize A ++ y :: x :: D = L1 at *
                obtain ⟨b2, hix2, hc2, -, -, -, -⟩ := owns_at (P := Tryd.prog) HO1.out k (by rw [hlL]; omega) 22 underS sizeS
                obtain ⟨b3, hix3, hc3, -, -, -, -⟩ := owns_at (P := Tryd.prog) HO1.out (k - 1) (by rw [hlL]; omega) 22 underS sizeS
                have hcx := hc2 _ HS2.out
                have hcy := hc3 _ HS1.out
                rw [hkk] at hix3
                clear hc2 hc3 hlL hk1
                rcases hrel2 with h | ⟨h, ha⟩
                · rw [h] at hless
                  have HL := hid (HDK.out h)
                  clear h HDK FIN
                  go_wp2_with fail
                  go_quiet (fail)
                  rename_i nq
                  have hbz : Below wr.heap.size wr (wr.drewN nq) := below_drewN wr (Below.refl _ wr) nq
                  have HO2 := hid (HO1.out.later hbz)
                  have HBZ := hid (bt J.out.2.1 hbz)
                  clear hix2 hix3 hcx hcy hbz
                  generalize wr.drewN nq = wy at *
                  obtain ⟨b2, hix2, hc2, hf2, hB2, -, hset2⟩ := owns_at (P := Tryd.prog) HO2.out k (by rw [HLL.out]; omega) 22 underS sizeS
                  obtain ⟨b3, hix3, hc3, -, -, -, -⟩ := owns_at (P := Tryd.prog) HO2.out (k - 1) (by rw [HLL.out]; omega) 22 underS sizeS
                  have hcx := hc2 _ HS2.out
                  have hcy := hc3 _ HS1.out
                  have O2 := hset2 (.string ty)
                  obtain ⟨b4, hix4, hc4, hf4, hB4, -, hset4⟩ := owns_at (P := Tryd.prog) O2 (k - 1) (by rw [HLL.out]; omega) 22 underS sizeS
                  obtain rfl : b4 = b3 := by
                    have := (hix4 .i64 wy).symm.trans (hix3 .i64 wy)
                    simpa using this
                  have hcs := hc4 (.string ty) (by rw [List.getElem?_set_ne (by omega)]; exact HS1.out)
                  have O3 := hset4 (.string tx)
                  rw [HS3.out] at O3
                  have HO3 := hid (HNEW.out _ O3)
                  have HBL := hid ((HBZ.out.setCell (p := ⟨b2, k, none⟩) hB2 (.string ty)).setCell (p := ⟨b4, k - 1, none⟩) hB4 (.string tx))
                  rw [hkk] at hix3
                  clear O2 O3 hset2 hset4 hc2 hc3 hc4 hix4 hB2 hB4 hkk
                  go_wp2
                  go_roundg (k - 1)
                  case measure => omega
                  case rel => exact ⟨k - 1, by go_num, by omega, Nat.le_refl _, hid ⟨HO3.out, HBL.out, HL.out⟩⟩
                · rw [h] at hless
                  have HF := hid (FIN.out ha)
                  clear h ha HDK FIN
                  go_wp2_with fail
                  go_quiet (fail)
                  go_wp2
                  go_roundg (more.length - (i + 1))
                  case measure => omega
                  case rel => exact ⟨i + 1, by go_num, by omega, Nat.le_refl _, hid ⟨HF.out.later (below_drewN wr (Below.refl _ wr) _), bt J.out.2.1 (below_drewN wr (Below.refl _ wr) _)⟩⟩
        · have e : i = more.length := by omega
          subst e
          rw [List.take_of_length_le (Nat.le_refl _)] at I hnl
          have hs := I.out.1.strs (by omega)
          have hlo := fun W => hs.len (P := Tryd.prog) 22 3 9 underS W
          generalize (put N more).length = n at *
          have HS := hid hs
          clear hs
          have hp : ¬ (4096 : Int) < (n : Int) := by omega
          go_wp2
          go_ret2
          exact ⟨_, _, rfl, I.out.2, .inr ⟨rfl, List.all_eq_true.1 HALL.out, HS.out⟩⟩
end Go.Proofs.YthggoohchjifnaaDoor.Sc
