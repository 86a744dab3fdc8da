/- Layer 9: the walk of the statement ScopeOrder, at rows of any size. -/
import Derived.Test.YthggoohchjifnaaDoorScU
set_option linter.unusedVariables false
set_option linter.unusedSimpArgs false
namespace Go.Proofs.YthggoohchjifnaaDoor.Sc
open Go Go.Proofs.YthggoohchjifnaaDoor Go.Proofs.YthggoohchjifnaaDoor.Utf Go.Proofs.YthggoohchjifnaaDoor.Names Go.RowKit
set_option maxRecDepth 100000


theorem eights_le : ∀ {l : List (List UInt8)}, (∀ x ∈ l, x.length ≤ 140737488355328) → eights l ≤ l.length * 17592186044416
  | [], _ => by simp [eights]
  | x :: l, h => by
    have h1 := eights_le (l := l) (fun y hy => h y (List.mem_cons_of_mem _ hy))
    have h2 := h x (by simp)
    have e : eights (x :: l) = x.length / 8 + eights l := by simp [eights]
    rw [e, List.length_cons]
    omega
set_option maxHeartbeats 2000000 in
theorem Great_big (v : Value) (vs : List Value) (rows : List (List (List UInt8))) (w : World) (hv : Row 1 w v vs.length vs) (hl : rows.length = vs.length) (hr : ∀ i (h : i < vs.length), Strs w vs[i] (rows.getD i [])) (hb : massG rows ≤ 4000000000000000000) :
    Calls Tryd.prog 11 #[v] w fun e w' => e = .returned (.bool (decide (400 < massG rows))) ∧ w' = w := by
  have hle := hv.le
  have hlen := fun W => Row.len (P := Tryd.prog) hv 47 3 22 Tryd.underlying47 W
  have V := hid hv
  have R := hid hr
  have B := hid hb
  obtain ⟨m, hm⟩ : ∃ m, decide (400 < massG rows) = m := ⟨_, rfl⟩
  rw [hm]
  have HM := hid hm
  clear hv hr hb hm
  go_enter Tryd.func11, Tryd.ntmps11
  go_wp2
  go_loopg [3, 10] vs.length (fun kx s3 s10 wr => ∃ i a : Nat, s3 = .int .i64 a ∧ s10 = .int .i64 i ∧ i ≤ vs.length ∧ vs.length - i ≤ kx ∧ w = wr ∧ Hid (a = massG (rows.take i)))
  case atStart => exact ⟨0, 0, rfl, rfl, Nat.zero_le _, by omega, rfl, hid (by simp [massG])⟩
  case round =>
    obtain ⟨i, a, rfl, rfl, hi, hg, rfl, I⟩ := hrel
    have ha : a ≤ 4000000000000000000 := by rw [I.out]; exact Nat.le_trans (massG_take rows i) B.out
    by_cases hil : i < vs.length
    · obtain ⟨b, o, hix, hcl⟩ := Row.at (P := Tryd.prog) V.out (by omega) i hil 47 22 Tryd.underlying47 Tryd.sizeOf22
      have hc := hcl 0 vs[i] (by omega) (by simp [hil])
      have hs := R.out i hil
      have hstep : massG (rows.take (i + 1)) = massG (rows.take i) + ((rows.getD i []).length + eights (rows.getD i [])) := by
        rw [List.take_succ_eq_append_getElem (by omega), massG_snoc]
        simp [show i < rows.length by omega]
      have hle2 : massG (rows.take (i + 1)) ≤ 4000000000000000000 := Nat.le_trans (massG_take rows _) B.out
      generalize rows.getD i [] = l at *
      generalize vs[i] = x at *
      have hlen2 := fun W => hs.len (P := Tryd.prog) 22 3 9 Tryd.underlying22 W
      have HS := hid hs
      have HST := hid hstep
      have hal : a + (l.length + eights l) ≤ 4000000000000000000 := by rw [I.out, ← hstep]; exact hle2
      have hc' : w.cell? ⟨b, o, none⟩ = some x := hc
      clear hs hstep hle2 hcl hc
      go_wp2
      go_loopg [3, 20] l.length (fun kx s3 s20 wr => ∃ j c : Nat, s3 = .int .i64 c ∧ s20 = .int .i64 j ∧ j ≤ l.length ∧ l.length - j ≤ kx ∧ w = wr ∧ Hid (c = a + l.length + eights (l.take j)))
      case atStart => exact ⟨0, a + l.length, by go_num, rfl, Nat.zero_le _, by omega, rfl, hid (by simp [eights])⟩
      case round =>
        obtain ⟨j, c, rfl, rfl, hj, hgj, rfl, J⟩ := hrel
        have hc1 : c ≤ 4000000000000000000 := by rw [J.out]; have := eights_take l j; omega
        by_cases hjl : j < l.length
        · obtain ⟨b2, o2, hix2, hcl2⟩ := HS.out.at (P := Tryd.prog) j hjl 22 9 Tryd.underlying22 Tryd.sizeOf9
          have hst2 : eights (l.take (j + 1)) = eights (l.take j) + l[j].length / 8 := by rw [List.take_succ_eq_append_getElem hjl, eights_snoc]
          have hb2 : c + l[j].length / 8 ≤ 4000000000000000000 := by rw [J.out]; have := eights_take l (j + 1); omega
          have hsz : (text l[j]).size = l[j].length := text_size _
          generalize text l[j] = ty at *
          generalize l[j].length = n at *
          have HST2 := hid hst2
          have hq : Int.tdiv (n : Int) 8 = ((n / 8 : Nat) : Int) := by rw [Int.tdiv_eq_ediv_of_nonneg (by omega)]; omega
          clear hst2
          go_wp2
          go_roundg (l.length - (j + 1))
          case measure => omega
          case rel =>
            refine ⟨j + 1, c + n / 8, ?_, by go_num, by omega, Nat.le_refl _, rfl, hid (by rw [J.out, HST2.out]; omega)⟩
            go_num
        · have e : j = l.length := by omega
          subst e
          go_wp2
          go_roundg (vs.length - (i + 1))
          case measure => omega
          case rel =>
            refine ⟨i + 1, c, rfl, by go_num, by omega, Nat.le_refl _, rfl, hid (by rw [J.out, HST.out, ← I.out, List.take_of_length_le (Nat.le_refl _)]; omega)⟩
    · have e : a = massG rows := by rw [I.out, List.take_of_length_le (by omega)]
      have hm2 := HM.out
      rw [← e] at hm2
      by_cases h4 : 400 < a
      · rw [decide_eq_true h4] at hm2
        subst hm2
        have h4i : (400 : Int) < (a : Int) := by omega
        clear I e h4
        go_wp2
        go_ret
        exact ⟨rfl, rfl⟩
      · rw [decide_eq_false h4] at hm2
        subst hm2
        have h4i : ¬ (400 : Int) < (a : Int) := by omega
        clear I e h4
        go_wp2
        go_ret
        exact ⟨rfl, rfl⟩

set_option maxHeartbeats 8000000 in
theorem ScopeOrder_few (v0 : Value) (l : List (List UInt8)) (w : World) (h0 : Strs w v0 l) (h60 : l.length ≤ 60) (hx : ∀ x ∈ l, x.length ≤ 140737488355328) :
    Calls Tryd.prog 9 #[v0] w fun e w' => e = .returned (.bool true) ∧ Below w.heap.size w w' := by
  obtain ⟨a0, n0, c0, rfl⟩ := slice_of h0
  have hmass : massG [l] ≤ 2000000000000000 := by
    have := eights_le hx
    have : massG [l] = l.length + eights l := by simp [massG]
    omega
  have hG := fun (w1 : World) (hb1 : Below w.heap.size w w1) => by
    have hba : Below w1.heap.size w1 (w1.alloc (.cells #[.slice a0 n0 c0] 22)) := (Below.refl _ w1).alloc (Nat.le_refl _) _
    have h2 := Row.ofBuild (sz := 1) w1 #[.slice a0 n0 c0] 22 1 rfl (by omega)
    exact Great_big _ [.slice a0 n0 c0] [l] _ h2 rfl (fun i hi => by
      rcases i with _ | i
      · exact (h0.below hb1 (Nat.le_refl _)).below hba (Nat.le_refl _)
      · exfalso; simp at hi) (by omega)
  have HBA := hid (fun (w1 : World) => (show Below w1.heap.size w1 (w1.alloc (.cells #[.slice a0 n0 c0] 22)) from (Below.refl _ w1).alloc (Nat.le_refl _) _))
  have hlen0 := fun W => h0.len (P := Tryd.prog) 22 3 9 Tryd.underlying22 W
  have hle := h0.le
  have mixed : Tryd.prog.follows Departure.mixedOrders = true := by kernel_rfl
  have H0 := hid h0
  have HG := hid hG
  clear h0 hx hmass hG
  by_cases hgr : 400 < massG [l]
  · have HGR := hid (decide_eq_true hgr)
    clear hgr
    go_enter Tryd.func9, Tryd.ntmps9
    go_wp2_with fail
    refine (alive_any w).mono ?_
    rintro e w1 ⟨rfl, hb1⟩
    go_wp2_with fail
    refine (HG.out w1 hb1).mono ?_
    rw [HGR.out]
    rintro e w2 ⟨rfl, rfl⟩
    have HB2 := hid (hb1.trans ((HBA.out w1).mono hb1.size))
    clear hb1
    go_wp2_with fail
    refine (alive_any _).mono ?_
    rintro e w3 ⟨rfl, hb3⟩
    have HB3 := hid (bt HB2.out hb3)
    go_wp2
    go_ret
    exact ⟨rfl, HB3.out⟩
  · have HGR := hid (decide_eq_false hgr)
    have HSL := hid (short_of hgr (l := l) (by simp))
    clear hgr
    by_cases hbig : 60 < l.length
    · omega
    · have hbz : ¬ (60 : Int) < (l.length : Int) := by omega
      have hl60 : l.length ≤ 60 := by omega
      clear hbig
      go_enter Tryd.func9, Tryd.ntmps9
      go_wp2_with fail
      refine (alive_any w).mono ?_
      rintro e w1 ⟨rfl, hb1⟩
      go_wp2_with fail
      refine (HG.out w1 hb1).mono ?_
      rw [HGR.out]
      rintro e w2 ⟨rfl, rfl⟩
      have HB2 := hid (hb1.trans ((HBA.out w1).mono hb1.size))
      clear hb1
      go_wp2_with fail
      refine (New_any _ l _ (H0.out.below HB2.out (Nat.le_refl _)) (by have := HSL.out.1; omega) (fun x hx => by have := HSL.out.2 x hx; omega)).mono ?_
      rintro e w3 ⟨po, er, rfl, hg, hb3⟩
      have HB3 := hid (bt HB2.out hb3)
      clear hb3
      rcases hg with ⟨rfl, rfl, h⟩ | ⟨rfl, rfl, _, h⟩ | ⟨rfl, ⟨b, rfl⟩, hall, hfew, hs⟩
      · clear h
        go_wp2
        go_ret
        exact ⟨rfl, HB3.out⟩
      · clear h
        go_wp2
        go_ret
        exact ⟨rfl, HB3.out⟩
      obtain ⟨N, hN⟩ : ∃ N, put [] l = N := ⟨_, rfl⟩
      rw [hN] at hs
      have HNM : Hid (∀ z, z ∈ N ↔ z ∈ l) := hid (fun z => by rw [← hN, put_mem]; simp)
      have HALL := hid (fun z (hz : z ∈ l) => List.all_eq_true.1 hall z hz)
      have HS := hid hs
      clear hs hall hfew hN
      go_wp2_with fail
      go_loopg [5, 6] l.length (fun kx s5 s6 wr => ∃ (j : Nat) (pt : Option Addr) (M : List (List UInt8)), s5 = .pointer pt ∧ s6 = .int .i64 ((j : Int) - 1) ∧ j ≤ l.length ∧ j ≤ kx ∧
        Hid (Below w.heap.size w wr ∧ ScAt wr (some ⟨b, 0, none⟩) N ∧ ScAt wr pt M ∧ (∀ z, z ∈ M ↔ z ∈ l.drop j) ∧ M.length ≤ 2 * (l.length - j)))
      case atStart => exact ⟨l.length, none, [], rfl, rfl, Nat.le_refl _, Nat.le_refl _, hid ⟨HB3.out, HS.out, ScAt.none _, by simp, by simp⟩⟩
      case round =>
        obtain ⟨j, pt, M, rfl, rfl, hj, hg, I⟩ := hrel
        rcases j with _ | j
        · -- all are in
          have hMN : M = N := Rise.unique I.out.2.2.1.rise HS.out.rise fun z => by rw [I.out.2.2.2.1, HNM.out, List.drop_zero]
          obtain ⟨hbw, hs, ht, _, _⟩ := I.out
          subst hMN
          have HBW := hid hbw
          have HS1 := hid hs
          have HT1 := hid ht
          clear I hbw hs ht
          go_wp2_with fail
          refine (names_any _ M _ HS1.out).mono ?_
          rintro e w4 ⟨va, rfl, ho4, hb4⟩
          have HB4 := hid (bt HBW.out hb4)
          have HS4 := hid (HS1.out.later hb4)
          have HT4 := hid (HT1.out.later hb4)
          have HVA := hid (ho4.strs (by have := HS1.out.few; omega))
          clear ho4 hb4
          go_wp2_with fail
          refine (names_any _ M _ HT4.out).mono ?_
          rintro e w5 ⟨vb, rfl, ho5, hb5⟩
          have HB5 := hid (bt HB4.out hb5)
          have HS5 := hid (HS4.out.later hb5)
          have HT5 := hid (HT4.out.later hb5)
          have HVA5 := hid (HVA.out.below hb5 (Nat.le_refl _))
          have HVB5 := hid (ho5.strs (by have := HS1.out.few; omega))
          have hla := fun W => HVA.out.len (P := Tryd.prog) 22 3 9 Tryd.underlying22 W
          have hfewM : M.length ≤ 4096 := HS1.out.few
          clear ho5 hb5
          go_wp2_with fail
          go_loopg [68] M.length (fun kx s68 wr => ∃ (i : Nat), s68 = .int .i64 i ∧ i ≤ M.length ∧ M.length - i ≤ kx ∧ Hid (∃ q, wr = w5.drewN q))
          case atStart => exact ⟨0, rfl, Nat.zero_le _, by omega, hid ⟨0, rfl⟩⟩
          case round =>
            obtain ⟨i, rfl, hi, hg2, HQ⟩ := hrel
            by_cases hil : i < M.length
            · have hbr : Below w5.heap.size w5 wr := by obtain ⟨q, hq⟩ := HQ.out; rw [hq]; exact below_drewN w5 (Below.refl _ _) q
              obtain ⟨b1, o1, hix1, hcl1⟩ := (HVA5.out.below hbr (Nat.le_refl _)).at (P := Tryd.prog) i hil 22 9 Tryd.underlying22 Tryd.sizeOf9
              have hHas : ∀ q, Calls Tryd.prog 20 #[.pointer (some ⟨b, 0, none⟩), .string (text M[i])] (wr.drewN q) fun e w' => e = .returned (.bool true) ∧ ∃ n, w' = (wr.drewN q).drewN n := fun q => by
                have := SHas_any (some ⟨b, 0, none⟩) M M[i] (wr.drewN q) (HS5.out.later (below_drewN w5 hbr q))
                rw [decide_eq_true (List.getElem_mem hil)] at this
                exact this
              have HHAS := hid hHas
              clear hHas
              by_cases h00 : i = 0
              · have hp : decide ((0 : Int) < (i : Int)) = false := decide_eq_false (by omega)
                have hp2 : decide (0 < i) = false := decide_eq_false (by omega)
                generalize text M[i] = ti at *
                clear h00 hbr
                go_wp2
                go_quiet ((go_at_call 20; exact Calls.quiet_of (HHAS.out _)))
                go_wp2
                go_roundg (M.length - (i + 1))
                case measure => omega
                case rel => exact ⟨i + 1, by go_num, by omega, Nat.le_refl _, hid (by obtain ⟨q, hq⟩ := HQ.out; rw [hq, World.drewN_drewN]; exact ⟨_, rfl⟩)⟩
              · have hp : (0 : Int) < (i : Int) := by omega
                obtain ⟨b2, o2, hix2, hcl2⟩ := (HVA5.out.below hbr (Nat.le_refl _)).at (P := Tryd.prog) (i - 1) (by omega) 22 9 Tryd.underlying22 Tryd.sizeOf9
                rw [show ((i - 1 : Nat) : Int) = (i : Int) - 1 by omega] at hix2
                have hless : Op.bytesLess (text (M[i - 1]'(by omega))).toList (text M[i]).toList = true := by rw [tless]; exact List.pairwise_iff_getElem.1 HS5.out.rise (i - 1) i (by omega) hil (by omega)
                have hp2 : 0 < i := by omega
                have hwr : IntKind.i64.wrap ((i : Int) - 1) = (i : Int) - 1 := IntWalk.i64_in _ (by omega)
                clear h00 hbr
                generalize text (M[i - 1]'(by omega)) = tj at *
                generalize text M[i] = ti at *
                go_wp2
                go_quiet ((go_at_call 20; exact Calls.quiet_of (HHAS.out _)))
                go_wp2
                go_roundg (M.length - (i + 1))
                case measure => omega
                case rel => exact ⟨i + 1, by go_num, by omega, Nat.le_refl _, hid (by obtain ⟨q, hq⟩ := HQ.out; rw [hq, World.drewN_drewN]; exact ⟨_, rfl⟩)⟩
            · have b5 : Below w5.heap.size w5 wr := by obtain ⟨q, hq⟩ := HQ.out; rw [hq]; exact below_drewN w5 (Below.refl _ _) q
              have HB6 := hid (bt HB5.out b5)
              have HS6 := hid (HS5.out.later b5)
              have HT6 := hid (HT5.out.later b5)
              have HVA6 := hid (HVA5.out.below b5 (Nat.le_refl _))
              have HVB6 := hid (HVB5.out.below b5 (Nat.le_refl _))
              clear b5 HQ
              go_wp2_with fail
              refine (SSame_any _ _ M M _ HVA6.out HVB6.out).mono ?_
              rw [decide_eq_true rfl]
              rintro e w7 ⟨rfl, hb7⟩
              have HB7 := hid (bt HB6.out hb7)
              have HL1 := hid (SLen_any _ M w7 (HS6.out.later hb7))
              have HL2 := hid (SLen_any _ M w7 (HT6.out.later hb7))
              clear hb7
              go_wp2_with fail
              refine HL1.out.mono ?_
              rintro e w8 ⟨rfl, hw8⟩
              subst hw8
              go_wp2_with fail
              refine HL2.out.mono ?_
              rintro e w9 ⟨rfl, hw9⟩
              subst hw9
              go_wp2
              go_ret
              exact ⟨rfl, HB7.out⟩
        · -- one more
          have hjl : j < l.length := by omega
          have hjj : (((j + 1 : Nat) : Int) - 1) = (j : Int) := by omega
          have hs0 : Strs wr (.slice a0 n0 c0) l := H0.out.below I.out.1 (Nat.le_refl _)
          obtain ⟨b1, o1, hix1, hcl1⟩ := hs0.at (P := Tryd.prog) j hjl 22 9 Tryd.underlying22 Tryd.sizeOf9
          obtain ⟨x, hx⟩ : ∃ x, l[j] = x := ⟨_, rfl⟩
          have hxm : x ∈ l := by rw [← hx]; exact List.getElem_mem hjl
          have hdr : l.drop j = x :: l.drop (j + 1) := by rw [← hx]; exact List.drop_eq_getElem_cons hjl
          rw [hx] at hcl1
          have hba : Below wr.heap.size wr (wr.drew.alloc (.cells #[.string (text x), .string (text x)] 9)) := (below_drewN wr (Below.refl _ wr) 1).alloc (Nat.le_refl _) _
          have hrow := Row.ofBuild (sz := 1) wr.drew #[.string (text x), .string (text x)] 9 2 rfl (by omega)
          have hwith := With_any pt M _ [x, x] _ (I.out.2.2.1.later hba) (show Strs _ _ [x, x] from hrow) (by simp) (fun z hz => by
            have : z = x := by simpa using hz
            subst this
            have := HSL.out.2 z hxm; omega)
          have HWI := hid hwith
          have HBA := hid hba
          have HXM := hid hxm
          have HDR := hid hdr
          have hcl1' : wr.drew.cell? ⟨b1, o1, none⟩ = some (.string (text x)) := hcl1
          clear hwith hba hrow hs0 hx hxm hdr hcl1
          generalize htx : text x = tx at *
          rw [hjj]
          go_wp2
          go_region_with (go_at_call 14; refine HWI.out.mono ?_; rintro e w4 ⟨pu, eu, rfl, hgu, hb4⟩; have HGU := hid hgu; have HB4 := hid hb4; clear hgu hb4)
          all_goals
            obtain ⟨rfl, ⟨bu, rfl⟩, HU⟩ : eu = 0 ∧ (∃ b, pu = some ⟨b, 0, none⟩) ∧ Hid (ScAt w4 pu (put M [x, x])) := by
              rcases HGU.out with ⟨_, _, h⟩ | ⟨_, _, _, h⟩ | ⟨h1, h2, _, _, hs⟩
              · exfalso
                rw [List.all_eq_false] at h
                obtain ⟨z, hz, hz2⟩ := h
                have : z = x := by simpa using hz
                subst this
                exact hz2 (HALL.out z HXM.out)
              · exfalso
                have := put_grows (m := [x, x]) I.out.2.2.1.rise
                have h5 := I.out.2.2.2.2
                simp at this; omega
              · exact ⟨h1, h2, hid hs⟩
            clear HGU
            go_wp2
            go_roundg j
            case measure => omega
            case rel =>
              have hbb : Below wr.heap.size wr w4 := HBA.out.trans (HB4.out.mono HBA.out.size)
              refine ⟨j, some ⟨bu, 0, none⟩, put M [x, x], rfl, rfl, by omega, Nat.le_refl _, hid ⟨bt I.out.1 hbb, I.out.2.1.later hbb, HU.out, fun z => ?_, ?_⟩⟩
              · rw [put_mem, I.out.2.2.2.1, HDR.out]
                simp only [List.mem_cons, List.mem_nil_iff, or_false, or_self]
                exact Or.comm
              · have := put_grows (m := [x, x]) I.out.2.2.1.rise
                have h5 := I.out.2.2.2.2
                simp at this; omega
set_option maxHeartbeats 4000000 in
theorem ScopeOrder_many (v0 : Value) (l : List (List UInt8)) (w : World) (h0 : Strs w v0 l) (h60 : 60 < l.length) :
    Calls Tryd.prog 9 #[v0] w fun e w' => e = .returned (.bool true) ∧ Below w.heap.size w w' := by
  obtain ⟨a0, n0, c0, rfl⟩ := slice_of h0
  have hG := fun (w1 : World) (hb1 : Below w.heap.size w w1) => by
    have hba : Below w1.heap.size w1 (w1.alloc (.cells #[.slice a0 n0 c0] 22)) := (Below.refl _ w1).alloc (Nat.le_refl _) _
    have h2 := Row.ofBuild (sz := 1) w1 #[.slice a0 n0 c0] 22 1 rfl (by omega)
    exact Great_loose _ [.slice a0 n0 c0] [l] _ h2 (fun i hi => by
      rcases i with _ | i
      · exact (h0.below hb1 (Nat.le_refl _)).below hba (Nat.le_refl _)
      · exfalso; simp at hi)
  have HBA := hid (fun (w1 : World) => (show Below w1.heap.size w1 (w1.alloc (.cells #[.slice a0 n0 c0] 22)) from (Below.refl _ w1).alloc (Nat.le_refl _) _))
  have hlen0 := fun W => h0.len (P := Tryd.prog) 22 3 9 Tryd.underlying22 W
  have hle := h0.le
  have hbz : (60 : Int) < (l.length : Int) := by omega
  have HG := hid hG
  clear h0 hG h60
  go_enter Tryd.func9, Tryd.ntmps9
  go_wp2_with fail
  refine (alive_any w).mono ?_
  rintro e w1 ⟨rfl, hb1⟩
  go_wp2_with fail
  refine (HG.out w1 hb1).mono ?_
  rintro e w2 ⟨m, rfl, rfl⟩
  have HB2 := hid (hb1.trans ((HBA.out w1).mono hb1.size))
  clear hb1
  cases m with
  | true =>
    go_wp2_with fail
    refine (alive_any _).mono ?_
    rintro e w3 ⟨rfl, hb3⟩
    have HB3 := hid (bt HB2.out hb3)
    go_wp2
    go_ret
    exact ⟨rfl, HB3.out⟩
  | false =>
    go_wp2_with fail
    refine (alive_any _).mono ?_
    rintro e w3 ⟨rfl, hb3⟩
    have HB3 := hid (bt HB2.out hb3)
    go_wp2
    go_ret
    exact ⟨rfl, HB3.out⟩
theorem ScopeOrder_wide (v0 : Value) (l : List (List UInt8)) (w : World) (h0 : Strs w v0 l) (hx : ∀ x ∈ l, x.length ≤ 140737488355328) :
    Calls Tryd.prog 9 #[v0] w fun e w' => e = .returned (.bool true) ∧ Below w.heap.size w w' := by
  by_cases h : 60 < l.length
  · exact ScopeOrder_many v0 l w h0 h
  · exact ScopeOrder_few v0 l w h0 (by omega) hx
end Go.Proofs.YthggoohchjifnaaDoor.Sc
