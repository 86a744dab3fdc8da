/- Layer 10: what the statements share: same, alive. -/
import Derived.Test.YtlhhjocfbafoeaaGreatDoorXpMath7
import Derived.Test.YtlhhjocfbafoeaaGreatDoorXbS
import Derived.Test.YtlhhjocfbafoeaaGreatDoorXpH
set_option linter.unusedVariables false
set_option linter.unusedSimpArgs false
namespace Go.Proofs.YtlhhjocfbafoeaaGreatDoor.Xp
open Go Go.Proofs.YtlhhjocfbafoeaaGreatDoor Go.Proofs.YtlhhjocfbafoeaaGreatDoor.Utf Go.Proofs.YtlhhjocfbafoeaaGreatDoor.Names Go.Proofs.YtlhhjocfbafoeaaGreatDoor.Sc Go.RowKit
set_option maxRecDepth 100000

set_option maxHeartbeats 4000000 in
theorem same_any (u v : Value) (a b : List Nam) (w : World) (hu : Strs w u a) (hv : Strs w v b) :
    Calls Tryz.prog 16 #[u, v] w fun e w' => e = .returned (.bool (decide (a = b))) ∧ Below w.heap.size w w' := by
  have hla := fun W => hu.len (P := Tryz.prog) 22 3 9 undS W
  have hlb := fun W => hv.len (P := Tryz.prog) 22 3 9 undS W
  have hle := hu.le
  have mixed : Tryz.prog.follows Departure.mixedOrders = true := by kernel_rfl
  have HU := hid hu
  have HV := hid hv
  clear hu hv
  by_cases hn : a.length = b.length
  · rw [← hn] at hlb
    have HN := hid hn
    clear hn
    go_enter Tryz.func16, Tryz.ntmps16
    go_wp2_with fail
    go_loopw [13] (fun i wr => ∃ k : Nat, i = .int .i64 k ∧ k ≤ a.length ∧ (∀ j, j < k → a[j]? = b[j]?) ∧ Below w.heap.size w wr) (fun i _ => a.length - (intOf i).toNat)
    case atStart => exact ⟨0, rfl, by omega, fun j hj => absurd hj (Nat.not_lt_zero _), b0 _⟩
    case round =>
      obtain ⟨k, rfl, hk, hall, hbr⟩ := hrel
      have HA := hid hall
      have HB := hid hbr
      by_cases hlt : k < a.length
      · obtain ⟨b1, o1, i1, c1⟩ := (HU.out.below hbr (Nat.le_refl _)).at k hlt 22 9 undS sizS
        obtain ⟨b2, o2, i2, c2⟩ := (HV.out.below hbr (Nat.le_refl _)).at k (by rw [← HN.out]; exact hlt) 22 9 undS sizS
        have hq1 : a[k]? = some a[k] := List.getElem?_eq_getElem _
        have hq2 : b[k]? = some (b[k]'(by rw [← HN.out]; exact hlt)) := List.getElem?_eq_getElem _
        generalize a[k] = x at *
        generalize b[k]'(by rw [← HN.out]; exact hlt) = y at *
        have Q1 := hid hq1
        have Q2 := hid hq2
        clear hall hbr hq1 hq2
        by_cases hx : x = y
        · have hxx : ((text x).toList == (text y).toList) = true := by rw [text_beq]; simpa using hx
          have HX := hid hx
          clear hx
          go_wp2_with fail
          go_region_o
          go_wp2
          go_roundw
          case rel =>
            refine ⟨k + 1, by go_num, by omega, fun j hj => ?_, HB.out.drew⟩
            rcases Nat.lt_or_ge j k with h | h
            · exact HA.out j h
            · obtain rfl : j = k := by omega
              rw [Q1.out, Q2.out, HX.out]
          case measure => simp [intOf]; omega
        · have hxx : ((text x).toList == (text y).toList) = false := by rw [text_beq]; simpa using hx
          have HX := hid hx
          clear hx
          go_wp2_with fail
          go_region_o
          go_wp2
          go_ret
          refine ⟨?_, HB.out.drew⟩
          have : decide (a = b) = false := by
            rw [decide_eq_false_iff_not]
            intro e
            subst e
            exact HX.out (Option.some.inj (Q1.out.symm.trans Q2.out))
          rw [this]; rfl
      · clear hall hbr
        go_wp2
        go_ret
        refine ⟨?_, HB.out⟩
        have : decide (a = b) = true := by
          rw [decide_eq_true_eq]
          refine List.ext_getElem? fun j => ?_
          rcases Nat.lt_or_ge j k with h | h
          · exact HA.out j h
          · rw [List.getElem?_eq_none (by omega), List.getElem?_eq_none (by have := HN.out; omega)]
        rw [this]; rfl
  · have hne : ((a.length : Int) == (b.length : Int)) = false := by rw [beq_eq_false_iff_ne]; omega
    have hne2 : ((a.length : Int) != (b.length : Int)) = true := by rw [bne_iff_ne]; omega
    have hd : decide (a = b) = false := by rw [decide_eq_false_iff_not]; intro e; exact hn (by rw [e])
    have HD := hid hd
    clear hn hd
    go_enter Tryz.func16, Tryz.ntmps16
    go_wp2_with fail
    go_ret
    exact ⟨by rw [HD.out]; rfl, b0 _⟩
def forE : Ex := .mk 12 [120] [] [.mk 3 [97] [] [], .mk 5 [43] [] [.mk 3 [120] [] [], .mk 3 [121] [] []]]
def mapE : Ex := .mk 17 [] [[107], [109]] [.mk 0 [49] [] [], .mk 3 [107] [] []]
theorem forE_check : checkV forE = 0 := by
  rw [checkV_of (by decide +kernel)]
  decide +kernel
theorem mapE_check : checkV mapE = 0 := by
  rw [checkV_of (by decide +kernel)]
  decide +kernel
theorem rise_two (a b : UInt8) (h : Op.bytesLess [a] [b] = true) : Rise [[a], [b]] := by simp [Rise, h]
theorem forE_free : freeV forE = [[97], [121]] := by
  obtain ⟨h1, h2⟩ := freeV_facts (e := forE) (by decide +kernel) (by decide +kernel)
  refine Rise.unique h1 (rise_two _ _ (by decide +kernel)) fun z => ?_
  rw [h2, show fr forE [] = [[97], [121]] from by decide +kernel]
theorem mapE_free : freeV mapE = [] := by
  obtain ⟨h1, h2⟩ := freeV_facts (e := mapE) (by decide +kernel) (by decide +kernel)
  refine Rise.unique h1 (by simp [Rise]) fun z => ?_
  rw [h2, show fr mapE [] = [] from by decide +kernel]
theorem forE_in : scopedV [[97], [121]] forE = 0 :=
  scoped_in (more := []) (by decide +kernel) (by decide) (fun z hz => .inl (by
    rw [show nams forE = [[120], [97], [43], [120], [121]] from by decide +kernel]
    simp only [List.mem_cons, List.not_mem_nil, or_false] at hz ⊢
    rcases hz with rfl | rfl <;> simp)) (by decide +kernel) (by
    rw [show fr forE [] = [[97], [121]] from by decide +kernel]
    exact fun z hz => hz)
theorem forE_out : scopedV [[97], [120]] forE = 13 :=
  scoped_out (by decide +kernel) (by decide) (fun z hz => by
    rw [show nams forE = [[120], [97], [43], [120], [121]] from by decide +kernel]
    simp only [List.mem_cons, List.not_mem_nil, or_false] at hz ⊢
    rcases hz with rfl | rfl <;> simp) (by decide +kernel) ⟨[121], by
    rw [show fr forE [] = [[97], [121]] from by decide +kernel]; simp, by decide⟩
theorem forE_fit : forE.fit := by simp [forE, Ex.fit, fitL]; decide
theorem mapE_fit : mapE.fit := by simp [mapE, Ex.fit, fitL]; decide
theorem sizeEx : (Tryz.prog.info? 25).map (·.size) = some 4 := by kernel_rfl
set_option maxHeartbeats 1000000 in
theorem aliveN_any (s : Nam) (w : World) : Calls Tryz.prog 27 #[.string (text s)] w fun e w' => e = .returned (.agg #[.int .i64 3, .string (text s), .slice none 0 0, .slice none 0 0]) ∧ Below w.heap.size w w' := by
  have B1 := hid (ba (b0 w) (.cells #[.int .i64 3, .string (text s), .slice none 0 0, .slice none 0 0] 25))
  go_enter Tryz.func27, Tryz.ntmps27
  go_wp2
  refine bodyPost_ret (Num.results_one rfl _ _ w.heap.size #[.int .i64 3, .string (text s), .slice none 0 0, .slice none 0 0] rfl (run_loadVar_row _ _ _ _ _ _ _ (heap_alloc_new w _) Tryz.underlying25 rfl sizeEx)) rfl ?_
  exact ⟨rfl, B1.out⟩
/-- Not more than are looked at. -/
def Small (x : Ex) : Prop := x.size ≤ 1500 ∧ x.wgt lets ≤ 8000
theorem Small.mass {x : Ex} (h : Small x) : x.mass ≤ 9500 := by have := wgt_mass x; unfold Small at h; omega
set_option maxHeartbeats 8000000 in
theorem Great_any (v : Value) (l : List Ex) (w : World) (hv : Exs w v l) (hm : ∀ x ∈ l, x.mass ≤ 2000000) :
    Calls Tryz.prog 10 #[v] w fun e w' => ∃ n : Int, e = .returned (.int .i64 n) ∧ (n = 0 ∨ n = 1) ∧ (n = 0 → ∀ x ∈ l, Small x) ∧ Below w.heap.size w w' := by
  have vlen := fun X => hv.len 3 X
  have hle := hv.le
  have HV := hid hv
  have HM := hid hm
  clear hv hm
  go_enter Tryz.func10, Tryz.ntmps10
  go_wp2_with fail
  go_loopg [7] l.length (fun gk iv X => ∃ i : Nat, iv = .int .i64 i ∧ i + gk = l.length ∧ Hid (Below w.heap.size w X) ∧ Hid (∀ j (h : j < l.length), j < i → Small l[j]))
  case atStart => exact ⟨0, rfl, by omega, hid (b0 w), hid (fun j _ hj => absurd hj (Nat.not_lt_zero _))⟩
  case round =>
    rename World => X
    obtain ⟨i, rfl, hig, HX, HA⟩ := hrel
    by_cases hi : i < l.length
    · obtain ⟨b1, o1, nv1, pv1, ix, e0, e1, e2, e3, is1⟩ := (HV.out.later HX.out).at i hi
      have hmx := HM.out _ (List.getElem_mem hi)
      have hq : l[i]? = some l[i] := List.getElem?_eq_getElem hi
      have ix' := ix .i64
      obtain ⟨x, hx⟩ : ∃ x, l[i] = x := ⟨_, rfl⟩
      rw [hx] at e0 e1 is1 hmx hq
      have HQ := hid hx
      obtain ⟨xn, xp⟩ := is1.parts
      obtain ⟨xo, xl, xc, rfl⟩ := Strs.form xn
      obtain ⟨yo, yl, yc, rfl⟩ := xp.form
      have hmass := wgt_mass x
      obtain ⟨Y, hY⟩ : ∃ Y, X.alloc (.cells #[.int .i64 x.kind, .string (text x.s), .slice xo xl xc, .slice yo yl yc] 25) = Y := ⟨_, rfl⟩
      have BY := ba (b0 X) (.cells #[.int .i64 x.kind, .string (text x.s), .slice xo xl xc, .slice yo yl yc] 25)
      have PY := heap_alloc_new X (.cells #[.int .i64 x.kind, .string (text x.s), .slice xo xl xc, .slice yo yl yc] 25)
      rw [hY] at BY PY
      have CN := hid (RCount_any x.size x xo xl xc yo yl yc Y 1500 (Nat.le_refl _) (is1.later BY) (by omega) (by omega) (by omega))
      have BT := hid (fun (Z : World) (hZ : Below X.heap.size X Z) => RBytes_any x.size x xo xl xc yo yl yc Z 8000 (Nat.le_refl _) (is1.later hZ) (by omega) (by omega) (by omega))
      have k0 : Y.cell? ⟨X.heap.size, 0, none⟩ = some (.int .i64 x.kind) := by rw [Lib.cell_of_heap PY]; rfl
      have k1 : Y.cell? ⟨X.heap.size, 1, none⟩ = some (.string (text x.s)) := by rw [Lib.cell_of_heap PY]; rfl
      have k2 : Y.cell? ⟨X.heap.size, 2, none⟩ = some (.slice xo xl xc) := by rw [Lib.cell_of_heap PY]; rfl
      have k3 : Y.cell? ⟨X.heap.size, 3, none⟩ = some (.slice yo yl yc) := by rw [Lib.cell_of_heap PY]; rfl
      have HBY := hid BY
      have HPY := hid PY
      have hc1 := cnt_all one1 x 1500
      have hc2 := cnt_more one1 x 1500
      have hc3 := cnt_all lets x 8000
      have hc4 := cnt_more lets x 8000
      rw [wgt_size] at hc1 hc2
      obtain ⟨r1, hr1⟩ : ∃ r1, cnt one1 x 1500 = r1 := ⟨_, rfl⟩
      obtain ⟨r2, hr2⟩ : ∃ r2, cnt lets x 8000 = r2 := ⟨_, rfl⟩
      rw [hr1] at CN hc1 hc2
      simp only [hr2] at BT hc3 hc4
      have HC := hid (show r1 ≤ 1500 → r2 ≤ 8000 → Small x from fun h1 h2 => ⟨by omega, by omega⟩)
      unfold exV at CN BT
      clear hq is1 xn xp BY PY hc1 hc2 hc3 hc4 hr1 hr2 ix hmx hmass hx
      by_cases c1 : 1500 < r1
      · go_wp2_with fail
        refine CN.out.mono ?_
        rintro e w1 ⟨rfl, hb1⟩
        have HB1 := hid (HX.out.trans ((bt HBY.out hb1).mono HX.out.size))
        clear hb1
        go_wp2
        go_ret
        exact ⟨1, rfl, .inr rfl, fun h => absurd h (by decide), HB1.out⟩
      · have d1 : decide ((1500 : Int) < r1) = false := decide_eq_false c1
        go_wp2_with fail
        refine CN.out.mono ?_
        rintro e w1 ⟨rfl, hb1⟩
        have HB1 := hid (bt HBY.out hb1)
        have h4 := (hb1.block _ (lt_of_some HPY.out)).trans HPY.out
        have f0 : w1.cell? ⟨X.heap.size, 0, none⟩ = some (.int .i64 x.kind) := by rw [Lib.cell_of_heap h4]; rfl
        have f1 : w1.cell? ⟨X.heap.size, 1, none⟩ = some (.string (text x.s)) := by rw [Lib.cell_of_heap h4]; rfl
        have f2 : w1.cell? ⟨X.heap.size, 2, none⟩ = some (.slice xo xl xc) := by rw [Lib.cell_of_heap h4]; rfl
        have f3 : w1.cell? ⟨X.heap.size, 3, none⟩ = some (.slice yo yl yc) := by rw [Lib.cell_of_heap h4]; rfl
        clear hb1 h4
        go_wp2_with fail
        refine (BT.out w1 HB1.out).mono ?_
        rintro e w2 ⟨rfl, hb2⟩
        have HB2 := hid (HX.out.trans ((bt HB1.out hb2).mono HX.out.size))
        clear hb2
        by_cases c2 : 8000 < r2
        · go_wp2
          go_ret
          exact ⟨1, rfl, .inr rfl, fun h => absurd h (by decide), HB2.out⟩
        · have HS := hid (HC.out (by omega) (by omega))
          go_wp2
          go_roundg (gk - 1)
          case measure => omega
          case rel =>
            refine ⟨i + 1, by go_num, by omega, HB2, hid fun j h hj => ?_⟩
            rcases Nat.lt_or_ge j i with h' | h'
            · exact HA.out j h h'
            · obtain rfl : j = i := by omega
              rw [HQ.out]; exact HS.out
    · go_wp2
      go_ret
      exact ⟨0, rfl, .inl rfl, fun _ x hx => by
        obtain ⟨j, hj, rfl⟩ := List.getElem_of_mem hx
        exact HA.out j hj (by omega), HX.out⟩
set_option maxHeartbeats 8000000 in
theorem alive_any (w : World) (hw : Num.Fit w) : Calls Tryz.prog 9 #[] w fun e w' => e = .returned (.bool true) ∧ Below w.heap.size w w' := by
  have NA := hid (fun W => aliveN_any [97] W)
  have NX := hid (fun W => aliveN_any [120] W)
  have NY := hid (fun W => aliveN_any [121] W)
  have NK := hid (fun W => aliveN_any [107] W)
  have HW := hid hw
  clear hw
  go_enter Tryz.func9, Tryz.ntmps9
  go_wp2_with fail
  refine (NA.out _).mono ?_
  rintro e w1 ⟨rfl, hb1⟩
  have HB1 := hid hb1
  clear hb1
  go_wp2_with fail
  refine (NX.out _).mono ?_
  rintro e w2 ⟨rfl, hb2⟩
  have HB2 := hid (bt HB1.out hb2)
  clear hb2
  go_wp2_with fail
  refine (NY.out _).mono ?_
  rintro e w3 ⟨rfl, hb3⟩
  have HB3 := hid (bt HB2.out hb3)
  clear hb3
  -- the world with x in its box
  have m1 := Exs.made (w := w3) [(.mk 3 [120] [] [], .slice none 0 0, .slice none 0 0), (.mk 3 [121] [] [], .slice none 0 0, .slice none 0 0)] (by
    intro x hx
    simp only [List.mem_cons, List.not_mem_nil, or_false] at hx
    rcases hx with rfl | rfl <;> exact IsE.of (Row.nil 1 w3) (Exs.nil w3)) (by simp)
  obtain ⟨X1, h1⟩ : ∃ X1, w3.alloc (.cells #[.int .i64 3, .string (text [120]), .slice none 0 0, .slice none 0 0, .int .i64 3, .string (text [121]), .slice none 0 0, .slice none 0 0] 25) = X1 := ⟨_, rfl⟩
  have b1 : Below w3.heap.size w3 X1 := h1 ▸ ba (b0 w3) _
  replace m1 : Exs X1 (.slice (some ⟨w3.heap.size, 0, none⟩) 2 2) [.mk 3 [120] [] [], .mk 3 [121] [] []] := h1 ▸ m1
  have m2 := Exs.made (w := X1) [(.mk 3 [97] [] [], .slice none 0 0, .slice none 0 0), (.mk 5 [43] [] [.mk 3 [120] [] [], .mk 3 [121] [] []], .slice none 0 0, .slice (some ⟨w3.heap.size, 0, none⟩) 2 2)] (by
    intro x hx
    simp only [List.mem_cons, List.not_mem_nil, or_false] at hx
    rcases hx with rfl | rfl
    · exact IsE.of (Row.nil 1 X1) (Exs.nil X1)
    · exact IsE.of (Row.nil 1 X1) m1) (by simp)
  obtain ⟨X2, h2⟩ : ∃ X2, X1.alloc (.cells #[.int .i64 3, .string (text [97]), .slice none 0 0, .slice none 0 0, .int .i64 5, .string ⟨#[43]⟩, .slice none 0 0, .slice (some ⟨w3.heap.size, 0, none⟩) 2 2] 25) = X2 := ⟨_, rfl⟩
  have b2 : Below X1.heap.size X1 X2 := h2 ▸ ba (b0 X1) _
  replace m2 : Exs X2 (.slice (some ⟨X1.heap.size, 0, none⟩) 2 2) forE.l := by rw [← h2]; exact m2
  obtain ⟨X3, h3⟩ : ∃ X3, X2.alloc (.cells #[.int .i64 12, .string ⟨#[120]⟩, .slice none 0 0, .slice (some ⟨X1.heap.size, 0, none⟩) 2 2] 25) = X3 := ⟨_, rfl⟩
  have b3 : Below X2.heap.size X2 X3 := h3 ▸ ba (b0 X2) _
  have p3 : X3.heap[X2.heap.size]? = some (.cells #[.int .i64 12, .string ⟨#[120]⟩, .slice none 0 0, .slice (some ⟨X1.heap.size, 0, none⟩) 2 2] 25) := by
    rw [← h3]; exact heap_alloc_new X2 _
  have hs := Row.ofBuild (sz := 1) X3 #[.string ⟨#[107]⟩, .string ⟨#[109]⟩] 9 2 rfl (by omega)
  obtain ⟨X4, h4⟩ : ∃ X4, X3.alloc (.cells #[.string ⟨#[107]⟩, .string ⟨#[109]⟩] 9) = X4 := ⟨_, rfl⟩
  have b4 : Below X3.heap.size X3 X4 := h4 ▸ ba (b0 X3) _
  replace hs : Strs X4 (.slice (some ⟨X3.heap.size, 0, none⟩) 2 2) [[107], [109]] := by rw [← h4]; exact hs
  have HXF := hid (IsE.of (k := 12) (s := [120]) (Row.nil 1 X2) m2 : IsE X2 forE (.slice none 0 0) (.slice (some ⟨X1.heap.size, 0, none⟩) 2 2))
  have HP3 := hid p3
  have HS4 := hid hs
  have HB4 := hid (bt HB3.out (bt b1 (bt b2 (bt b3 b4))))
  have HB3' := hid b3
  have HB4' := hid b4
  clear m1 m2 b1 b2 b3 b4 p3 hs
  go_wp2_with fail
  refine (NK.out _).mono ?_
  rintro e w5 ⟨rfl, hb5⟩
  have HB5 := hid hb5
  clear hb5 h1 h2 h3 h4
  go_wp2_with fail
  have m5 := Exs.made (w := w5) [(.mk 0 [49] [] [], .slice none 0 0, .slice none 0 0), (.mk 3 [107] [] [], .slice none 0 0, .slice none 0 0)] (by
    intro x hx
    simp only [List.mem_cons, List.not_mem_nil, or_false] at hx
    rcases hx with rfl | rfl <;> exact IsE.of (Row.nil 1 w5) (Exs.nil w5)) (by simp)
  obtain ⟨W6, h6⟩ : ∃ W6, w5.alloc (.cells #[.int .i64 0, .string ⟨#[49]⟩, .slice none 0 0, .slice none 0 0, .int .i64 3, .string (text [107]), .slice none 0 0, .slice none 0 0] 25) = W6 := ⟨_, rfl⟩
  have b6 : Below w5.heap.size w5 W6 := h6 ▸ ba (b0 w5) _
  have z6 : W6.heap.size = w5.heap.size + 1 := by rw [← h6]; simp
  replace m5 : Exs W6 (.slice (some ⟨w5.heap.size, 0, none⟩) 2 2) mapE.l := by rw [← h6]; exact m5
  obtain ⟨W7, h7⟩ : ∃ W7, W6.alloc (.cells #[.int .i64 17, .string ⟨#[]⟩, .slice (some ⟨X3.heap.size, 0, none⟩) 2 2, .slice (some ⟨w5.heap.size, 0, none⟩) 2 2] 25) = W7 := ⟨_, rfl⟩
  have b7 : Below W6.heap.size W6 W7 := h7 ▸ ba (b0 W6) _
  have z7 : W7.heap.size = w5.heap.size + 1 + 1 := by rw [← h7]; simp [z6]
  have p7 : W7.heap[w5.heap.size + 1]? = some (.cells #[.int .i64 17, .string ⟨#[]⟩, .slice (some ⟨X3.heap.size, 0, none⟩) 2 2, .slice (some ⟨w5.heap.size, 0, none⟩) 2 2] 25) := by
    rw [← h7, ← z6]; exact heap_alloc_new W6 _
  have hs7 := Row.ofBuild (sz := 1) W7 #[.string ⟨#[97]⟩, .string ⟨#[121]⟩] 9 2 rfl (by omega)
  rw [z7] at hs7
  obtain ⟨W8, h8⟩ : ∃ W8, W7.alloc (.cells #[.string ⟨#[97]⟩, .string ⟨#[121]⟩] 9) = W8 := ⟨_, rfl⟩
  have b8 : Below W7.heap.size W7 W8 := h8 ▸ ba (b0 W7) _
  rw [h8] at hs7
  rw [h6, h7, h8]
  have BX := HB4.out.trans (HB5.out.mono HB4.out.size)
  have x3 : X2.heap.size < X3.heap.size := by have := lt_of_some HP3.out; omega
  have HK := hid (show ∀ W, Below W7.heap.size W7 W → Below w.heap.size w W ∧ Num.Fit W ∧ IsE W forE (.slice none 0 0) (.slice (some ⟨X1.heap.size, 0, none⟩) 2 2) ∧ IsE W mapE (.slice (some ⟨X3.heap.size, 0, none⟩) 2 2) (.slice (some ⟨w5.heap.size, 0, none⟩) 2 2) ∧
      W.heap[X2.heap.size]? = some (.cells #[.int .i64 12, .string ⟨#[120]⟩, .slice none 0 0, .slice (some ⟨X1.heap.size, 0, none⟩) 2 2] 25) ∧
      W.heap[w5.heap.size + 1]? = some (.cells #[.int .i64 17, .string ⟨#[]⟩, .slice (some ⟨X3.heap.size, 0, none⟩) 2 2, .slice (some ⟨w5.heap.size, 0, none⟩) 2 2] 25) from fun W hW => by
    have c7 := bt b6 (bt b7 hW)
    have c5 := bt HB5.out c7
    have c3 := bt HB4'.out c5
    have c2 := bt HB3'.out c3
    have cw := bt HB4.out c5
    exact ⟨cw, HW.out.at cw, HXF.out.later c2, IsE.of (HS4.out.below c5 (Nat.le_refl _)) (m5.later (bt b7 hW)), (c3.block _ (lt_of_some HP3.out)).trans HP3.out, (hW.block _ (lt_of_some p7)).trans p7⟩)
  have N1 := hid (New_any _ [[97], [121]] W8 hs7 (by decide) (by decide))
  have HB8 := hid b8
  clear m5 h6 b6 z6 h7 b7 z7 p7 hs7 h8 b8 BX x3 HB4 HB5 HB3' HB4' HXF HS4 HP3 HW HB1 HB2 HB3 NA NX NY NK
  refine N1.out.mono ?_
  rintro e w9 ⟨po, er, rfl, hg, hb9⟩
  have hall : ([[97], [121]] : List Nam).all rightB = true := by decide +kernel
  have hput : put [] [[97], [121]] = ([[97], [121]] : List Nam) := by decide +kernel
  rcases hg with ⟨_, _, h⟩ | ⟨_, _, _, h⟩ | ⟨rfl, ⟨p1, rfl⟩, _, _, hs⟩
  · rw [hall] at h; cases h
  · rw [hput] at h; exact absurd h (by decide)
  rw [hput] at hs
  have HS1 := hid hs
  have HB9 := hid (bt HB8.out hb9)
  clear hs hb9 hall hput N1 HB8
  go_wp2_with fail
  have hs10 := Row.ofBuild (sz := 1) w9 #[.string ⟨#[97]⟩, .string ⟨#[120]⟩] 9 2 rfl (by omega)
  have b10 := ba (b0 w9) (.cells #[.string ⟨#[97]⟩, .string ⟨#[120]⟩] 9)
  refine (New_any _ [[97], [120]] _ hs10 (by decide) (by decide)).mono ?_
  rintro e w11 ⟨po, er, rfl, hg, hb11⟩
  have hall : ([[97], [120]] : List Nam).all rightB = true := by decide +kernel
  have hput : put [] [[97], [120]] = ([[97], [120]] : List Nam) := by decide +kernel
  rcases hg with ⟨_, _, h⟩ | ⟨_, _, _, h⟩ | ⟨rfl, ⟨p2, rfl⟩, _, _, hs⟩
  · rw [hall] at h; cases h
  · rw [hput] at h; exact absurd h (by decide)
  rw [hput] at hs
  have HS2 := hid hs
  have B11 := bt HB9.out (bt b10 hb11)
  have HS1' := hid (HS1.out.later (bt b10 hb11))
  have HB11 := hid B11
  clear hs hb11 hall hput hs10 b10 HS1
  obtain ⟨bw, ft, ix, im, q1, q2⟩ := HK.out _ B11
  have c0 : w11.cell? ⟨X2.heap.size, 0, none⟩ = some (.int .i64 12) := by rw [Lib.cell_of_heap q1]; rfl
  have c1 : w11.cell? ⟨X2.heap.size, 1, none⟩ = some (.string ⟨#[120]⟩) := by rw [Lib.cell_of_heap q1]; rfl
  have c2 : w11.cell? ⟨X2.heap.size, 2, none⟩ = some (.slice none 0 0) := by rw [Lib.cell_of_heap q1]; rfl
  have c3 : w11.cell? ⟨X2.heap.size, 3, none⟩ = some (.slice (some ⟨X1.heap.size, 0, none⟩) 2 2) := by rw [Lib.cell_of_heap q1]; rfl
  have CK := hid (Check_any forE none 0 0 (some ⟨X1.heap.size, 0, none⟩) 2 2 w11 ft ix forE_fit (by decide +kernel))
  rw [forE_check] at CK
  clear B11 bw ft ix im q1 q2
  go_wp2_with fail
  refine CK.out.mono ?_
  rintro e w12 ⟨rfl, hb12⟩
  have B12 := bt HB11.out hb12
  have HS1a := hid (HS1'.out.later hb12)
  have HS2a := hid (HS2.out.later hb12)
  have HB12 := hid B12
  clear hb12 c0 c1 c2 c3 HS1' HS2 CK
  obtain ⟨bw, ft, ix, im, q1, q2⟩ := HK.out _ B12
  have c0 : w12.cell? ⟨X2.heap.size, 0, none⟩ = some (.int .i64 12) := by rw [Lib.cell_of_heap q1]; rfl
  have c1 : w12.cell? ⟨X2.heap.size, 1, none⟩ = some (.string ⟨#[120]⟩) := by rw [Lib.cell_of_heap q1]; rfl
  have c2 : w12.cell? ⟨X2.heap.size, 2, none⟩ = some (.slice none 0 0) := by rw [Lib.cell_of_heap q1]; rfl
  have c3 : w12.cell? ⟨X2.heap.size, 3, none⟩ = some (.slice (some ⟨X1.heap.size, 0, none⟩) 2 2) := by rw [Lib.cell_of_heap q1]; rfl
  have FR := hid (Free_any forE none 0 0 (some ⟨X1.heap.size, 0, none⟩) 2 2 w12 ix (by decide +kernel))
  rw [forE_free] at FR
  clear B12 bw ft ix im q1 q2
  go_wp2_with fail
  refine FR.out.mono ?_
  rintro e w13 ⟨vf, rfl, hvf, hb13⟩
  have hs14 := Row.ofBuild (sz := 1) w13 #[.string ⟨#[97]⟩, .string ⟨#[121]⟩] 9 2 rfl (by omega)
  have b14 := ba (b0 w13) (.cells #[.string ⟨#[97]⟩, .string ⟨#[121]⟩] 9)
  have SM := hid (same_any vf _ [[97], [121]] [[97], [121]] _ (hvf.below b14 (Nat.le_refl _)) hs14)
  rw [decide_eq_true (rfl : ([[97], [121]] : List Nam) = [[97], [121]])] at SM
  have HB14 := hid (bt HB12.out (bt hb13 b14))
  have HS1b := hid (HS1a.out.later (bt hb13 b14))
  have HS2b := hid (HS2a.out.later (bt hb13 b14))
  clear hvf hb13 hs14 b14 c0 c1 c2 c3 FR HS1a HS2a
  go_wp2_with fail
  refine SM.out.mono ?_
  rintro e w15 ⟨rfl, hb15⟩
  have B15 := bt HB14.out hb15
  have HS1c := hid (HS1b.out.later hb15)
  have HS2c := hid (HS2b.out.later hb15)
  have HB15 := hid B15
  clear hb15 SM HS1b HS2b
  obtain ⟨bw, ft, ix, im, q1, q2⟩ := HK.out _ B15
  have c0 : w15.cell? ⟨w5.heap.size + 1, 0, none⟩ = some (.int .i64 17) := by rw [Lib.cell_of_heap q2]; rfl
  have c1 : w15.cell? ⟨w5.heap.size + 1, 1, none⟩ = some (.string ⟨#[]⟩) := by rw [Lib.cell_of_heap q2]; rfl
  have c2 : w15.cell? ⟨w5.heap.size + 1, 2, none⟩ = some (.slice (some ⟨X3.heap.size, 0, none⟩) 2 2) := by rw [Lib.cell_of_heap q2]; rfl
  have c3 : w15.cell? ⟨w5.heap.size + 1, 3, none⟩ = some (.slice (some ⟨w5.heap.size, 0, none⟩) 2 2) := by rw [Lib.cell_of_heap q2]; rfl
  have CK := hid (Check_any mapE (some ⟨X3.heap.size, 0, none⟩) 2 2 (some ⟨w5.heap.size, 0, none⟩) 2 2 w15 ft im mapE_fit (by decide +kernel))
  rw [mapE_check] at CK
  clear B15 bw ft ix im q1 q2
  go_wp2_with fail
  refine CK.out.mono ?_
  rintro e w16 ⟨rfl, hb16⟩
  have B16 := bt HB15.out hb16
  have HS1d := hid (HS1c.out.later hb16)
  have HS2d := hid (HS2c.out.later hb16)
  have HB16 := hid B16
  clear hb16 CK HS1c HS2c c0 c1 c2 c3
  obtain ⟨bw, ft, ix, im, q1, q2⟩ := HK.out _ B16
  have c0 : w16.cell? ⟨w5.heap.size + 1, 0, none⟩ = some (.int .i64 17) := by rw [Lib.cell_of_heap q2]; rfl
  have c1 : w16.cell? ⟨w5.heap.size + 1, 1, none⟩ = some (.string ⟨#[]⟩) := by rw [Lib.cell_of_heap q2]; rfl
  have c2 : w16.cell? ⟨w5.heap.size + 1, 2, none⟩ = some (.slice (some ⟨X3.heap.size, 0, none⟩) 2 2) := by rw [Lib.cell_of_heap q2]; rfl
  have c3 : w16.cell? ⟨w5.heap.size + 1, 3, none⟩ = some (.slice (some ⟨w5.heap.size, 0, none⟩) 2 2) := by rw [Lib.cell_of_heap q2]; rfl
  have FR := hid (Free_any mapE (some ⟨X3.heap.size, 0, none⟩) 2 2 (some ⟨w5.heap.size, 0, none⟩) 2 2 w16 im (by decide +kernel))
  rw [mapE_free] at FR
  clear B16 bw ft ix im q1 q2
  go_wp2_with fail
  refine FR.out.mono ?_
  rintro e w17 ⟨vf, rfl, hvf, hb17⟩
  have flen := fun X => hvf.len (P := Tryz.prog) 22 3 9 undS X
  simp only [List.length_nil] at flen
  have B17 := bt HB16.out hb17
  have HS1e := hid (HS1d.out.later hb17)
  have HS2e := hid (HS2d.out.later hb17)
  have HB17 := hid B17
  clear hb17 FR HS1d HS2d c0 c1 c2 c3 hvf
  obtain ⟨bw, ft, ix, im, q1, q2⟩ := HK.out _ B17
  have c0 : w17.cell? ⟨X2.heap.size, 0, none⟩ = some (.int .i64 12) := by rw [Lib.cell_of_heap q1]; rfl
  have c1 : w17.cell? ⟨X2.heap.size, 1, none⟩ = some (.string ⟨#[120]⟩) := by rw [Lib.cell_of_heap q1]; rfl
  have c2 : w17.cell? ⟨X2.heap.size, 2, none⟩ = some (.slice none 0 0) := by rw [Lib.cell_of_heap q1]; rfl
  have c3 : w17.cell? ⟨X2.heap.size, 3, none⟩ = some (.slice (some ⟨X1.heap.size, 0, none⟩) 2 2) := by rw [Lib.cell_of_heap q1]; rfl
  have S1 := hid (Scoped_any forE none 0 0 (some ⟨X1.heap.size, 0, none⟩) 2 2 _ _ w17 HS1e.out ix (by decide +kernel))
  rw [forE_in] at S1
  clear B17 bw ft ix im q1 q2
  go_wp2_with fail
  refine S1.out.mono ?_
  rintro e w18 ⟨rfl, hb18⟩
  have B18 := bt HB17.out hb18
  have HS2f := hid (HS2e.out.later hb18)
  have HB18 := hid B18
  clear hb18 S1 HS1e HS2e c0 c1 c2 c3
  obtain ⟨bw, ft, ix, im, q1, q2⟩ := HK.out _ B18
  have c0 : w18.cell? ⟨X2.heap.size, 0, none⟩ = some (.int .i64 12) := by rw [Lib.cell_of_heap q1]; rfl
  have c1 : w18.cell? ⟨X2.heap.size, 1, none⟩ = some (.string ⟨#[120]⟩) := by rw [Lib.cell_of_heap q1]; rfl
  have c2 : w18.cell? ⟨X2.heap.size, 2, none⟩ = some (.slice none 0 0) := by rw [Lib.cell_of_heap q1]; rfl
  have c3 : w18.cell? ⟨X2.heap.size, 3, none⟩ = some (.slice (some ⟨X1.heap.size, 0, none⟩) 2 2) := by rw [Lib.cell_of_heap q1]; rfl
  have S2 := hid (Scoped_any forE none 0 0 (some ⟨X1.heap.size, 0, none⟩) 2 2 _ _ w18 HS2f.out ix (by decide +kernel))
  rw [forE_out] at S2
  clear B18 bw ft ix im q1 q2
  go_wp2_with fail
  refine S2.out.mono ?_
  rintro e w19 ⟨rfl, hb19⟩
  have HE := hid (HK.out _ (bt HB18.out hb19)).1
  clear hb19 S2 c0 c1 c2 c3
  go_wp2
  go_ret
  exact ⟨rfl, HE.out⟩
/-- A box's cells. -/
theorem box_cells {w : World} {b : Nat} {k : Int} {s : Nam} {nv pv : Value} (h : w.heap[b]? = some (.cells #[.int .i64 k, .string (text s), nv, pv] 25)) :
    w.cell? ⟨b, 0, none⟩ = some (.int .i64 k) ∧ w.cell? ⟨b, 1, none⟩ = some (.string (text s)) ∧ w.cell? ⟨b, 2, none⟩ = some nv ∧ w.cell? ⟨b, 3, none⟩ = some pv := by
  refine ⟨?_, ?_, ?_, ?_⟩ <;> (rw [Lib.cell_of_heap h]; rfl)
end Go.Proofs.YtlhhjocfbafoeaaGreatDoor.Xp
