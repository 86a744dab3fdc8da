/- Layer 10: what the statements share: same, alive. -/
import Derived.Test.YtkmdclfkmmlloaaGreatDoorXpMath7
import Derived.Test.YtkmdclfkmmlloaaGreatDoorXbS
import Derived.Test.YtkmdclfkmmlloaaGreatDoorXpH
set_option linter.unusedVariables false
set_option linter.unusedSimpArgs false
namespace Go.Proofs.YtkmdclfkmmlloaaGreatDoor.Xp
open Go Go.Proofs.YtkmdclfkmmlloaaGreatDoor Go.Proofs.YtkmdclfkmmlloaaGreatDoor.Utf Go.Proofs.YtkmdclfkmmlloaaGreatDoor.Names Go.Proofs.YtkmdclfkmmlloaaGreatDoor.Sc Go.RowKit
set_option maxRecDepth 100000

theorem sizeEx : (Tryz.prog.info? 25).map (·.size) = some 4 := by kernel_rfl
/-- Not more than are looked at. -/
def Small (x : Ex) : Prop := x.size ≤ 1500 ∧ x.wgt lets ≤ 8000
theorem Small.mass {x : Ex} (h : Small x) : x.mass ≤ 9500 := by have := wgt_mass x; unfold Small at h; omega
set_option maxHeartbeats 8000000 in
theorem Great_any (v : Value) (l : List Ex) (w : World) (hv : Exs w v l) (hm : ∀ x ∈ l, x.mass ≤ 2000000) :
    Calls Tryz.prog 8 #[v] w fun e w' => ∃ n : Int, e = .returned (.int .i64 n) ∧ (n = 0 ∨ n = 1) ∧ (n = 0 → ∀ x ∈ l, Small x) ∧ Below w.heap.size w w' := by
  have vlen := fun X => hv.len 3 X
  have hle := hv.le
  have HV := hid hv
  have HM := hid hm
  clear hv hm
  go_enter Tryz.func8, Tryz.ntmps8
  go_wp2_with fail
  go_loopg [7] l.length (fun gk iv X => ∃ i : Nat, iv = .int .i64 i ∧ i + gk = l.length ∧ Hid (Below w.heap.size w X) ∧ Hid (∀ j (h : j < l.length), j < i → Small l[j]))
  case atStart => exact ⟨0, rfl, by omega, hid (b0 w), hid (fun j _ hj => absurd hj (Nat.not_lt_zero _))⟩
  case round =>
    rename World => X
    obtain ⟨i, rfl, hig, HX, HA⟩ := hrel
    by_cases hi : i < l.length
    · obtain ⟨b1, o1, nv1, pv1, ix, e0, e1, e2, e3, is1⟩ := (HV.out.later HX.out).at i hi
      have hmx := HM.out _ (List.getElem_mem hi)
      have hq : l[i]? = some l[i] := List.getElem?_eq_getElem hi
      have ix' := ix .i64
      obtain ⟨x, hx⟩ : ∃ x, l[i] = x := ⟨_, rfl⟩
      rw [hx] at e0 e1 is1 hmx hq
      have HQ := hid hx
      obtain ⟨xn, xp⟩ := is1.parts
      obtain ⟨xo, xl, xc, rfl⟩ := Strs.form xn
      obtain ⟨yo, yl, yc, rfl⟩ := xp.form
      have hmass := wgt_mass x
      obtain ⟨Y, hY⟩ : ∃ Y, X.alloc (.cells #[.int .i64 x.kind, .string (text x.s), .slice xo xl xc, .slice yo yl yc] 25) = Y := ⟨_, rfl⟩
      have BY := ba (b0 X) (.cells #[.int .i64 x.kind, .string (text x.s), .slice xo xl xc, .slice yo yl yc] 25)
      have PY := heap_alloc_new X (.cells #[.int .i64 x.kind, .string (text x.s), .slice xo xl xc, .slice yo yl yc] 25)
      rw [hY] at BY PY
      have CN := hid (RCount_any x.size x xo xl xc yo yl yc Y 1500 (Nat.le_refl _) (is1.later BY) (by omega) (by omega) (by omega))
      have BT := hid (fun (Z : World) (hZ : Below X.heap.size X Z) => RBytes_any x.size x xo xl xc yo yl yc Z 8000 (Nat.le_refl _) (is1.later hZ) (by omega) (by omega) (by omega))
      have k0 : Y.cell? ⟨X.heap.size, 0, none⟩ = some (.int .i64 x.kind) := by rw [Lib.cell_of_heap PY]; rfl
      have k1 : Y.cell? ⟨X.heap.size, 1, none⟩ = some (.string (text x.s)) := by rw [Lib.cell_of_heap PY]; rfl
      have k2 : Y.cell? ⟨X.heap.size, 2, none⟩ = some (.slice xo xl xc) := by rw [Lib.cell_of_heap PY]; rfl
      have k3 : Y.cell? ⟨X.heap.size, 3, none⟩ = some (.slice yo yl yc) := by rw [Lib.cell_of_heap PY]; rfl
      have HBY := hid BY
      have HPY := hid PY
      have hc1 := cnt_all one1 x 1500
      have hc2 := cnt_more one1 x 1500
      have hc3 := cnt_all lets x 8000
      have hc4 := cnt_more lets x 8000
      rw [wgt_size] at hc1 hc2
      obtain ⟨r1, hr1⟩ : ∃ r1, cnt one1 x 1500 = r1 := ⟨_, rfl⟩
      obtain ⟨r2, hr2⟩ : ∃ r2, cnt lets x 8000 = r2 := ⟨_, rfl⟩
      rw [hr1] at CN hc1 hc2
      simp only [hr2] at BT hc3 hc4
      have HC := hid (show r1 ≤ 1500 → r2 ≤ 8000 → Small x from fun h1 h2 => ⟨by omega, by omega⟩)
      unfold exV at CN BT
      clear hq is1 xn xp BY PY hc1 hc2 hc3 hc4 hr1 hr2 ix hmx hmass hx
      by_cases c1 : 1500 < r1
      · go_wp2_with fail
        refine CN.out.mono ?_
        rintro e w1 ⟨rfl, hb1⟩
        have HB1 := hid (HX.out.trans ((bt HBY.out hb1).mono HX.out.size))
        clear hb1
        go_wp2
        go_ret
        exact ⟨1, rfl, .inr rfl, fun h => absurd h (by decide), HB1.out⟩
      · have d1 : decide ((1500 : Int) < r1) = false := decide_eq_false c1
        go_wp2_with fail
        refine CN.out.mono ?_
        rintro e w1 ⟨rfl, hb1⟩
        have HB1 := hid (bt HBY.out hb1)
        have h4 := (hb1.block _ (lt_of_some HPY.out)).trans HPY.out
        have f0 : w1.cell? ⟨X.heap.size, 0, none⟩ = some (.int .i64 x.kind) := by rw [Lib.cell_of_heap h4]; rfl
        have f1 : w1.cell? ⟨X.heap.size, 1, none⟩ = some (.string (text x.s)) := by rw [Lib.cell_of_heap h4]; rfl
        have f2 : w1.cell? ⟨X.heap.size, 2, none⟩ = some (.slice xo xl xc) := by rw [Lib.cell_of_heap h4]; rfl
        have f3 : w1.cell? ⟨X.heap.size, 3, none⟩ = some (.slice yo yl yc) := by rw [Lib.cell_of_heap h4]; rfl
        clear hb1 h4
        go_wp2_with fail
        refine (BT.out w1 HB1.out).mono ?_
        rintro e w2 ⟨rfl, hb2⟩
        have HB2 := hid (HX.out.trans ((bt HB1.out hb2).mono HX.out.size))
        clear hb2
        by_cases c2 : 8000 < r2
        · go_wp2
          go_ret
          exact ⟨1, rfl, .inr rfl, fun h => absurd h (by decide), HB2.out⟩
        · have HS := hid (HC.out (by omega) (by omega))
          go_wp2
          go_roundg (gk - 1)
          case measure => omega
          case rel =>
            refine ⟨i + 1, by go_num, by omega, HB2, hid fun j h hj => ?_⟩
            rcases Nat.lt_or_ge j i with h' | h'
            · exact HA.out j h h'
            · obtain rfl : j = i := by omega
              rw [HQ.out]; exact HS.out
    · go_wp2
      go_ret
      exact ⟨0, rfl, .inl rfl, fun _ x hx => by
        obtain ⟨j, hj, rfl⟩ := List.getElem_of_mem hx
        exact HA.out j hj (by omega), HX.out⟩
/-- A box's cells. -/
theorem box_cells {w : World} {b : Nat} {k : Int} {s : Nam} {nv pv : Value} (h : w.heap[b]? = some (.cells #[.int .i64 k, .string (text s), nv, pv] 25)) :
    w.cell? ⟨b, 0, none⟩ = some (.int .i64 k) ∧ w.cell? ⟨b, 1, none⟩ = some (.string (text s)) ∧ w.cell? ⟨b, 2, none⟩ = some nv ∧ w.cell? ⟨b, 3, none⟩ = some pv := by
  refine ⟨?_, ?_, ?_, ?_⟩ <;> (rw [Lib.cell_of_heap h]; rfl)
end Go.Proofs.YtkmdclfkmmlloaaGreatDoor.Xp
