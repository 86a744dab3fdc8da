/- Layer 7: contract of sum: digit by digit from behind. -/
import Derived.Test.YtjmfcgbelikcdaaDoorNumRow
import Derived.Test.YtjmfcgbelikcdaaDoorApp
import Derived.Laws.OwnMore
set_option linter.unusedVariables false
set_option linter.unusedSimpArgs false
namespace Go.Proofs.YtjmfcgbelikcdaaDoor.Num
open Go Go.Proofs.YtjmfcgbelikcdaaDoor Go.RowKit
set_option maxRecDepth 100000

/-- The last i digits are summed. -/
structure Summed (x y : List UInt8) (i c : Nat) (z : List UInt8) : Prop where
  len : z.length = i
  all : AllD z
  carry : c ≤ 1
  sum : val z + c * 10 ^ i = val (x.drop (x.length - i)) + val (y.drop (x.length - i))
theorem dig_of (k : Nat) (h : k < 10) : isd (UInt8.ofNat (48 + k)) = true ∧ (UInt8.ofNat (48 + k)).toNat = 48 + k := by
  have e : (UInt8.ofNat (48 + k)).toNat = 48 + k := by simp; omega
  exact ⟨(isd_iff _).2 (by omega), e⟩
theorem val_drop {l : List UInt8} {k : Nat} (h : k < l.length) : val (l.drop k) = (l[k].toNat - 48) * 10 ^ (l.length - (k + 1)) + val (l.drop (k + 1)) := by
  rw [List.drop_eq_getElem_cons h, val, List.length_drop]
theorem Summed.start (x y : List UInt8) (h : x.length = y.length) : Summed x y 0 0 [] := by
  refine ⟨rfl, .nil, by omega, ?_⟩
  rw [Nat.sub_zero, List.drop_eq_nil_of_le (Nat.le_refl _), List.drop_eq_nil_of_le (by omega)]
  rfl
theorem Summed.step {x y : List UInt8} {i c : Nat} {z : List UInt8} (s : Summed x y i c z) (hxy : x.length = y.length) (hx : AllD x) (hy : AllD y) (k : Nat) (hk : k + 1 + i = x.length) {D : Nat}
    (hD : D = (x[k]'(by omega)).toNat - 48 + ((y[k]'(by omega)).toNat - 48) + c) : Summed x y (i + 1) (D / 10) (UInt8.ofNat (48 + D % 10) :: z) ∧ D ≤ 19 := by
  have hkx : k < x.length := by omega
  have hky : k < y.length := by omega
  have ha := (isd_iff _).1 (hx _ (List.getElem_mem hkx))
  have hb := (isd_iff _).1 (hy _ (List.getElem_mem hky))
  have hc := s.carry
  have hd := dig_of (D % 10) (Nat.mod_lt _ (by omega))
  have hD19 : D ≤ 19 := by omega
  refine ⟨⟨by simp [s.len], .cons hd.1 s.all, by omega, ?_⟩, hD19⟩
  have e1 : x.length - (i + 1) = k := by omega
  have e2 : x.length - i = k + 1 := by omega
  have hs := s.sum
  rw [e2] at hs
  rw [e1, val_drop hkx, val_drop hky]
  have l1 : x.length - (k + 1) = i := by omega
  have l2 : y.length - (k + 1) = i := by omega
  rw [l1, l2]
  simp only [val, hd.2, s.len, Nat.add_sub_cancel_left]
  rw [Nat.pow_succ]
  generalize x[k].toNat - 48 = a at *
  generalize y[k].toNat - 48 = b at *
  generalize 10 ^ i = T at *
  have hdm : D = 10 * (D / 10) + D % 10 := (Nat.div_add_mod D 10).symm
  have key : D % 10 * T + D / 10 * (T * 10) = (a + b + c) * T := by
    rw [show (a + b + c) = 10 * (D / 10) + D % 10 by omega, Nat.add_mul]
    have : D / 10 * (T * 10) = 10 * (D / 10) * T := by ac_rfl
    omega
  have key2 : (a + b + c) * T = a * T + b * T + c * T := by rw [Nat.add_mul, Nat.add_mul]
  omega
theorem Summed.done {x y : List UInt8} {c : Nat} {z : List UInt8} (s : Summed x y x.length c z) (h : x.length = y.length) :
    AllD (UInt8.ofNat (48 + c) :: z) ∧ (UInt8.ofNat (48 + c) :: z).length = x.length + 1 ∧ val (UInt8.ofNat (48 + c) :: z) = val x + val y := by
  have hc := s.carry
  have hd := dig_of c (by omega)
  have hs := s.sum
  rw [Nat.sub_self] at hs
  simp only [List.drop_zero] at hs
  refine ⟨.cons hd.1 s.all, by simp [s.len], ?_⟩
  simp only [val, hd.2, s.len, Nat.add_sub_cancel_left]
  omega
theorem set_next (m : Nat) (z : List UInt8) (b : UInt8) (v : Value) (hv : v = .int .u8 b.toNat) : (cellsOf (List.replicate (m + 1) 0 ++ z)).set m v = cellsOf (List.replicate m 0 ++ b :: z) := by
  subst hv
  unfold cellsOf
  rw [← List.map_set (f := fun x : UInt8 => Value.int .u8 x.toNat)]
  congr 1
  rw [List.replicate_succ']
  simp [List.set_append]
theorem infoU8' : (Tryd.prog.info? 5).map (fun i => (i.zero, i.size, i.bytes)) = some (some (.int .u8 0), 1, 1) := by kernel_rfl
theorem made_zero (n : Nat) : (madeCells (Value.cells (.int .u8 0)) (n * 1)).toList = cellsOf (List.replicate n 0) := by
  rw [show Value.cells (.int .u8 0) = #[.int .u8 0] from rfl, toList_madeCells_one, Nat.mul_one]
  unfold cellsOf
  rw [List.map_replicate]
  rfl
theorem own_cell {w : World} {B g n : Nat} {e : TypeId} {xs : List Value} (h : w.ownsRow B e 1 (.slice (some ⟨g, 0, none⟩) n n) n xs) (j : Nat) (u : Value) (hj : xs[j]? = some u) : w.cell? ⟨g, j, none⟩ = some u := by
  rcases h.2 with ⟨h', _⟩ | ⟨g', cap', cur, h', _, hg, _, _, _, htake⟩
  · simp at h'
  · simp only [Value.slice.injEq, Option.some.injEq, Addr.mk.injEq, and_true, true_and] at h'
    obtain ⟨rfl, rfl⟩ := h'
    rw [Lib.cell_of_heap hg]
    rw [← htake, List.getElem?_take] at hj
    split at hj
    · simpa using hj
    · cases hj

set_option maxHeartbeats 4000000 in
theorem sum_any (x y : List UInt8) (hxy : x.length = y.length) (hx : AllD x) (hy : AllD y) (hl : x.length ≤ 10000000) (w : World) :
    Calls Tryd.prog 45 #[.string (text x), .string (text y)] w fun e w' => (∃ z, e = .returned (.string (text z)) ∧ AllD z ∧ z.length = x.length + 1 ∧ val z = val x + val y) ∧ Below w.heap.size w w' := by
  have mixed : Tryd.prog.follows Departure.mixedOrders = true := by kernel_rfl
  obtain ⟨i0, hi, hz0, hz1, hz2⟩ := info_parts infoU8'
  obtain ⟨n, hn⟩ : ∃ n, x.length = n := ⟨_, rfl⟩
  obtain ⟨w1, hmk, hown, hgr⟩ := run_make_full (P := Tryd.prog) w w.heap.size 63 5 i0 (.int .u8 0) 1 Tryd.underlying63 hi hz0 hz1 .i64 .i64 (n + 1) (by rw [hz2]; omega) (by unfold maxLen; omega) (Nat.le_refl _)
  rw [made_zero] at hown
  have HOWN := hid hown
  have HB := hid (show Below w.heap.size w w1 from ⟨hgr.os, hgr.tape, hgr.output, hgr.size, fun k hk => hgr.block k hk (fun e => by cases e)⟩)
  have zx := text_size x
  have zy := text_size y
  rw [hn] at zx
  rw [← hxy, hn] at zy
  have HX := hid hx
  have HY := hid hy
  have HXY := hid hxy
  have HN := hid hn
  have HS := hid (Summed.start x y hxy)
  have hmk' : (Instr.makeSlice 63 (.int .i64 ((n : Int) + 1)) (.int .i64 ((n : Int) + 1))).run Tryd.prog w = .ok (.slice (some ⟨w.heap.size, 0, none⟩) (n + 1) (n + 1)) w1 := hmk
  clear hx hy hxy hown hgr hmk
  go_enter Tryd.func45, Tryd.ntmps45
  go_wp2_with fail
  go_loopg [16, 6] n (fun gk iv cv X => ∃ (i c : Nat) (z : List UInt8), iv = .int .i64 i ∧ cv = .int .u8 c ∧ i + gk = n ∧ Hid (Summed x y i c z) ∧ c ≤ 1 ∧ Hid (X.ownsRow w.heap.size 5 1 (.slice (some ⟨w.heap.size, 0, none⟩) (n + 1) (n + 1)) (n + 1) (cellsOf (List.replicate (n + 1 - i) 0 ++ z))) ∧ Hid (Below w.heap.size w X))
  case atStart => exact ⟨0, 0, [], rfl, rfl, by omega, HS, by omega, by simpa using HOWN, HB⟩
  case round =>
    rename World => X
    obtain ⟨i, c, z, rfl, rfl, hig, HP, hc1, HO, HX2⟩ := hrel
    by_cases hlt : i < n
    · obtain ⟨k, hk⟩ : ∃ k, k + 1 + i = n := ⟨n - 1 - i, by omega⟩
      have hkx : k < x.length := by rw [HN.out]; omega
      have hky : k < y.length := by rw [← HXY.out, HN.out]; omega
      have hpx : k < (text x).size := by omega
      have hpy : k < (text y).size := by omega
      obtain ⟨a, ha⟩ : ∃ a : Nat, ((text x)[k]'hpx).toNat = a := ⟨_, rfl⟩
      obtain ⟨b, hb⟩ : ∃ b : Nat, ((text y)[k]'hpy).toNat = b := ⟨_, rfl⟩
      have ha2 : (x[k]'hkx).toNat = a := ha
      have hb2 : (y[k]'hky).toNat = b := hb
      have ra := (isd_iff _).1 (HX.out _ (List.getElem_mem hkx))
      have rb := (isd_iff _).1 (HY.out _ (List.getElem_mem hky))
      rw [ha2] at ra
      rw [hb2] at rb
      obtain ⟨D, hD⟩ : ∃ D, D = a - 48 + (b - 48) + c := ⟨_, rfl⟩
      have HST := hid (HP.out.step HXY.out HX.out HY.out k (by rw [HN.out]; exact hk) (D := D) (by rw [ha2, hb2]; exact hD))
      have hat : (n : Int) - 1 - (i : Int) = (k : Int) := by omega
      obtain ⟨p, hp⟩ : ∃ p, p = a - 48 := ⟨_, rfl⟩
      obtain ⟨q, hq⟩ : ∃ q, q = p + b := ⟨_, rfl⟩
      obtain ⟨r, hr⟩ : ∃ r, r = q - 48 := ⟨_, rfl⟩
      have u1 : IntKind.u8.wrap ((a : Int) - 48) = (p : Int) := by rw [IntWalk.u8_in _ (by omega)]; omega
      have u2 : IntKind.u8.wrap ((p : Int) + (b : Int)) = (q : Int) := by rw [IntWalk.u8_in _ (by omega)]; omega
      have u3 : IntKind.u8.wrap ((q : Int) - 48) = (r : Int) := by rw [IntWalk.u8_in _ (by omega)]; omega
      have u4 : IntKind.u8.wrap ((r : Int) + (c : Int)) = (D : Int) := by rw [IntWalk.u8_in _ (by omega)]; omega
      have hD19 : D ≤ 19 := by omega
      have HAUX := hid (And.intro hD (And.intro hp (And.intro hq hr)))
      clear ha2 hb2 hD hp hq hr
      go_wp2_with fail
      go_region_o
      have hm : n + 1 - i = (k + 1) + 1 := by omega
      have hO := HO.out
      rw [hm] at hO
      have c0 : X.drew.cell? ⟨w.heap.size, k + 1, none⟩ = some (.int .u8 0) := own_cell (show X.drew.ownsRow _ _ _ _ _ _ from hO) (k + 1) _ (by
        unfold cellsOf
        simp [List.getElem?_append, List.getElem?_replicate])
      have f0 : X.drew.frozen? ⟨w.heap.size, k + 1, none⟩ = false := World.ownsRow.frozenAt (show X.drew.ownsRow _ _ _ _ _ _ from hO) (k + 1)
      have hst := (World.ownsRow.stored (show X.drew.ownsRow _ _ _ _ _ _ from hO) (k + 1) (.int .u8 ((48 + D % 10 : Nat) : Int))).1
      have hdm : D % 10 < 10 := Nat.mod_lt _ (by omega)
      have hset := set_next (k + 1) z (UInt8.ofNat (48 + D % 10)) (.int .u8 ((48 + D % 10 : Nat) : Int)) (by rw [(dig_of (D % 10) hdm).2])
      rw [hset] at hst
      have HO2 := hid hst
      have hST1 := HST.out.1
      obtain ⟨E, hE⟩ : ∃ E, D % 10 = E := ⟨_, rfl⟩
      obtain ⟨F, hF⟩ : ∃ F, D / 10 = F := ⟨_, rfl⟩
      obtain ⟨V, hV⟩ : ∃ V, 48 + E = V := ⟨_, rfl⟩
      have w1' : (D : Int) % 10 = (E : Int) := by omega
      have w2' : (48 : Int) + (E : Int) = (V : Int) := by omega
      have w3' : (D : Int) / 10 = (F : Int) := by omega
      have hF1 : F ≤ 1 := by omega
      have hE9 : E ≤ 9 := by omega
      have hV57 : V ≤ 57 := by omega
      rw [hE, hF, hV] at hST1
      rw [hE, hV] at HO2
      have HSTT := hid hST1
      clear hm hO hst hset u1 u2 u3 u4 hST1 HST hE hF hV hdm HAUX hD19 ra rb ha hb
      go_wp2
      go_roundg (gk - 1)
      case rel =>
        refine ⟨i + 1, F, UInt8.ofNat V :: z, by go_num, rfl, by omega, HSTT, by omega, ?_, ?_⟩
        · rw [show n + 1 - (i + 1) = k + 1 from by omega]
          exact HO2
        · exact hid (HX2.out.drew.setCell (p := ⟨w.heap.size, k + 1, none⟩) (Nat.le_refl _) _)
      case measure => omega
    · obtain rfl : i = n := by omega
      have hP := HP.out
      rw [← HN.out] at hP
      have HDN := hid (hP.done HXY.out)
      have hm : i + 1 - i = 0 + 1 := by omega
      have hO := HO.out
      rw [hm] at hO
      have c0 : X.cell? ⟨w.heap.size, 0, none⟩ = some (.int .u8 0) := own_cell hO 0 _ (by
        unfold cellsOf
        simp)
      have f0 : X.frozen? ⟨w.heap.size, 0, none⟩ = false := World.ownsRow.frozenAt hO 0
      have hst := (World.ownsRow.stored hO 0 (.int .u8 ((48 + c : Nat) : Int))).1
      have hset := set_next 0 z (UInt8.ofNat (48 + c)) (.int .u8 ((48 + c : Nat) : Int)) (by rw [(dig_of c (by omega)).2])
      rw [hset] at hst
      have hlz : (UInt8.ofNat (48 + c) :: z).length = i + 1 := by rw [← HN.out]; exact HDN.out.2.1
      have hby : Bytes (X.setCell ⟨w.heap.size, 0, none⟩ (.int .u8 ((48 + c : Nat) : Int))) (.slice (some ⟨w.heap.size, 0, none⟩) (i + 1) (i + 1)) (UInt8.ofNat (48 + c) :: z) :=
        Bytes.ofOwns (B := w.heap.size) (e := 5) (by rw [hlz]; exact hst) (by omega)
      have hcv := hby.conv (P := Tryd.prog) 63 9 5 Tryd.underlying63 Tryd.underlying5 Tryd.underlying9
      obtain ⟨V, hV⟩ : ∃ V, 48 + c = V := ⟨_, rfl⟩
      have v1 : (48 : Int) + (c : Int) = (V : Int) := by omega
      have hV57 : V ≤ 49 := by omega
      rw [hV] at hcv HDN
      clear hV hm hO hst hset hby hlz hP
      generalize UInt8.ofNat V :: z = Z at *
      go_wp2
      go_ret
      exact ⟨⟨Z, rfl, HDN.out.1, HDN.out.2.1, HDN.out.2.2⟩, HX2.out.setCell (p := ⟨w.heap.size, 0, none⟩) (Nat.le_refl _) _⟩
end Go.Proofs.YtjmfcgbelikcdaaDoor.Num
