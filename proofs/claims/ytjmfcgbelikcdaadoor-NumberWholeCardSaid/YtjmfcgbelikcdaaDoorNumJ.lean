/- Layer 7: contracts of checkBoth, aligned. -/
import Derived.Test.YtjmfcgbelikcdaaDoorNumF
import Derived.Deep.DeepCutAuto
set_option linter.unusedVariables false
set_option linter.unusedSimpArgs false
namespace Go.Proofs.YtjmfcgbelikcdaaDoor.Num
open Go Go.Proofs.YtjmfcgbelikcdaaDoor Go.RowKit
set_option maxRecDepth 100000

/-- What is wrong with two numbers. -/
def bothE (d : List UInt8) (s : Int) (e : List UInt8) (t : Int) : Nat := if checkE d s = 0 then checkE e t else checkE d s
theorem bothE_ok {d : List UInt8} {s : Int} {e : List UInt8} {t : Int} (h : bothE d s e t = 0) : checkE d s = 0 ∧ checkE e t = 0 := by
  unfold bothE at h
  split at h
  · exact ⟨by assumption, h⟩
  · contradiction

set_option maxHeartbeats 2000000 in
theorem checkBoth_any (d : List UInt8) (s : Int) (e : List UInt8) (t : Int) (hd : d.length ≤ 500000000) (he : e.length ≤ 500000000) (w : World) :
    Calls Tryd.prog 28 #[numZ d s, numZ e t] w fun ev w' => ev = .returned (errV (bothE d s e t)) ∧ Below w.heap.size w w' := by
  have HC := hid (fun w => check_any d s (by omega) w)
  have HD := hid (fun w => check_any e t (by omega) w)
  obtain ⟨W1, hW1⟩ : ∃ W1, (w.alloc (.cells #[.string (text d), .int .i64 s] 24)).alloc (.cells #[.string (text e), .int .i64 t] 24) = W1 := ⟨_, rfl⟩
  have B1 := hid (show Below w.heap.size w W1 from hW1 ▸ ba (ba (b0 w) _) _)
  have P1 := hid (show W1.heap[w.heap.size + 1]? = some (.cells #[.string (text e), .int .i64 t] 24 (0, 0)) from by
    rw [← hW1]
    have := heap_alloc_new (w.alloc (.cells #[.string (text d), .int .i64 s] 24)) (.cells #[.string (text e), .int .i64 t] 24)
    simpa using this)
  have N1 := hid (show W1.heap[w.heap.size]? = some (.cells #[.string (text d), .int .i64 s] 24 (0, 0)) from hW1 ▸ heap_alloc_old (heap_alloc_new w _))
  have a0 : W1.cell? ⟨w.heap.size, 0, none⟩ = some (.string (text d)) := by rw [Lib.cell_of_heap N1.out]; rfl
  have a1 : W1.cell? ⟨w.heap.size, 1, none⟩ = some (.int .i64 s) := by rw [Lib.cell_of_heap N1.out]; rfl
  by_cases h0 : checkE d s = 0
  · have HA := hid (show bothE d s e t = checkE e t by unfold bothE; rw [if_pos h0])
    rw [h0, show errV 0 = .nilIface from rfl] at HC
    unfold numZ at *
    go_enter Tryd.func28, Tryd.ntmps28
    go_wp2_with fail
    refine (HC.out _).mono ?_
    rintro ev w1 ⟨rfl, hb1⟩
    have p1 := block_later P1.out hb1
    have c0 : w1.cell? ⟨w.heap.size + 1, 0, none⟩ = some (.string (text e)) := by rw [Lib.cell_of_heap p1]; rfl
    have c1 : w1.cell? ⟨w.heap.size + 1, 1, none⟩ = some (.int .i64 t) := by rw [Lib.cell_of_heap p1]; rfl
    have HB := hid (B1.out.trans (hb1.mono B1.out.size))
    clear hb1 p1
    go_wp2_with fail
    refine (HD.out _).mono ?_
    rintro ev w2 ⟨rfl, hb2⟩
    go_wp2
    go_ret
    exact ⟨by rw [HA.out]; rfl, HB.out.trans (hb2.mono HB.out.size)⟩
  · have HA := hid (show bothE d s e t = checkE d s by unfold bothE; rw [if_neg h0])
    have hx : errV (checkE d s) = .iface 67 (.agg #[.int .i64 (checkE d s)]) := by unfold errV; rw [if_neg h0]
    have HX := hid hx
    rw [hx] at HC
    unfold numZ at *
    clear h0 hx
    go_enter Tryd.func28, Tryd.ntmps28
    go_wp2_with fail
    refine (HC.out _).mono ?_
    rintro ev w1 ⟨rfl, hb1⟩
    have HB := hid (B1.out.trans (hb1.mono B1.out.size))
    clear hb1
    go_wp2
    go_ret
    exact ⟨by rw [HA.out, HX.out]; rfl, HB.out⟩

/-- At one scale. -/
def atScale (d : List UInt8) (s m : Nat) : List UInt8 := d ++ List.replicate (m - s) 48
/-- As many digits. -/
def padTo (n : Nat) (l : List UInt8) : List UInt8 := List.replicate (n - l.length) 48 ++ l
theorem atScale_len (d : List UInt8) (s m : Nat) : (atScale d s m).length = d.length + (m - s) := by unfold atScale; simp
theorem padTo_len (n : Nat) (l : List UInt8) : (padTo n l).length = n - l.length + l.length := by unfold padTo; simp
theorem atScale_val (d : List UInt8) (s m : Nat) : val (atScale d s m) = val d * 10 ^ (m - s) := val_scaled _ _
theorem padTo_val (n : Nat) (l : List UInt8) : val (padTo n l) = val l := val_pad _ _
theorem atScale_all {d : List UInt8} (h : AllD d) (s m : Nat) : AllD (atScale d s m) := h.app (.zeros _)
theorem padTo_all {l : List UInt8} (h : AllD l) (n : Nat) : AllD (padTo n l) := AllD.app (.zeros _) h
/-- How many digits both have. -/
def long (d : List UInt8) (s : Nat) (e : List UInt8) (t : Nat) : Nat := max (atScale d s (max s t)).length (atScale e t (max s t)).length
def left (d : List UInt8) (s : Nat) (e : List UInt8) (t : Nat) : List UInt8 := padTo (long d s e t) (atScale d s (max s t))
def right (d : List UInt8) (s : Nat) (e : List UInt8) (t : Nat) : List UInt8 := padTo (long d s e t) (atScale e t (max s t))
/-- What aligned answers. -/
def alignA (d : List UInt8) (s : Nat) (e : List UInt8) (t : Nat) : Value := .tuple #[.string (text (left d s e t)), .string (text (right d s e t)), .int .i64 (max s t : Nat)]

set_option maxHeartbeats 4000000 in
theorem aligned_any (d : List UInt8) (s : Nat) (e : List UInt8) (t : Nat) (hd : d.length ≤ 1000000) (he : e.length ≤ 1000000) (hs : s ≤ 1000000) (ht : t ≤ 1000000) (w : World) :
    Calls Tryd.prog 29 #[numZ d s, numZ e t] w fun ev w' => ev = .returned (alignA d s e t) ∧ Below w.heap.size w w' := by
  have mixed : Tryd.prog.follows Departure.mixedOrders = true := by kernel_rfl
  obtain ⟨W1, hW1⟩ : ∃ W1, (w.alloc (.cells #[.string (text d), .int .i64 s] 24)).alloc (.cells #[.string (text e), .int .i64 t] 24) = W1 := ⟨_, rfl⟩
  have B1 := hid (show Below w.heap.size w W1 from hW1 ▸ ba (ba (b0 w) _) _)
  have N1 := hid (show W1.heap[w.heap.size]? = some (.cells #[.string (text d), .int .i64 s] 24 (0, 0)) from hW1 ▸ heap_alloc_old (heap_alloc_new w _))
  have P1 := hid (show W1.heap[w.heap.size + 1]? = some (.cells #[.string (text e), .int .i64 t] 24 (0, 0)) from by
    rw [← hW1]
    have := heap_alloc_new (w.alloc (.cells #[.string (text d), .int .i64 s] 24)) (.cells #[.string (text e), .int .i64 t] 24)
    simpa using this)
  have a0 : W1.cell? ⟨w.heap.size, 0, none⟩ = some (.string (text d)) := by rw [Lib.cell_of_heap N1.out]; rfl
  have a1 : W1.cell? ⟨w.heap.size, 1, none⟩ = some (.int .i64 s) := by rw [Lib.cell_of_heap N1.out]; rfl
  have b0' : W1.cell? ⟨w.heap.size + 1, 0, none⟩ = some (.string (text e)) := by rw [Lib.cell_of_heap P1.out]; rfl
  have b1' : W1.cell? ⟨w.heap.size + 1, 1, none⟩ = some (.int .i64 t) := by rw [Lib.cell_of_heap P1.out]; rfl
  have HA := hid (show alignA d s e t = .tuple #[.string (text (padTo (max (atScale d s (max s t)).length (atScale e t (max s t)).length) (atScale d s (max s t)))), .string (text (padTo (max (atScale d s (max s t)).length (atScale e t (max s t)).length) (atScale e t (max s t)))), .int .i64 (max s t : Nat)] from rfl)
  obtain ⟨m, hm⟩ : ∃ m, max s t = m := ⟨_, rfl⟩
  rw [hm] at HA
  have eM : max (s : Int) (t : Int) = (m : Int) := by omega
  have hm1 : s ≤ m ∧ t ≤ m ∧ m ≤ 1000000 := by omega
  have u1 : IntKind.i64.wrap ((m : Int) - (s : Int)) = ((m - s : Nat) : Int) := by rw [IntWalk.i64_in _ (by omega)]; omega
  have u2 : IntKind.i64.wrap ((m : Int) - (t : Int)) = ((m - t : Nat) : Int) := by rw [IntWalk.i64_in _ (by omega)]; omega
  have R1 := hid (fun w => Repeat_any (m - s) (by omega) w)
  have R2 := hid (fun w => Repeat_any (m - t) (by omega) w)
  have lx := atScale_len d s m
  have ly := atScale_len e t m
  have hx1 : text d ++ text (List.replicate (m - s) 48) = text (atScale d s m) := text_append _ _
  have hy1 : text e ++ text (List.replicate (m - t) 48) = text (atScale e t m) := text_append _ _
  have zx0 : (text d).size = d.length := text_size d
  have zy0 : (text e).size = e.length := text_size e
  have zx1 : (text (List.replicate (m - s) 48)).size = m - s := by rw [text_size]; simp
  have zy1 : (text (List.replicate (m - t) 48)).size = m - t := by rw [text_size]; simp
  have zx : (text (atScale d s m)).size = (atScale d s m).length := text_size _
  have zy : (text (atScale e t m)).size = (atScale e t m).length := text_size _
  have lx2 : (atScale d s m).length ≤ 2000000 := by omega
  have ly2 : (atScale e t m).length ≤ 2000000 := by omega
  clear lx ly hm
  generalize atScale d s m = x at *
  generalize atScale e t m = y at *
  generalize text (List.replicate (m - s) 48) = rx at *
  generalize text (List.replicate (m - t) 48) = ry at *
  have y1 : ¬ 9223372036854775807 < d.length + (m - s) := by omega
  have y2 : ¬ 9223372036854775807 < e.length + (m - t) := by omega
  unfold numZ
  go_enter Tryd.func29, Tryd.ntmps29
  go_wp2_with fail
  clear hW1
  go_cut [8] (fun sv wx => sv = .string (text x) ∧ Hid (Below w.heap.size w wx) ∧ Hid (wx.heap[w.heap.size]? = some (.cells #[.string (text d), .int .i64 s] 24 (0, 0))) ∧ Hid (wx.heap[w.heap.size + 1]? = some (.cells #[.string (text e), .int .i64 t] 24 (0, 0))))
  case first =>
    go_region_with (
      go_at_call 27
      refine (R1.out _).mono ?_
      rintro ev w2 ⟨rfl, hb2⟩
      have n2 := block_later (show W1.drew.heap[w.heap.size]? = _ from N1.out) hb2
      have p2 := block_later (show W1.drew.heap[w.heap.size + 1]? = _ from P1.out) hb2
      have HB2 := hid (B1.out.drew.trans (hb2.mono B1.out.drew.size))
      have N2 := hid n2
      have P2 := hid p2
      have c0 : w2.cell? ⟨w.heap.size, 0, none⟩ = some (.string (text d)) := by rw [Lib.cell_of_heap n2]; rfl
      have c1 : w2.cell? ⟨w.heap.size, 1, none⟩ = some (.int .i64 s) := by rw [Lib.cell_of_heap n2]; rfl
      have d0 : w2.cell? ⟨w.heap.size + 1, 0, none⟩ = some (.string (text e)) := by rw [Lib.cell_of_heap p2]; rfl
      have d1 : w2.cell? ⟨w.heap.size + 1, 1, none⟩ = some (.int .i64 t) := by rw [Lib.cell_of_heap p2]; rfl
      clear hb2 n2 p2)
    all_goals (try go_wp2_with fail)
    all_goals go_meet
    all_goals exact ⟨rfl, HB2, N2, P2⟩
  case rest =>
    obtain ⟨rfl, HB2, HN2, HP2⟩ := hcut
    clear a0 a1 b0' b1' B1 N1 P1
    have B1 := HB2
    have N1 := HN2
    have P1 := HP2
    clear HB2 HN2 HP2
    rename World => W3
    have a0 : W3.cell? ⟨w.heap.size, 0, none⟩ = some (.string (text d)) := by rw [Lib.cell_of_heap N1.out]; rfl
    have a1 : W3.cell? ⟨w.heap.size, 1, none⟩ = some (.int .i64 s) := by rw [Lib.cell_of_heap N1.out]; rfl
    have b0' : W3.cell? ⟨w.heap.size + 1, 0, none⟩ = some (.string (text e)) := by rw [Lib.cell_of_heap P1.out]; rfl
    have b1' : W3.cell? ⟨w.heap.size + 1, 1, none⟩ = some (.int .i64 t) := by rw [Lib.cell_of_heap P1.out]; rfl
    go_wp2_with fail
    go_cut [9] (fun sv wx => sv = .string (text y) ∧ Hid (Below w.heap.size w wx) ∧ Hid (wx.heap[w.heap.size]? = some (.cells #[.string (text d), .int .i64 s] 24 (0, 0))) ∧ Hid (wx.heap[w.heap.size + 1]? = some (.cells #[.string (text e), .int .i64 t] 24 (0, 0))))
    case first =>
      go_region_with (
        go_at_call 27
        refine (R2.out _).mono ?_
        rintro ev w2 ⟨rfl, hb2⟩
        have n2 := block_later (show W3.drew.heap[w.heap.size]? = _ from N1.out) hb2
        have p2 := block_later (show W3.drew.heap[w.heap.size + 1]? = _ from P1.out) hb2
        have HB2 := hid (B1.out.drew.trans (hb2.mono B1.out.drew.size))
        have N2 := hid n2
        have P2 := hid p2
        have c0 : w2.cell? ⟨w.heap.size, 0, none⟩ = some (.string (text d)) := by rw [Lib.cell_of_heap n2]; rfl
        have c1 : w2.cell? ⟨w.heap.size, 1, none⟩ = some (.int .i64 s) := by rw [Lib.cell_of_heap n2]; rfl
        have d0 : w2.cell? ⟨w.heap.size + 1, 0, none⟩ = some (.string (text e)) := by rw [Lib.cell_of_heap p2]; rfl
        have d1 : w2.cell? ⟨w.heap.size + 1, 1, none⟩ = some (.int .i64 t) := by rw [Lib.cell_of_heap p2]; rfl
        clear hb2 n2 p2)
      all_goals (try go_wp2_with fail)
      all_goals go_meet
      all_goals exact ⟨rfl, HB2, N2, P2⟩
    case rest =>
      obtain ⟨rfl, HB2, HN2, HP2⟩ := hcut
      obtain ⟨n, hn⟩ : ∃ n, max x.length y.length = n := ⟨_, rfl⟩
      rw [hn] at HA
      have eN : max (x.length : Int) (y.length : Int) = (n : Int) := by omega
      have hn1 : x.length ≤ n ∧ y.length ≤ n ∧ n ≤ 2000000 := by omega
      have eX : (n : Int) - (x.length : Int) = ((n - x.length : Nat) : Int) := by omega
      have eY : (n : Int) - (y.length : Int) = ((n - y.length : Nat) : Int) := by omega
      have Q1 := hid (fun w => Repeat_any (n - x.length) (by omega) w)
      have Q2 := hid (fun w => Repeat_any (n - y.length) (by omega) w)
      have hx2 : text (List.replicate (n - x.length) 48) ++ text x = text (padTo n x) := text_append _ _
      have hy2 : text (List.replicate (n - y.length) 48) ++ text y = text (padTo n y) := text_append _ _
      have zx2 : (text (List.replicate (n - x.length) 48)).size = n - x.length := by rw [text_size]; simp
      have zy2 : (text (List.replicate (n - y.length) 48)).size = n - y.length := by rw [text_size]; simp
      clear hn
      generalize text (List.replicate (n - x.length) 48) = qx at *
      generalize text (List.replicate (n - y.length) 48) = qy at *
      generalize padTo n x = X at *
      generalize padTo n y = Y at *
      go_wp2_with fail
      refine (Q1.out _).mono ?_
      rintro ev w4 ⟨rfl, hb4⟩
      have HB4 := hid (HB2.out.trans (hb4.mono HB2.out.size))
      go_wp2_with fail
      refine (Q2.out _).mono ?_
      rintro ev w5 ⟨rfl, hb5⟩
      go_wp2
      go_ret3
      exact ⟨by rw [HA.out]; rfl, HB4.out.trans (hb5.mono HB4.out.size)⟩
end Go.Proofs.YtjmfcgbelikcdaaDoor.Num
