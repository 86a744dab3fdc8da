/- Layer 7: contracts of Compare, add, Add. -/
import Derived.Test.YtjmfcgbelikcdaaDoorNumJ
import Derived.Test.YtjmfcgbelikcdaaDoorNumK
import Derived.Test.YtjmfcgbelikcdaaDoorNumB
set_option linter.unusedVariables false
set_option linter.unusedSimpArgs false
namespace Go.Proofs.YtjmfcgbelikcdaaDoor.Num
open Go Go.Proofs.YtjmfcgbelikcdaaDoor Go.RowKit
set_option maxRecDepth 100000

theorem long_le (d : List UInt8) (s : Nat) (e : List UInt8) (t : Nat) : (atScale d s (max s t)).length ≤ long d s e t ∧ (atScale e t (max s t)).length ≤ long d s e t := by unfold long; omega
theorem left_len (d : List UInt8) (s : Nat) (e : List UInt8) (t : Nat) : (left d s e t).length = long d s e t := by
  unfold left; rw [padTo_len]; have := (long_le d s e t).1; omega
theorem right_len (d : List UInt8) (s : Nat) (e : List UInt8) (t : Nat) : (right d s e t).length = long d s e t := by
  unfold right; rw [padTo_len]; have := (long_le d s e t).2; omega
theorem left_N (d : List UInt8) (s : Nat) (e : List UInt8) (t : Nat) (hs : s ≤ 1000) (ht : t ≤ 1000) : val (left d s e t) * 10 ^ (1000 - max s t) = N (d, s) := by
  unfold left N
  rw [padTo_val, atScale_val, Nat.mul_assoc, ← Nat.pow_add]
  congr 2
  simp only
  omega
theorem right_N (d : List UInt8) (s : Nat) (e : List UInt8) (t : Nat) (hs : s ≤ 1000) (ht : t ≤ 1000) : val (right d s e t) * 10 ^ (1000 - max s t) = N (e, t) := by
  unfold right N
  rw [padTo_val, atScale_val, Nat.mul_assoc, ← Nat.pow_add]
  congr 2
  simp only
  omega
theorem comp_N (d : List UInt8) (s : Nat) (e : List UInt8) (t : Nat) (hd : AllD d) (he : AllD e) (hs : s ≤ 1000) (ht : t ≤ 1000) : comp (left d s e t) (right d s e t) = cmpN (N (d, s)) (N (e, t)) := by
  rw [comp_val (left d s e t) (right d s e t) (padTo_all (atScale_all hd _ _) _) (padTo_all (atScale_all he _ _) _) (by rw [left_len, right_len]), ← left_N d s e t hs ht, ← right_N d s e t hs ht, cmpN_scale (Nat.pow_pos (by omega))]

/-- The two boxes of the arguments. -/
theorem boxes2 (w : World) (d : List UInt8) (s : Int) (e : List UInt8) (t : Int) : ∃ W1, (w.alloc (.cells #[.string (text d), .int .i64 s] 24)).alloc (.cells #[.string (text e), .int .i64 t] 24) = W1 ∧
    Below w.heap.size w W1 ∧ W1.heap[w.heap.size]? = some (.cells #[.string (text d), .int .i64 s] 24 (0, 0)) ∧ W1.heap[w.heap.size + 1]? = some (.cells #[.string (text e), .int .i64 t] 24 (0, 0)) ∧ W1.heap.size = w.heap.size + 2 := by
  refine ⟨_, rfl, ba (ba (b0 w) _) _, heap_alloc_old (heap_alloc_new w _), ?_, by simp⟩
  have := heap_alloc_new (w.alloc (.cells #[.string (text d), .int .i64 s] 24)) (.cells #[.string (text e), .int .i64 t] 24)
  simpa using this

/-- What Compare answers. -/
def CompareA (d : List UInt8) (s : Int) (e : List UInt8) (t : Int) : Value := .tuple #[.int .i64 (if bothE d s e t = 0 then cmpN (N (d, s.toNat)) (N (e, t.toNat)) else 0), .int .i64 (bothE d s e t)]

set_option maxHeartbeats 2000000 in
theorem NCompare_any (d : List UInt8) (s : Int) (e : List UInt8) (t : Int) (hd : d.length ≤ 500000000) (he : e.length ≤ 500000000) (w : World) (hw : Fit w) :
    Calls Tryd.prog 17 #[numZ d s, numZ e t] w fun ev w' => ev = .returned (CompareA d s e t) ∧ Below w.heap.size w w' := by
  have HC := hid (fun w => checkBoth_any d s e t hd he w)
  have HE := hid (fun X (hb : Below w.heap.size w X) => errnoOf_any (bothE d s e t) X (hw.at hb).err)
  obtain ⟨W1, hW1, hB1, hN1, hP1, hz1⟩ := boxes2 w d s e t
  have B1 := hid hB1
  have N1 := hid hN1
  have P1 := hid hP1
  have a0 : W1.cell? ⟨w.heap.size, 0, none⟩ = some (.string (text d)) := by rw [Lib.cell_of_heap hN1]; rfl
  have a1 : W1.cell? ⟨w.heap.size, 1, none⟩ = some (.int .i64 s) := by rw [Lib.cell_of_heap hN1]; rfl
  have b0' : W1.cell? ⟨w.heap.size + 1, 0, none⟩ = some (.string (text e)) := by rw [Lib.cell_of_heap hP1]; rfl
  have b1' : W1.cell? ⟨w.heap.size + 1, 1, none⟩ = some (.int .i64 t) := by rw [Lib.cell_of_heap hP1]; rfl
  clear hw hB1 hN1 hP1 hz1
  by_cases h0 : bothE d s e t = 0
  · obtain ⟨k1, k2⟩ := bothE_ok h0
    obtain ⟨hd1, hd2, hd3, hs0, hs1⟩ := checkE_ok k1
    obtain ⟨he1, he2, he3, ht0, ht1⟩ := checkE_ok k2
    obtain ⟨s, rfl⟩ : ∃ k : Nat, s = k := ⟨s.toNat, by omega⟩
    obtain ⟨t, rfl⟩ : ∃ k : Nat, t = k := ⟨t.toNat, by omega⟩
    have HA := hid (show CompareA d s e t = .tuple #[.int .i64 (comp (left d s e t) (right d s e t)), .int .i64 0] by
      unfold CompareA; rw [if_pos h0, h0, Int.toNat_natCast, Int.toNat_natCast, comp_N d s e t hd1 he1 (by omega) (by omega)]; rfl)
    have HL := hid (fun w => aligned_any d s e t (by omega) (by omega) (by omega) (by omega) w)
    unfold alignA at HL
    generalize left d s e t = x at *
    generalize right d s e t = y at *
    have HP := hid (fun w => Compare_any x y w)
    rw [h0, show errV 0 = .nilIface from rfl] at HC
    clear h0 k1 k2 hd1 hd2 he1 he2 HE
    unfold numZ at *
    go_enter Tryd.func17, Tryd.ntmps17
    go_wp2_with fail
    refine (HC.out _).mono ?_
    rintro ev w1 ⟨rfl, hb1⟩
    have n1 := block_later N1.out hb1
    have p1 := block_later P1.out hb1
    have c0 : w1.cell? ⟨w.heap.size, 0, none⟩ = some (.string (text d)) := by rw [Lib.cell_of_heap n1]; rfl
    have c1 : w1.cell? ⟨w.heap.size, 1, none⟩ = some (.int .i64 s) := by rw [Lib.cell_of_heap n1]; rfl
    have d0 : w1.cell? ⟨w.heap.size + 1, 0, none⟩ = some (.string (text e)) := by rw [Lib.cell_of_heap p1]; rfl
    have d1 : w1.cell? ⟨w.heap.size + 1, 1, none⟩ = some (.int .i64 t) := by rw [Lib.cell_of_heap p1]; rfl
    have HB := hid (B1.out.trans (hb1.mono B1.out.size))
    clear hb1 n1 p1
    go_wp2_with fail
    refine (HL.out _).mono ?_
    rintro ev w2 ⟨rfl, hb2⟩
    have HB2 := hid (HB.out.trans (hb2.mono HB.out.size))
    clear hb2
    go_wp2_with fail
    refine (HP.out _).mono ?_
    rintro ev w3 ⟨rfl, rfl⟩
    go_wp2
    go_ret2
    exact ⟨by rw [HA.out]; rfl, HB2.out⟩
  · have HA := hid (show CompareA d s e t = .tuple #[.int .i64 0, .int .i64 (bothE d s e t)] by unfold CompareA; rw [if_neg h0])
    have hx : errV (bothE d s e t) = .iface 67 (.agg #[.int .i64 (bothE d s e t)]) := by unfold errV; rw [if_neg h0]
    rw [hx] at HE HC
    clear h0 hx
    generalize bothE d s e t = n at *
    unfold numZ at *
    go_enter Tryd.func17, Tryd.ntmps17
    go_wp2_with fail
    refine (HC.out _).mono ?_
    rintro ev w1 ⟨rfl, hb1⟩
    have HB := hid (B1.out.trans (hb1.mono B1.out.size))
    clear hb1
    go_wp2_with fail
    refine (HE.out _ HB.out).mono ?_
    rintro ev w2 ⟨rfl, hb2⟩
    have HB2 := hid (HB.out.trans (hb2.mono HB.out.size))
    clear hb2
    go_wp2
    go_ret2
    exact ⟨by rw [HA.out]; rfl, HB2.out⟩

/-- p is the sum of two numbers, in its one form. -/
structure Summ (d : List UInt8) (s : Nat) (e : List UInt8) (t : Nat) (p : List UInt8 × Nat) : Prop where
  one : IsC p
  low : p.2 ≤ 1000
  sum : N p = N (d, s) + N (e, t)
  few : p.1.length ≤ long d s e t + 1
theorem Summ.of {d : List UInt8} {s : Nat} {e : List UInt8} {t : Nat} (hs : s ≤ 1000) (ht : t ≤ 1000) {z : List UInt8} (hz : AllD z) (hl : z.length = (left d s e t).length + 1) (hv : val z = val (left d s e t) + val (right d s e t)) :
    Summ d s e t (canon z (max s t)) := by
  have hn : z ≠ [] := by rintro rfl; simp at hl
  have hc := canon_len z (max s t) hn
  refine ⟨canon_is hz _, by omega, ?_, by rw [left_len] at hl; omega⟩
  rw [N_canon (by omega) (by omega)]
  show val z * 10 ^ (1000 - max s t) = _
  rw [hv, Nat.add_mul, left_N d s e t hs ht, right_N d s e t hs ht]
theorem Summ.same {d : List UInt8} {s : Nat} {e : List UInt8} {t : Nat} {p q : List UInt8 × Nat} (h : Summ d s e t p) (h1 : IsC q) (h2 : q.2 ≤ 1000) (h3 : N q = N (d, s) + N (e, t)) : p = q :=
  (N_eq h.one h1 h.low h2).1 (h.sum.trans h3.symm)
/-- What is wrong with a sum, and what is told. -/
def addR (b : Nat) (p : List UInt8 × Nat) : Nat := if b = 0 then (if 1000 < p.1.length then 19 else 0) else b
def addP (b : Nat) (p : List UInt8 × Nat) : List UInt8 × Nat := if addR b p = 0 then p else ([], 0)
theorem add_no {b : Nat} (p : List UInt8 × Nat) (h : b ≠ 0) : addR b p = b ∧ addP b p = ([], 0) := by
  have e : addR b p = b := by unfold addR; rw [if_neg h]
  exact ⟨e, by unfold addP; rw [e, if_neg h]⟩
theorem add_long {p : List UInt8 × Nat} (h : 1000 < p.1.length) : addR 0 p = 19 ∧ addP 0 p = ([], 0) := by
  have e : addR 0 p = 19 := by unfold addR; rw [if_pos rfl, if_pos h]
  exact ⟨e, by unfold addP; rw [e]; rfl⟩
theorem add_yes {p : List UInt8 × Nat} (h : ¬ 1000 < p.1.length) : addR 0 p = 0 ∧ addP 0 p = p := by
  have e : addR 0 p = 0 := by unfold addR; rw [if_pos rfl, if_neg h]
  exact ⟨e, by unfold addP; rw [e]; rfl⟩
/-- What add answers, if the sum is p. -/
def addV (b : Nat) (p : List UInt8 × Nat) : Value := .tuple #[numV (addP b p), errV (addR b p)]

set_option maxHeartbeats 4000000 in
theorem add_any (d : List UInt8) (s : Int) (e : List UInt8) (t : Int) (hd : d.length ≤ 500000000) (he : e.length ≤ 500000000) (w : World) :
    Calls Tryd.prog 31 #[numZ d s, numZ e t] w fun ev w' => (∃ p, (bothE d s e t = 0 → Summ d s.toNat e t.toNat p) ∧ ev = .returned (addV (bothE d s e t) p)) ∧ Below w.heap.size w w' := by
  have HC := hid (fun w => checkBoth_any d s e t hd he w)
  obtain ⟨W0, hW0, hB0, hN0, hP0, hz0⟩ := boxes2 w d s e t
  obtain ⟨W1, hW1⟩ : ∃ W1, W0.alloc (.cells #[.string ⟨#[]⟩, .int .i64 0] 24) = W1 := ⟨_, rfl⟩
  have B1 := hid (show Below w.heap.size w W1 from hW1 ▸ ba hB0 _)
  have hN1 : W1.heap[w.heap.size]? = some (.cells #[.string (text d), .int .i64 s] 24 (0, 0)) := hW1 ▸ heap_alloc_old hN0
  have hP1 : W1.heap[w.heap.size + 1]? = some (.cells #[.string (text e), .int .i64 t] 24 (0, 0)) := hW1 ▸ heap_alloc_old hP0
  have hR1 : W1.heap[w.heap.size + 2]? = some (.cells #[.string ⟨#[]⟩, .int .i64 0] 24 (0, 0)) := by rw [← hW1, ← hz0]; exact heap_alloc_new W0 _
  have N1 := hid hN1
  have P1 := hid hP1
  have R1 := hid hR1
  have a0 : W1.cell? ⟨w.heap.size, 0, none⟩ = some (.string (text d)) := by rw [Lib.cell_of_heap hN1]; rfl
  have a1 : W1.cell? ⟨w.heap.size, 1, none⟩ = some (.int .i64 s) := by rw [Lib.cell_of_heap hN1]; rfl
  have b0' : W1.cell? ⟨w.heap.size + 1, 0, none⟩ = some (.string (text e)) := by rw [Lib.cell_of_heap hP1]; rfl
  have b1' : W1.cell? ⟨w.heap.size + 1, 1, none⟩ = some (.int .i64 t) := by rw [Lib.cell_of_heap hP1]; rfl
  clear hB0 hN0 hP0 hN1 hP1 hR1
  by_cases h0 : bothE d s e t = 0
  · obtain ⟨k1, k2⟩ := bothE_ok h0
    obtain ⟨hd1, hd2, hd3, hs0, hs1⟩ := checkE_ok k1
    obtain ⟨he1, he2, he3, ht0, ht1⟩ := checkE_ok k2
    obtain ⟨s, rfl⟩ : ∃ k : Nat, s = k := ⟨s.toNat, by omega⟩
    obtain ⟨t, rfl⟩ : ∃ k : Nat, t = k := ⟨t.toNat, by omega⟩
    have HL := hid (fun w => aligned_any d s e t (by omega) (by omega) (by omega) (by omega) w)
    have hll := left_len d s e t
    have hlo : long d s e t ≤ 3000 := by unfold long; rw [atScale_len, atScale_len]; omega
    have HS := hid (fun w => sum_any (left d s e t) (right d s e t) (by rw [left_len, right_len]) (padTo_all (atScale_all hd1 _ _) _) (padTo_all (atScale_all he1 _ _) _) (by omega) w)
    have HQ := hid (fun z hz hl hv => Summ.of (d := d) (s := s) (e := e) (t := t) (by omega) (by omega) (z := z) hz hl hv)
    have HO := hid (fun (z : List UInt8) (hz : z.length ≤ 10000) w => oneForm_any z (max s t) (by omega) (by omega) w)
    unfold alignA at HL
    obtain ⟨m, hm⟩ : ∃ m, max s t = m := ⟨_, rfl⟩
    rw [hm] at HL HQ HO
    rw [h0, show errV 0 = .nilIface from rfl] at HC
    have H0 := hid h0
    clear h0 k1 k2 hd1 hd2 he1 he2 hm
    generalize left d s e t = x at *
    generalize right d s e t = y at *
    unfold numZ at *
    go_enter Tryd.func31, Tryd.ntmps31
    go_wp2_with fail
    refine (HC.out _).mono ?_
    rintro ev w1 ⟨rfl, hb1⟩
    have n1 := block_later N1.out hb1
    have p1 := block_later P1.out hb1
    have r1 := block_later R1.out hb1
    have c0 : w1.cell? ⟨w.heap.size, 0, none⟩ = some (.string (text d)) := by rw [Lib.cell_of_heap n1]; rfl
    have c1 : w1.cell? ⟨w.heap.size, 1, none⟩ = some (.int .i64 s) := by rw [Lib.cell_of_heap n1]; rfl
    have d0 : w1.cell? ⟨w.heap.size + 1, 0, none⟩ = some (.string (text e)) := by rw [Lib.cell_of_heap p1]; rfl
    have d1 : w1.cell? ⟨w.heap.size + 1, 1, none⟩ = some (.int .i64 t) := by rw [Lib.cell_of_heap p1]; rfl
    have HB := hid (B1.out.trans (hb1.mono B1.out.size))
    have HR := hid r1
    clear hb1 n1 p1 r1
    go_wp2_with fail
    refine (HL.out _).mono ?_
    rintro ev w2 ⟨rfl, hb2⟩
    have HB2 := hid (HB.out.trans (hb2.mono HB.out.size))
    have HR2 := hid (block_later HR.out hb2)
    clear hb2
    go_wp2_with fail
    refine (HS.out _).mono ?_
    rintro ev w3 ⟨⟨z, rfl, hz1, hz2, hz3⟩, hb3⟩
    have HB3 := hid (HB2.out.trans (hb3.mono HB2.out.size))
    have HR3 := hid (block_later HR2.out hb3)
    have HQ2 := hid (HQ.out z hz1 hz2 hz3)
    have HO2 := hid (HO.out z (by omega))
    clear hb3 hz1 hz3
    generalize canon z m = p at *
    obtain ⟨pd, ps⟩ := p
    unfold numV numZ at HO2
    have zp := text_size pd
    go_wp2_with fail
    refine (HO2.out _).mono ?_
    rintro ev w4 ⟨rfl, hb4⟩
    have HB4 := hid (HB3.out.trans (hb4.mono HB3.out.size))
    have r4 := block_later HR3.out hb4
    have HR5 := hid (heap_alloc_old (o' := .cells #[.string (text pd), .int .i64 ps] 24) r4)
    have g0 : (w4.alloc (.cells #[.string (text pd), .int .i64 ps] 24)).cell? ⟨w.heap.size + 2, 0, none⟩ = some (.string ⟨#[]⟩) := by rw [Lib.cell_of_heap HR5.out]; rfl
    have g1 : (w4.alloc (.cells #[.string (text pd), .int .i64 ps] 24)).cell? ⟨w.heap.size + 2, 1, none⟩ = some (.int .i64 0) := by rw [Lib.cell_of_heap HR5.out]; rfl
    have q0 := Lib.frozen_of_heap HR5.out 0
    have q1 := Lib.frozen_of_heap HR5.out 1
    have HB5 := hid (ba HB4.out (.cells #[.string (text pd), .int .i64 ps] 24))
    clear hb4 r4
    by_cases hlong : 1000 < pd.length
    · have HA := hid (show addV 0 (pd, ps) = .tuple #[.agg #[.string ⟨#[]⟩, .int .i64 0], .iface 67 (.agg #[.int .i64 19])] by unfold addV; rw [(add_long (p := (pd, ps)) hlong).1, (add_long (p := (pd, ps)) hlong).2]; rfl)
      go_wp2
      refine bodyPost_ret (results_pair rfl _ _ _ _ rfl (load_num (put2 HR5.out _ _))) rfl ?_
      exact ⟨⟨(pd, ps), fun _ => HQ2.out, by rw [H0.out, HA.out]; rfl⟩, put2_below HB5.out (by omega) _ _⟩
    · have HA := hid (show addV 0 (pd, ps) = .tuple #[.agg #[.string (text pd), .int .i64 ps], .nilIface] by unfold addV; rw [(add_yes (p := (pd, ps)) hlong).1, (add_yes (p := (pd, ps)) hlong).2]; rfl)
      go_wp2
      refine bodyPost_ret (results_pair rfl _ _ _ _ rfl (load_num (put2 HR5.out _ _))) rfl ?_
      exact ⟨⟨(pd, ps), fun _ => HQ2.out, by rw [H0.out, HA.out]; rfl⟩, put2_below HB5.out (by omega) _ _⟩
  · have HA := hid (show addV (bothE d s e t) ([], 0) = .tuple #[.agg #[.string ⟨#[]⟩, .int .i64 0], errV (bothE d s e t)] by unfold addV; rw [(add_no ([], 0) h0).1, (add_no ([], 0) h0).2]; rfl)
    have H0 := hid h0
    have hx : errV (bothE d s e t) = .iface 67 (.agg #[.int .i64 (bothE d s e t)]) := by unfold errV; rw [if_neg h0]
    rw [hx] at HC HA
    clear h0 hx
    generalize bothE d s e t = n at *
    unfold numZ at *
    go_enter Tryd.func31, Tryd.ntmps31
    go_wp2_with fail
    refine (HC.out _).mono ?_
    rintro ev w1 ⟨rfl, hb1⟩
    have r1 := block_later R1.out hb1
    have c0 : w1.cell? ⟨w.heap.size + 2, 0, none⟩ = some (.string ⟨#[]⟩) := by rw [Lib.cell_of_heap r1]; rfl
    have c1 : w1.cell? ⟨w.heap.size + 2, 1, none⟩ = some (.int .i64 0) := by rw [Lib.cell_of_heap r1]; rfl
    have q0 := Lib.frozen_of_heap r1 0
    have q1 := Lib.frozen_of_heap r1 1
    have HB := hid (B1.out.trans (hb1.mono B1.out.size))
    have HR := hid r1
    clear hb1 r1
    go_wp2
    refine bodyPost_ret (results_pair rfl _ _ _ _ rfl (load_num (put2 HR.out _ _))) rfl ?_
    exact ⟨⟨([], 0), fun h => absurd h H0.out, by rw [HA.out]; rfl⟩, put2_below HB.out (by omega) _ _⟩
end Go.Proofs.YtjmfcgbelikcdaaDoor.Num
