/- Layer 7: the walk of NumberOrder. -/
import Derived.Test.YtjmfcgbelikcdaaDoorNumP
set_option linter.unusedVariables false
set_option linter.unusedSimpArgs false
namespace Go.Proofs.YtjmfcgbelikcdaaDoor.Num
open Go Go.Proofs.YtjmfcgbelikcdaaDoor Go.RowKit
set_option maxRecDepth 100000

theorem boxes3 (w : World) (d : List UInt8) (s : Int) (e : List UInt8) (t : Int) (f : List UInt8) (u : Int) : ∃ W1, ((w.alloc (.cells #[.string (text d), .int .i64 s] 24)).alloc (.cells #[.string (text e), .int .i64 t] 24)).alloc (.cells #[.string (text f), .int .i64 u] 24) = W1 ∧
    Below w.heap.size w W1 ∧ W1.heap[w.heap.size]? = some (.cells #[.string (text d), .int .i64 s] 24 (0, 0)) ∧ W1.heap[w.heap.size + 1]? = some (.cells #[.string (text e), .int .i64 t] 24 (0, 0)) ∧ W1.heap[w.heap.size + 2]? = some (.cells #[.string (text f), .int .i64 u] 24 (0, 0)) := by
  obtain ⟨W0, hW0, hB0, hN0, hP0, hz0⟩ := boxes2 w d s e t
  rw [hW0]
  refine ⟨_, rfl, ba hB0 _, heap_alloc_old hN0, heap_alloc_old hP0, ?_⟩
  rw [← hz0]; exact heap_alloc_new W0 _
/-- A sum of short numbers isn't too long. -/
theorem Summ.short {d : List UInt8} {s : Nat} {e : List UInt8} {t : Nat} {p : List UInt8 × Nat} (h : Summ d s e t p) (hd : d.length ≤ 300) (he : e.length ≤ 300) (hs : s ≤ 300) (ht : t ≤ 300) : p.1.length ≤ 1000 ∧ addR 0 p = 0 ∧ addP 0 p = p ∧ checkE p.1 p.2 = 0 := by
  have hf := h.few
  have : long d s e t ≤ 900 := by unfold long; rw [atScale_len, atScale_len]; omega
  have hl : p.1.length ≤ 1000 := by omega
  have hy := add_yes (p := p) (by omega)
  exact ⟨hl, hy.1, hy.2, checkE_of h.one.1 h.one.2.1 hl (by omega) (by have := h.low; omega)⟩
theorem cmpN_add (a b c : Nat) : cmpN (a + c) (b + c) = cmpN a b := by
  unfold cmpN
  by_cases h : a < b
  · rw [if_pos h, if_pos (by omega)]
  · rw [if_neg h, if_neg (by omega)]
    by_cases k : b < a
    · rw [if_pos k, if_pos (by omega)]
    · rw [if_neg k, if_neg (by omega)]
theorem cmpN_swap (a b : Nat) : cmpN b a = -cmpN a b := by
  unfold cmpN
  by_cases h : a < b
  · have k : ¬ b < a := by omega
    simp [h, k]
  · by_cases k : b < a
    · simp [h, k]
    · simp [h, k]
theorem cmpN_cases (a b : Nat) : (cmpN a b = 0 ∧ a = b) ∨ (cmpN a b = 1 ∧ a ≠ b) ∨ (cmpN a b = -1 ∧ a ≠ b) := by
  unfold cmpN
  by_cases h : a < b
  · rw [if_pos h]; exact .inr (.inr ⟨rfl, by omega⟩)
  · rw [if_neg h]
    by_cases k : b < a
    · rw [if_pos k]; exact .inr (.inl ⟨rfl, by omega⟩)
    · rw [if_neg k]; exact .inl ⟨rfl, by omega⟩
theorem canon_same {d e : List UInt8} {s t : Nat} (hd : AllD d) (he : AllD e) (hdn : d ≠ []) (hen : e ≠ []) (hs : s ≤ 1000) (ht : t ≤ 1000) : canon d s = canon e t ↔ N (d, s) = N (e, t) := by
  have h1 := canon_len d s hdn
  have h2 := canon_len e t hen
  rw [← N_canon hs (by omega), ← N_canon ht (by omega)]
  exact (N_eq (canon_is hd s) (canon_is he t) (by omega) (by omega)).symm

set_option maxHeartbeats 16000000 in
theorem NumberOrder_walk (d : List UInt8) (s : Int) (e : List UInt8) (t : Int) (f : List UInt8) (u : Int) (hd : d.length ≤ 140737488351232) (he : e.length ≤ 140737488351232) (hf : f.length ≤ 140737488351232) (w : World) (hw : Fit w) :
    Calls Tryd.prog 6 #[numZ d s, numZ e t, numZ f u] w fun ev w' => ev = .returned (.bool true) ∧ Below w.heap.size w w' := by
  have zd := text_size d
  have ze := text_size e
  have zf := text_size f
  have HAL := hid (fun X (hb : Below w.heap.size w X) => alive_any X (hw.at hb))
  obtain ⟨W1, hW1, hB1, hN1, hP1, hQ1⟩ := boxes3 w d s e t f u
  have a0 : W1.cell? ⟨w.heap.size, 0, none⟩ = some (.string (text d)) := by rw [Lib.cell_of_heap hN1]; rfl
  have a1 : W1.cell? ⟨w.heap.size, 1, none⟩ = some (.int .i64 s) := by rw [Lib.cell_of_heap hN1]; rfl
  have b0' : W1.cell? ⟨w.heap.size + 1, 0, none⟩ = some (.string (text e)) := by rw [Lib.cell_of_heap hP1]; rfl
  have b1' : W1.cell? ⟨w.heap.size + 1, 1, none⟩ = some (.int .i64 t) := by rw [Lib.cell_of_heap hP1]; rfl
  have g0' : W1.cell? ⟨w.heap.size + 2, 0, none⟩ = some (.string (text f)) := by rw [Lib.cell_of_heap hQ1]; rfl
  have g1' : W1.cell? ⟨w.heap.size + 2, 1, none⟩ = some (.int .i64 u) := by rw [Lib.cell_of_heap hQ1]; rfl
  have B0 := hid hB1
  have A0 := hid hN1
  have C0 := hid hP1
  have D0 := hid hQ1
  clear hB1 hN1 hP1 hQ1
  by_cases hg : 300 < d.length ∨ 300 < e.length ∨ 300 < f.length
  · have hg2 : 300 < d.length ∨ (¬ 300 < d.length ∧ 300 < e.length) ∨ (¬ 300 < d.length ∧ ¬ 300 < e.length ∧ 300 < f.length) := by omega
    clear hw hg
    unfold numZ at *
    rcases hg2 with h1 | ⟨h1, h2⟩ | ⟨h1, h2, h3⟩
    all_goals
      go_enter Tryd.func6, Tryd.ntmps6
      go_wp2_with fail
      refine (HAL.out _ B0.out).mono ?_
      rintro ev w1 ⟨rfl, hb1⟩
      have HB := hid (B0.out.trans (hb1.mono B0.out.size))
      clear hb1
      go_wp2
      go_ret
      exact ⟨rfl, HB.out⟩
  · have hg1 : ¬ 300 < d.length := by omega
    have hg2 : ¬ 300 < e.length := by omega
    have hg3 : ¬ 300 < f.length := by omega
    have K1 := hid (fun X (hb : Below w.heap.size w X) => Canon_any d s (by omega) X (hw.at hb))
    have K2 := hid (fun X (hb : Below w.heap.size w X) => Canon_any e t (by omega) X (hw.at hb))
    have K3 := hid (fun X (hb : Below w.heap.size w X) => Canon_any f u (by omega) X (hw.at hb))
    unfold CanonA at K1 K2 K3
    clear hg
    obtain ⟨x, hx⟩ : ∃ x, formV d s = x := ⟨_, rfl⟩
    obtain ⟨y, hy⟩ : ∃ y, formV e t = y := ⟨_, rfl⟩
    obtain ⟨z, hz⟩ : ∃ z, formV f u = z := ⟨_, rfl⟩
    obtain ⟨na, hna⟩ : ∃ n, checkE d s = n := ⟨_, rfl⟩
    obtain ⟨nb, hnb⟩ : ∃ n, checkE e t = n := ⟨_, rfl⟩
    obtain ⟨nc, hnc⟩ : ∃ n, checkE f u = n := ⟨_, rfl⟩
    rw [hx, hna] at K1
    rw [hy, hnb] at K2
    rw [hz, hnc] at K3
    obtain ⟨xd, xs⟩ := x
    obtain ⟨yd, ys⟩ := y
    obtain ⟨fd, fs⟩ := z
    by_cases hgood : na = 0 ∧ nb = 0 ∧ nc = 0 ∧ s ≤ 300 ∧ t ≤ 300 ∧ u ≤ 300
    · obtain ⟨rfl, rfl, rfl, hs3, ht3, hu3⟩ := hgood
      obtain ⟨hd1, hd2, hd3, hs0, hs1⟩ := checkE_ok hna
      obtain ⟨he1, he2, he3, ht0, ht1⟩ := checkE_ok hnb
      obtain ⟨hf1, hf2, hf3, hu0, hu1⟩ := checkE_ok hnc
      obtain ⟨s, rfl⟩ : ∃ k : Nat, s = k := ⟨s.toNat, by omega⟩
      obtain ⟨t, rfl⟩ : ∃ k : Nat, t = k := ⟨t.toNat, by omega⟩
      obtain ⟨u, rfl⟩ : ∃ k : Nat, u = k := ⟨u.toNat, by omega⟩
      have ab : bothE d s e t = 0 := by unfold bothE; rw [hna]; exact hnb
      have ba' : bothE e t d s = 0 := by unfold bothE; rw [hnb]; exact hna
      have ac : bothE d s f u = 0 := by unfold bothE; rw [hna]; exact hnc
      have bc : bothE e t f u = 0 := by unfold bothE; rw [hnb]; exact hnc
      have cb : bothE f u e t = 0 := by unfold bothE; rw [hnc]; exact hnb
      have M1 := hid (fun X (hb : Below w.heap.size w X) => NCompare_any d s e t (by omega) (by omega) X (hw.at hb))
      have M2 := hid (fun X (hb : Below w.heap.size w X) => NCompare_any e t d s (by omega) (by omega) X (hw.at hb))
      have M3 := hid (fun (p q : List UInt8 × Nat) (hp : p.1.length ≤ 1000) (hq : q.1.length ≤ 1000) X (hb : Below w.heap.size w X) => NCompare_any p.1 p.2 q.1 q.2 (by omega) (by omega) X (hw.at hb))
      have S1 := hid (fun X (hb : Below w.heap.size w X) => Add_any d s f u (by omega) (by omega) X (hw.at hb))
      have S2 := hid (fun X (hb : Below w.heap.size w X) => Add_any e t f u (by omega) (by omega) X (hw.at hb))
      have S3 := hid (fun X (hb : Below w.heap.size w X) => Add_any f u e t (by omega) (by omega) X (hw.at hb))
      unfold CompareA at M1 M2
      rw [if_pos ab, ab, Int.toNat_natCast, Int.toNat_natCast] at M1
      rw [if_pos ba', ba', Int.toNat_natCast, Int.toNat_natCast, cmpN_swap] at M2
      rw [ac, Int.toNat_natCast, Int.toNat_natCast] at S1
      rw [bc, Int.toNat_natCast, Int.toNat_natCast] at S2
      rw [cb, Int.toNat_natCast, Int.toNat_natCast] at S3
      have hxe : (xd, xs) = canon d s := by rw [← hx]; unfold formV; rw [if_pos hna, Int.toNat_natCast]
      have hye : (yd, ys) = canon e t := by rw [← hy]; unfold formV; rw [if_pos hnb, Int.toNat_natCast]
      have HEQ := hid (show ((xd, xs) : List UInt8 × Nat) = (yd, ys) ↔ N (d, s) = N (e, t) by rw [hxe, hye]; exact canon_same hd1 he1 hd2 he2 (by omega) (by omega))
      have HSH1 := hid (fun (p : List UInt8 × Nat) (h : Summ d s f u p) => h.short (by omega) (by omega) (by omega) (by omega))
      have HSH2 := hid (fun (p : List UInt8 × Nat) (h : Summ e t f u p) => h.short (by omega) (by omega) (by omega) (by omega))
      have HSH3 := hid (fun (p : List UInt8 × Nat) (h : Summ f u e t p) => h.short (by omega) (by omega) (by omega) (by omega))
      have HSAME := hid (fun (q r : List UInt8 × Nat) (h : Summ e t f u q) (k : Summ f u e t r) => h.same k.one k.low (by rw [k.sum, Nat.add_comm]))
      have HCM := hid (fun (p q : List UInt8 × Nat) (h : Summ d s f u p) (k : Summ e t f u q) (hp : checkE p.1 p.2 = 0) (hq : checkE q.1 q.2 = 0) => (show CompareA p.1 p.2 q.1 q.2 = .tuple #[.int .i64 (cmpN (N (d, s)) (N (e, t))), .int .i64 (0 : Nat)] by
        have hb : bothE p.1 p.2 q.1 q.2 = 0 := by unfold bothE; rw [if_pos hp]; exact hq
        unfold CompareA
        rw [if_pos hb, hb, Int.toNat_natCast, Int.toNat_natCast, h.sum, k.sum, cmpN_add]))
      have HK := hid (cmpN_cases (N (d, s)) (N (e, t)))
      clear hna hnb hnc hx hy hz hxe hye hd1 hd2 he1 he2 hf1 hf2 ab ba' ac bc cb hw hs0 ht0 hu0
      generalize cmpN (N (d, s)) (N (e, t)) = K at *
      unfold numV numZ at *
      dsimp only at K1 K2 K3
      go_enter Tryd.func6, Tryd.ntmps6
      go_wp2_with fail
      refine (K1.out _ B0.out).mono ?_
      rintro ev w1 ⟨rfl, hb1⟩
      have A1 := hid (heap_alloc_old (o' := .cells #[.string (text xd), .int .i64 xs] 24) (block_later A0.out hb1))
      have C1 := hid (heap_alloc_old (o' := .cells #[.string (text xd), .int .i64 xs] 24) (block_later C0.out hb1))
      have D1 := hid (heap_alloc_old (o' := .cells #[.string (text xd), .int .i64 xs] 24) (block_later D0.out hb1))
      have X1 := hid (heap_alloc_new w1 (.cells #[.string (text xd), .int .i64 xs] 24))
      have B1 := hid (ba (B0.out.trans (hb1.mono B0.out.size)) (.cells #[.string (text xd), .int .i64 xs] 24))
      clear hb1
      have c10 : (w1.alloc (.cells #[.string (text xd), .int .i64 xs] 24)).cell? ⟨w.heap.size + 1, 0, none⟩ = some (.string (text e)) := by rw [Lib.cell_of_heap C1.out]; rfl
      have c11 : (w1.alloc (.cells #[.string (text xd), .int .i64 xs] 24)).cell? ⟨w.heap.size + 1, 1, none⟩ = some (.int .i64 t) := by rw [Lib.cell_of_heap C1.out]; rfl
      go_wp2_with fail
      refine (K2.out _ B1.out).mono ?_
      rintro ev w2 ⟨rfl, hb2⟩
      have A2 := hid (heap_alloc_old (o' := .cells #[.string (text yd), .int .i64 ys] 24) (block_later A1.out hb2))
      have C2 := hid (heap_alloc_old (o' := .cells #[.string (text yd), .int .i64 ys] 24) (block_later C1.out hb2))
      have D2 := hid (heap_alloc_old (o' := .cells #[.string (text yd), .int .i64 ys] 24) (block_later D1.out hb2))
      have X2 := hid (heap_alloc_old (o' := .cells #[.string (text yd), .int .i64 ys] 24) (block_later X1.out hb2))
      have Y2 := hid (heap_alloc_new w2 (.cells #[.string (text yd), .int .i64 ys] 24))
      have B2 := hid (ba (B1.out.trans (hb2.mono B1.out.size)) (.cells #[.string (text yd), .int .i64 ys] 24))
      clear hb2
      have d20 : (w2.alloc (.cells #[.string (text yd), .int .i64 ys] 24)).cell? ⟨w.heap.size + 2, 0, none⟩ = some (.string (text f)) := by rw [Lib.cell_of_heap D2.out]; rfl
      have d21 : (w2.alloc (.cells #[.string (text yd), .int .i64 ys] 24)).cell? ⟨w.heap.size + 2, 1, none⟩ = some (.int .i64 u) := by rw [Lib.cell_of_heap D2.out]; rfl
      go_wp2_with fail
      refine (K3.out _ B2.out).mono ?_
      rintro ev w3 ⟨rfl, hb3⟩
      have A3 := hid (heap_alloc_old (o' := .cells #[.string (text fd), .int .i64 fs] 24) (block_later A2.out hb3))
      have C3 := hid (heap_alloc_old (o' := .cells #[.string (text fd), .int .i64 fs] 24) (block_later C2.out hb3))
      have D3 := hid (heap_alloc_old (o' := .cells #[.string (text fd), .int .i64 fs] 24) (block_later D2.out hb3))
      have X3 := hid (heap_alloc_old (o' := .cells #[.string (text fd), .int .i64 fs] 24) (block_later X2.out hb3))
      have Y3 := hid (heap_alloc_old (o' := .cells #[.string (text fd), .int .i64 fs] 24) (block_later Y2.out hb3))
      have Z3 := hid (heap_alloc_new w3 (.cells #[.string (text fd), .int .i64 fs] 24))
      have B3 := hid (ba (B2.out.trans (hb3.mono B2.out.size)) (.cells #[.string (text fd), .int .i64 fs] 24))
      clear hb3
      have a30 : (w3.alloc (.cells #[.string (text fd), .int .i64 fs] 24)).cell? ⟨w.heap.size, 0, none⟩ = some (.string (text d)) := by rw [Lib.cell_of_heap A3.out]; rfl
      have a31 : (w3.alloc (.cells #[.string (text fd), .int .i64 fs] 24)).cell? ⟨w.heap.size, 1, none⟩ = some (.int .i64 s) := by rw [Lib.cell_of_heap A3.out]; rfl
      have c30 : (w3.alloc (.cells #[.string (text fd), .int .i64 fs] 24)).cell? ⟨w.heap.size + 1, 0, none⟩ = some (.string (text e)) := by rw [Lib.cell_of_heap C3.out]; rfl
      have c31 : (w3.alloc (.cells #[.string (text fd), .int .i64 fs] 24)).cell? ⟨w.heap.size + 1, 1, none⟩ = some (.int .i64 t) := by rw [Lib.cell_of_heap C3.out]; rfl
      have d30 : (w3.alloc (.cells #[.string (text fd), .int .i64 fs] 24)).cell? ⟨w.heap.size + 2, 0, none⟩ = some (.string (text f)) := by rw [Lib.cell_of_heap D3.out]; rfl
      have d31 : (w3.alloc (.cells #[.string (text fd), .int .i64 fs] 24)).cell? ⟨w.heap.size + 2, 1, none⟩ = some (.int .i64 u) := by rw [Lib.cell_of_heap D3.out]; rfl
      go_wp2_with fail
      refine (M1.out _ B3.out).mono ?_
      rintro ev w4 ⟨rfl, hb4⟩
      have A4 := hid (block_later A3.out hb4)
      have C4 := hid (block_later C3.out hb4)
      have D4 := hid (block_later D3.out hb4)
      have X4 := hid (block_later X3.out hb4)
      have Y4 := hid (block_later Y3.out hb4)
      have Z4 := hid (block_later Z3.out hb4)
      have B4 := hid (B3.out.trans (hb4.mono B3.out.size))
      clear hb4
      have a40 : w4.cell? ⟨w.heap.size, 0, none⟩ = some (.string (text d)) := by rw [Lib.cell_of_heap A4.out]; rfl
      have a41 : w4.cell? ⟨w.heap.size, 1, none⟩ = some (.int .i64 s) := by rw [Lib.cell_of_heap A4.out]; rfl
      have c40 : w4.cell? ⟨w.heap.size + 1, 0, none⟩ = some (.string (text e)) := by rw [Lib.cell_of_heap C4.out]; rfl
      have c41 : w4.cell? ⟨w.heap.size + 1, 1, none⟩ = some (.int .i64 t) := by rw [Lib.cell_of_heap C4.out]; rfl
      go_wp2_with fail
      refine (M2.out _ B4.out).mono ?_
      rintro ev w5 ⟨rfl, hb5⟩
      have A5 := hid (block_later A4.out hb5)
      have C5 := hid (block_later C4.out hb5)
      have D5 := hid (block_later D4.out hb5)
      have X5 := hid (block_later X4.out hb5)
      have Y5 := hid (block_later Y4.out hb5)
      have Z5 := hid (block_later Z4.out hb5)
      have B5 := hid (B4.out.trans (hb5.mono B4.out.size))
      clear hb5
      have a50 : w5.cell? ⟨w.heap.size, 0, none⟩ = some (.string (text d)) := by rw [Lib.cell_of_heap A5.out]; rfl
      have a51 : w5.cell? ⟨w.heap.size, 1, none⟩ = some (.int .i64 s) := by rw [Lib.cell_of_heap A5.out]; rfl
      have d50 : w5.cell? ⟨w.heap.size + 2, 0, none⟩ = some (.string (text f)) := by rw [Lib.cell_of_heap D5.out]; rfl
      have d51 : w5.cell? ⟨w.heap.size + 2, 1, none⟩ = some (.int .i64 u) := by rw [Lib.cell_of_heap D5.out]; rfl
      go_wp2_with fail
      refine (S1.out _ B5.out).mono ?_
      rintro ev w6 ⟨⟨p, hp, rfl⟩, hb6⟩
      have HP := hid (hp (by first | rfl | trivial))
      clear hp
      have ep := HSH1.out p HP.out
      rw [show AddV 0 p = .tuple #[.agg #[.string (text p.1), .int .i64 p.2], .int .i64 0] from by unfold AddV; rw [ep.2.1, ep.2.2.1]; rfl]
      have EP := hid ep
      clear ep
      obtain ⟨pd, ps⟩ := p
      have A6 := hid (heap_alloc_old (o' := .cells #[.string (text pd), .int .i64 ps] 24) (block_later A5.out hb6))
      have C6 := hid (heap_alloc_old (o' := .cells #[.string (text pd), .int .i64 ps] 24) (block_later C5.out hb6))
      have D6 := hid (heap_alloc_old (o' := .cells #[.string (text pd), .int .i64 ps] 24) (block_later D5.out hb6))
      have X6 := hid (heap_alloc_old (o' := .cells #[.string (text pd), .int .i64 ps] 24) (block_later X5.out hb6))
      have Y6 := hid (heap_alloc_old (o' := .cells #[.string (text pd), .int .i64 ps] 24) (block_later Y5.out hb6))
      have Z6 := hid (heap_alloc_old (o' := .cells #[.string (text pd), .int .i64 ps] 24) (block_later Z5.out hb6))
      have P6 := hid (heap_alloc_new w6 (.cells #[.string (text pd), .int .i64 ps] 24))
      have B6 := hid (ba (B5.out.trans (hb6.mono B5.out.size)) (.cells #[.string (text pd), .int .i64 ps] 24))
      clear hb6
      have c60 : (w6.alloc (.cells #[.string (text pd), .int .i64 ps] 24)).cell? ⟨w.heap.size + 1, 0, none⟩ = some (.string (text e)) := by rw [Lib.cell_of_heap C6.out]; rfl
      have c61 : (w6.alloc (.cells #[.string (text pd), .int .i64 ps] 24)).cell? ⟨w.heap.size + 1, 1, none⟩ = some (.int .i64 t) := by rw [Lib.cell_of_heap C6.out]; rfl
      have d60 : (w6.alloc (.cells #[.string (text pd), .int .i64 ps] 24)).cell? ⟨w.heap.size + 2, 0, none⟩ = some (.string (text f)) := by rw [Lib.cell_of_heap D6.out]; rfl
      have d61 : (w6.alloc (.cells #[.string (text pd), .int .i64 ps] 24)).cell? ⟨w.heap.size + 2, 1, none⟩ = some (.int .i64 u) := by rw [Lib.cell_of_heap D6.out]; rfl
      go_wp2_with fail
      refine (S2.out _ B6.out).mono ?_
      rintro ev w7 ⟨⟨q, hq, rfl⟩, hb7⟩
      have HQ := hid (hq (by first | rfl | trivial))
      clear hq
      have eq := HSH2.out q HQ.out
      rw [show AddV 0 q = .tuple #[.agg #[.string (text q.1), .int .i64 q.2], .int .i64 0] from by unfold AddV; rw [eq.2.1, eq.2.2.1]; rfl]
      have EQ := hid eq
      clear eq
      obtain ⟨qd, qs⟩ := q
      have A7 := hid (heap_alloc_old (o' := .cells #[.string (text qd), .int .i64 qs] 24) (block_later A6.out hb7))
      have C7 := hid (heap_alloc_old (o' := .cells #[.string (text qd), .int .i64 qs] 24) (block_later C6.out hb7))
      have D7 := hid (heap_alloc_old (o' := .cells #[.string (text qd), .int .i64 qs] 24) (block_later D6.out hb7))
      have X7 := hid (heap_alloc_old (o' := .cells #[.string (text qd), .int .i64 qs] 24) (block_later X6.out hb7))
      have Y7 := hid (heap_alloc_old (o' := .cells #[.string (text qd), .int .i64 qs] 24) (block_later Y6.out hb7))
      have Z7 := hid (heap_alloc_old (o' := .cells #[.string (text qd), .int .i64 qs] 24) (block_later Z6.out hb7))
      have P7 := hid (heap_alloc_old (o' := .cells #[.string (text qd), .int .i64 qs] 24) (block_later P6.out hb7))
      have Q7 := hid (heap_alloc_new w7 (.cells #[.string (text qd), .int .i64 qs] 24))
      have B7 := hid (ba (B6.out.trans (hb7.mono B6.out.size)) (.cells #[.string (text qd), .int .i64 qs] 24))
      clear hb7
      have c70 : (w7.alloc (.cells #[.string (text qd), .int .i64 qs] 24)).cell? ⟨w.heap.size + 1, 0, none⟩ = some (.string (text e)) := by rw [Lib.cell_of_heap C7.out]; rfl
      have c71 : (w7.alloc (.cells #[.string (text qd), .int .i64 qs] 24)).cell? ⟨w.heap.size + 1, 1, none⟩ = some (.int .i64 t) := by rw [Lib.cell_of_heap C7.out]; rfl
      have d70 : (w7.alloc (.cells #[.string (text qd), .int .i64 qs] 24)).cell? ⟨w.heap.size + 2, 0, none⟩ = some (.string (text f)) := by rw [Lib.cell_of_heap D7.out]; rfl
      have d71 : (w7.alloc (.cells #[.string (text qd), .int .i64 qs] 24)).cell? ⟨w.heap.size + 2, 1, none⟩ = some (.int .i64 u) := by rw [Lib.cell_of_heap D7.out]; rfl
      go_wp2_with fail
      refine (S3.out _ B7.out).mono ?_
      rintro ev w8 ⟨⟨r, hr, rfl⟩, hb8⟩
      have HR := hid (hr (by first | rfl | trivial))
      clear hr
      have er := HSH3.out r HR.out
      rw [show AddV 0 r = .tuple #[.agg #[.string (text r.1), .int .i64 r.2], .int .i64 0] from by unfold AddV; rw [er.2.1, er.2.2.1]; rfl]
      clear er
      have hqr := HSAME.out (qd, qs) r HQ.out HR.out
      rw [← hqr]
      clear hqr HR
      have A8 := hid (heap_alloc_old (o' := .cells #[.string (text qd), .int .i64 qs] 24) (block_later A7.out hb8))
      have C8 := hid (heap_alloc_old (o' := .cells #[.string (text qd), .int .i64 qs] 24) (block_later C7.out hb8))
      have D8 := hid (heap_alloc_old (o' := .cells #[.string (text qd), .int .i64 qs] 24) (block_later D7.out hb8))
      have X8 := hid (heap_alloc_old (o' := .cells #[.string (text qd), .int .i64 qs] 24) (block_later X7.out hb8))
      have Y8 := hid (heap_alloc_old (o' := .cells #[.string (text qd), .int .i64 qs] 24) (block_later Y7.out hb8))
      have Z8 := hid (heap_alloc_old (o' := .cells #[.string (text qd), .int .i64 qs] 24) (block_later Z7.out hb8))
      have P8 := hid (heap_alloc_old (o' := .cells #[.string (text qd), .int .i64 qs] 24) (block_later P7.out hb8))
      have Q8 := hid (heap_alloc_old (o' := .cells #[.string (text qd), .int .i64 qs] 24) (block_later Q7.out hb8))
      have R8 := hid (heap_alloc_new w8 (.cells #[.string (text qd), .int .i64 qs] 24))
      have B8 := hid (ba (B7.out.trans (hb8.mono B7.out.size)) (.cells #[.string (text qd), .int .i64 qs] 24))
      clear hb8
      have p80 : (w8.alloc (.cells #[.string (text qd), .int .i64 qs] 24)).cell? ⟨w6.heap.size, 0, none⟩ = some (.string (text pd)) := by rw [Lib.cell_of_heap P8.out]; rfl
      have p81 : (w8.alloc (.cells #[.string (text qd), .int .i64 qs] 24)).cell? ⟨w6.heap.size, 1, none⟩ = some (.int .i64 ps) := by rw [Lib.cell_of_heap P8.out]; rfl
      have q80 : (w8.alloc (.cells #[.string (text qd), .int .i64 qs] 24)).cell? ⟨w7.heap.size, 0, none⟩ = some (.string (text qd)) := by rw [Lib.cell_of_heap Q8.out]; rfl
      have q81 : (w8.alloc (.cells #[.string (text qd), .int .i64 qs] 24)).cell? ⟨w7.heap.size, 1, none⟩ = some (.int .i64 qs) := by rw [Lib.cell_of_heap Q8.out]; rfl
      go_wp2_with fail
      refine (M3.out (pd, ps) (qd, qs) EP.out.1 EQ.out.1 _ B8.out).mono ?_
      rintro ev w9 ⟨rfl, hb9⟩
      rw [show CompareA (pd, ps).1 (pd, ps).2 (qd, qs).1 (qd, qs).2 = .tuple #[.int .i64 K, .int .i64 (0 : Nat)] from HCM.out (pd, ps) (qd, qs) HP.out HQ.out EP.out.2.2.2 EQ.out.2.2.2]
      have A9 := hid (block_later A8.out hb9)
      have C9 := hid (block_later C8.out hb9)
      have D9 := hid (block_later D8.out hb9)
      have X9 := hid (block_later X8.out hb9)
      have Y9 := hid (block_later Y8.out hb9)
      have Z9 := hid (block_later Z8.out hb9)
      have P9 := hid (block_later P8.out hb9)
      have Q9 := hid (block_later Q8.out hb9)
      have R9 := hid (block_later R8.out hb9)
      have B9 := hid (B8.out.trans (hb9.mono B8.out.size))
      clear hb9
      go_wp2_with fail
      refine (HAL.out _ B9.out).mono ?_
      rintro ev w10 ⟨rfl, hb10⟩
      have A10 := hid (block_later A9.out hb10)
      have C10 := hid (block_later C9.out hb10)
      have D10 := hid (block_later D9.out hb10)
      have X10 := hid (block_later X9.out hb10)
      have Y10 := hid (block_later Y9.out hb10)
      have Z10 := hid (block_later Z9.out hb10)
      have P10 := hid (block_later P9.out hb10)
      have Q10 := hid (block_later Q9.out hb10)
      have R10 := hid (block_later R9.out hb10)
      have B10 := hid (B9.out.trans (hb10.mono B9.out.size))
      clear hb10
      have x100 : w10.cell? ⟨w1.heap.size, 0, none⟩ = some (.string (text xd)) := by rw [Lib.cell_of_heap X10.out]; rfl
      have x101 : w10.cell? ⟨w1.heap.size, 1, none⟩ = some (.int .i64 xs) := by rw [Lib.cell_of_heap X10.out]; rfl
      have y100 : w10.cell? ⟨w2.heap.size, 0, none⟩ = some (.string (text yd)) := by rw [Lib.cell_of_heap Y10.out]; rfl
      have y101 : w10.cell? ⟨w2.heap.size, 1, none⟩ = some (.int .i64 ys) := by rw [Lib.cell_of_heap Y10.out]; rfl
      have q100 : w10.cell? ⟨w7.heap.size, 0, none⟩ = some (.string (text qd)) := by rw [Lib.cell_of_heap Q10.out]; rfl
      have q101 : w10.cell? ⟨w7.heap.size, 1, none⟩ = some (.int .i64 qs) := by rw [Lib.cell_of_heap Q10.out]; rfl
      have r100 : w10.cell? ⟨w8.heap.size, 0, none⟩ = some (.string (text qd)) := by rw [Lib.cell_of_heap R10.out]; rfl
      have r101 : w10.cell? ⟨w8.heap.size, 1, none⟩ = some (.int .i64 qs) := by rw [Lib.cell_of_heap R10.out]; rfl
      have hk := HK.out
      have hq := HEQ.out
      rcases hk with ⟨rfl, h1⟩ | ⟨rfl, h1⟩ | ⟨rfl, h1⟩
      · obtain ⟨rfl, rfl⟩ := Prod.mk.inj (hq.2 h1)
        clear h1 hq
        go_wp2
        go_ret
        exact ⟨rfl, B10.out⟩
      all_goals
        have hne : ¬ ((xd, xs) : List UInt8 × Nat) = (yd, ys) := fun c => h1 (hq.1 c)
        clear h1 hq
        by_cases c : xd = yd
        · have h2 : ((xs : Int) == (ys : Int)) = false := by rw [beq_eq_false_iff_ne]; intro c2; exact hne (by rw [c]; congr 1; omega)
          have h3 : ¬ (xs : Int) = (ys : Int) := by intro c2; exact hne (by rw [c]; congr 1; omega)
          subst c
          clear hne
          go_wp2
          go_ret
          exact ⟨rfl, B10.out⟩
        · have h2 : ((text xd).toList == (text yd).toList) = false := by rw [text_list, text_list, beq_eq_false_iff_ne]; exact c
          have h3 : ¬ (text xd).toList = (text yd).toList := by rw [text_list, text_list]; exact c
          clear hne c
          go_wp2
          go_ret
          exact ⟨rfl, B10.out⟩
    · have hbad : na ≠ 0 ∨ (na = 0 ∧ nb ≠ 0) ∨ (na = 0 ∧ nb = 0 ∧ nc ≠ 0) ∨ (na = 0 ∧ nb = 0 ∧ nc = 0 ∧ 300 < s) ∨ (na = 0 ∧ nb = 0 ∧ nc = 0 ∧ ¬ 300 < s ∧ 300 < t) ∨ (na = 0 ∧ nb = 0 ∧ nc = 0 ∧ ¬ 300 < s ∧ ¬ 300 < t ∧ 300 < u) := by omega
      clear hgood hna hnb hnc hx hy hz hw
      unfold numV numZ at *
      dsimp only at K1 K2 K3
      go_enter Tryd.func6, Tryd.ntmps6
      go_wp2_with fail
      refine (K1.out _ B0.out).mono ?_
      rintro ev w1 ⟨rfl, hb1⟩
      have A1 := hid (heap_alloc_old (o' := .cells #[.string (text xd), .int .i64 xs] 24) (block_later A0.out hb1))
      have C1 := hid (heap_alloc_old (o' := .cells #[.string (text xd), .int .i64 xs] 24) (block_later C0.out hb1))
      have D1 := hid (heap_alloc_old (o' := .cells #[.string (text xd), .int .i64 xs] 24) (block_later D0.out hb1))
      have X1 := hid (heap_alloc_new w1 (.cells #[.string (text xd), .int .i64 xs] 24))
      have B1 := hid (ba (B0.out.trans (hb1.mono B0.out.size)) (.cells #[.string (text xd), .int .i64 xs] 24))
      clear hb1
      have c10 : (w1.alloc (.cells #[.string (text xd), .int .i64 xs] 24)).cell? ⟨w.heap.size + 1, 0, none⟩ = some (.string (text e)) := by rw [Lib.cell_of_heap C1.out]; rfl
      have c11 : (w1.alloc (.cells #[.string (text xd), .int .i64 xs] 24)).cell? ⟨w.heap.size + 1, 1, none⟩ = some (.int .i64 t) := by rw [Lib.cell_of_heap C1.out]; rfl
      go_wp2_with fail
      refine (K2.out _ B1.out).mono ?_
      rintro ev w2 ⟨rfl, hb2⟩
      have A2 := hid (heap_alloc_old (o' := .cells #[.string (text yd), .int .i64 ys] 24) (block_later A1.out hb2))
      have C2 := hid (heap_alloc_old (o' := .cells #[.string (text yd), .int .i64 ys] 24) (block_later C1.out hb2))
      have D2 := hid (heap_alloc_old (o' := .cells #[.string (text yd), .int .i64 ys] 24) (block_later D1.out hb2))
      have X2 := hid (heap_alloc_old (o' := .cells #[.string (text yd), .int .i64 ys] 24) (block_later X1.out hb2))
      have Y2 := hid (heap_alloc_new w2 (.cells #[.string (text yd), .int .i64 ys] 24))
      have B2 := hid (ba (B1.out.trans (hb2.mono B1.out.size)) (.cells #[.string (text yd), .int .i64 ys] 24))
      clear hb2
      have d20 : (w2.alloc (.cells #[.string (text yd), .int .i64 ys] 24)).cell? ⟨w.heap.size + 2, 0, none⟩ = some (.string (text f)) := by rw [Lib.cell_of_heap D2.out]; rfl
      have d21 : (w2.alloc (.cells #[.string (text yd), .int .i64 ys] 24)).cell? ⟨w.heap.size + 2, 1, none⟩ = some (.int .i64 u) := by rw [Lib.cell_of_heap D2.out]; rfl
      go_wp2_with fail
      refine (K3.out _ B2.out).mono ?_
      rintro ev w3 ⟨rfl, hb3⟩
      have A3 := hid (heap_alloc_old (o' := .cells #[.string (text fd), .int .i64 fs] 24) (block_later A2.out hb3))
      have C3 := hid (heap_alloc_old (o' := .cells #[.string (text fd), .int .i64 fs] 24) (block_later C2.out hb3))
      have D3 := hid (heap_alloc_old (o' := .cells #[.string (text fd), .int .i64 fs] 24) (block_later D2.out hb3))
      have X3 := hid (heap_alloc_old (o' := .cells #[.string (text fd), .int .i64 fs] 24) (block_later X2.out hb3))
      have Y3 := hid (heap_alloc_old (o' := .cells #[.string (text fd), .int .i64 fs] 24) (block_later Y2.out hb3))
      have Z3 := hid (heap_alloc_new w3 (.cells #[.string (text fd), .int .i64 fs] 24))
      have B3 := hid (ba (B2.out.trans (hb3.mono B2.out.size)) (.cells #[.string (text fd), .int .i64 fs] 24))
      clear hb3
      have a30 : (w3.alloc (.cells #[.string (text fd), .int .i64 fs] 24)).cell? ⟨w.heap.size, 0, none⟩ = some (.string (text d)) := by rw [Lib.cell_of_heap A3.out]; rfl
      have a31 : (w3.alloc (.cells #[.string (text fd), .int .i64 fs] 24)).cell? ⟨w.heap.size, 1, none⟩ = some (.int .i64 s) := by rw [Lib.cell_of_heap A3.out]; rfl
      have c30 : (w3.alloc (.cells #[.string (text fd), .int .i64 fs] 24)).cell? ⟨w.heap.size + 1, 0, none⟩ = some (.string (text e)) := by rw [Lib.cell_of_heap C3.out]; rfl
      have c31 : (w3.alloc (.cells #[.string (text fd), .int .i64 fs] 24)).cell? ⟨w.heap.size + 1, 1, none⟩ = some (.int .i64 t) := by rw [Lib.cell_of_heap C3.out]; rfl
      have d30 : (w3.alloc (.cells #[.string (text fd), .int .i64 fs] 24)).cell? ⟨w.heap.size + 2, 0, none⟩ = some (.string (text f)) := by rw [Lib.cell_of_heap D3.out]; rfl
      have d31 : (w3.alloc (.cells #[.string (text fd), .int .i64 fs] 24)).cell? ⟨w.heap.size + 2, 1, none⟩ = some (.int .i64 u) := by rw [Lib.cell_of_heap D3.out]; rfl
      rcases hbad with h1 | ⟨rfl, h1⟩ | ⟨rfl, rfl, h1⟩ | ⟨rfl, rfl, rfl, h1⟩ | ⟨rfl, rfl, rfl, h1, h2⟩ | ⟨rfl, rfl, rfl, h1, h2, h3⟩
      · have hx : ((na : Int) != 0) = true := by rw [bne_iff_ne]; omega
        go_wp2_with fail
        refine (HAL.out _ B3.out).mono ?_
        rintro ev w4 ⟨rfl, hb4⟩
        have HB := hid (B3.out.trans (hb4.mono B3.out.size))
        clear hb4
        go_wp2
        go_ret
        exact ⟨rfl, HB.out⟩
      · have hx : ((nb : Int) != 0) = true := by rw [bne_iff_ne]; omega
        go_wp2_with fail
        refine (HAL.out _ B3.out).mono ?_
        rintro ev w4 ⟨rfl, hb4⟩
        have HB := hid (B3.out.trans (hb4.mono B3.out.size))
        clear hb4
        go_wp2
        go_ret
        exact ⟨rfl, HB.out⟩
      · have hx : ((nc : Int) != 0) = true := by rw [bne_iff_ne]; omega
        go_wp2_with fail
        refine (HAL.out _ B3.out).mono ?_
        rintro ev w4 ⟨rfl, hb4⟩
        have HB := hid (B3.out.trans (hb4.mono B3.out.size))
        clear hb4
        go_wp2
        go_ret
        exact ⟨rfl, HB.out⟩
      · go_wp2_with fail
        refine (HAL.out _ B3.out).mono ?_
        rintro ev w4 ⟨rfl, hb4⟩
        have HB := hid (B3.out.trans (hb4.mono B3.out.size))
        clear hb4
        go_wp2
        go_ret
        exact ⟨rfl, HB.out⟩
      · go_wp2_with fail
        refine (HAL.out _ B3.out).mono ?_
        rintro ev w4 ⟨rfl, hb4⟩
        have HB := hid (B3.out.trans (hb4.mono B3.out.size))
        clear hb4
        go_wp2
        go_ret
        exact ⟨rfl, HB.out⟩
      · go_wp2_with fail
        refine (HAL.out _ B3.out).mono ?_
        rintro ev w4 ⟨rfl, hb4⟩
        have HB := hid (B3.out.trans (hb4.mono B3.out.size))
        clear hb4
        go_wp2
        go_ret
        exact ⟨rfl, HB.out⟩
end Go.Proofs.YtjmfcgbelikcdaaDoor.Num
