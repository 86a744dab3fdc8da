/- Layer 7: the walk of NumberSums. -/
import Derived.Test.YtjmfcgbelikcdaaDoorNumP
set_option linter.unusedVariables false
set_option linter.unusedSimpArgs false
namespace Go.Proofs.YtjmfcgbelikcdaaDoor.Num
open Go Go.Proofs.YtjmfcgbelikcdaaDoor Go.RowKit
set_option maxRecDepth 100000

theorem both_ne {d : List UInt8} {s : Int} {e : List UInt8} {t : Int} (h : bothE d s e t ≠ 0) : (checkE d s = 0 ∧ checkE e t ≠ 0 ∧ bothE d s e t = checkE e t) ∨ (checkE d s ≠ 0 ∧ bothE d s e t = checkE d s) := by
  unfold bothE at h ⊢
  by_cases c : checkE d s = 0
  · rw [if_pos c] at h ⊢; exact .inl ⟨c, h, rfl⟩
  · rw [if_neg c] at h ⊢; exact .inr ⟨c, rfl⟩

set_option maxHeartbeats 8000000 in
theorem NumberSums_walk (d : List UInt8) (s : Int) (e : List UInt8) (t : Int) (hd : d.length ≤ 140737488351232) (he : e.length ≤ 140737488351232) (w : World) (hw : Fit w) :
    Calls Tryd.prog 5 #[numZ d s, numZ e t] w fun ev w' => ev = .returned (.bool true) ∧ Below w.heap.size w w' := by
  have zd := text_size d
  have ze := text_size e
  have HAL := hid (fun X (hb : Below w.heap.size w X) => alive_any X (hw.at hb))
  obtain ⟨W1, hW1, hB1, hN1, hP1, hz1⟩ := boxes2 w d s e t
  have B1 := hid hB1
  have N1 := hid hN1
  have P1 := hid hP1
  have a0 : W1.cell? ⟨w.heap.size, 0, none⟩ = some (.string (text d)) := by rw [Lib.cell_of_heap hN1]; rfl
  have a1 : W1.cell? ⟨w.heap.size, 1, none⟩ = some (.int .i64 s) := by rw [Lib.cell_of_heap hN1]; rfl
  have b0' : W1.cell? ⟨w.heap.size + 1, 0, none⟩ = some (.string (text e)) := by rw [Lib.cell_of_heap hP1]; rfl
  have b1' : W1.cell? ⟨w.heap.size + 1, 1, none⟩ = some (.int .i64 t) := by rw [Lib.cell_of_heap hP1]; rfl
  clear hB1 hN1 hP1 hz1
  by_cases hg : 1500 < d.length ∨ 1500 < e.length
  · have hg2 : 1500 < d.length ∨ (¬ 1500 < d.length ∧ 1500 < e.length) := by omega
    clear hw hg
    unfold numZ at *
    rcases hg2 with h1 | ⟨h1, h2⟩
    all_goals
      go_enter Tryd.func5, Tryd.ntmps5
      go_wp2_with fail
      refine (HAL.out _ B1.out).mono ?_
      rintro ev w1 ⟨rfl, hb1⟩
      have HB := hid (B1.out.trans (hb1.mono B1.out.size))
      clear hb1
      go_wp2
      go_ret
      exact ⟨rfl, HB.out⟩
  · have hg1 : ¬ 1500 < d.length := by omega
    have hg2 : ¬ 1500 < e.length := by omega
    have HC := hid (fun X (hb : Below w.heap.size w X) => NCompare_any d s e t (by omega) (by omega) X (hw.at hb))
    have HA := hid (fun X (hb : Below w.heap.size w X) => Add_any d s e t (by omega) (by omega) X (hw.at hb))
    have K1 := hid (fun X => Check_any d s (by omega) X)
    have K2 := hid (fun X => Check_any e t (by omega) X)
    clear hg
    by_cases h0 : bothE d s e t = 0
    · obtain ⟨k1, k2⟩ := bothE_ok h0
      obtain ⟨hd1, hd2, hd3, hs0, hs1⟩ := checkE_ok k1
      obtain ⟨he1, he2, he3, ht0, ht1⟩ := checkE_ok k2
      obtain ⟨s, rfl⟩ : ∃ k : Nat, s = k := ⟨s.toNat, by omega⟩
      obtain ⟨t, rfl⟩ : ∃ k : Nat, t = k := ⟨t.toNat, by omega⟩
      have HRA := hid (fun X => RAdd_any d s e t hd1 he1 (by omega) (by omega) (by omega) (by omega) X)
      have HRC := hid (fun X => RCompare_any d s e t hd1 he1 (by omega) (by omega) (by omega) (by omega) X)
      unfold CompareA at HC
      rw [if_pos h0, h0, Int.toNat_natCast, Int.toNat_natCast] at HC
      rw [h0, Int.toNat_natCast, Int.toNat_natCast] at HA
      rw [k1] at K1
      rw [k2] at K2
      have HSM := hid (fun (p q : List UInt8 × Nat) (h : Summ d s e t p) (h1 : IsC q) (h2 : q.2 ≤ 1000) (h3 : N q = N (d, s) + N (e, t)) => h.same h1 h2 h3)
      clear hd1 hd2 he1 he2 k1 k2 h0 hw
      generalize cmpN (N (d, s)) (N (e, t)) = C at *
      unfold numZ at *
      go_enter Tryd.func5, Tryd.ntmps5
      go_wp2_with fail
      refine (HC.out _ B1.out).mono ?_
      rintro ev w1 ⟨rfl, hb1⟩
      have n1 := block_later N1.out hb1
      have p1 := block_later P1.out hb1
      have N2 := hid n1
      have P2 := hid p1
      have B2 := hid (B1.out.trans (hb1.mono B1.out.size))
      have c0 : w1.cell? ⟨w.heap.size, 0, none⟩ = some (.string (text d)) := by rw [Lib.cell_of_heap n1]; rfl
      have c1 : w1.cell? ⟨w.heap.size, 1, none⟩ = some (.int .i64 s) := by rw [Lib.cell_of_heap n1]; rfl
      have d0 : w1.cell? ⟨w.heap.size + 1, 0, none⟩ = some (.string (text e)) := by rw [Lib.cell_of_heap p1]; rfl
      have d1 : w1.cell? ⟨w.heap.size + 1, 1, none⟩ = some (.int .i64 t) := by rw [Lib.cell_of_heap p1]; rfl
      clear hb1 n1 p1
      go_wp2_with fail
      refine (HA.out _ B2.out).mono ?_
      rintro ev w2 ⟨⟨p, hp, rfl⟩, hb2⟩
      have HP := hid (hp (by first | rfl | trivial))
      clear hp
      unfold AddV
      obtain ⟨v, hv⟩ : ∃ v, addP 0 p = v := ⟨_, rfl⟩
      obtain ⟨r, hr⟩ : ∃ r, addR 0 p = r := ⟨_, rfl⟩
      rw [hv, hr]
      have HV := hid hv
      have HR := hid hr
      clear hv hr
      obtain ⟨vd, vs⟩ := v
      unfold numV numZ
      have n2 := heap_alloc_old (o' := .cells #[.string (text vd), .int .i64 vs] 24) (block_later N2.out hb2)
      have p2 := heap_alloc_old (o' := .cells #[.string (text vd), .int .i64 vs] 24) (block_later P2.out hb2)
      have V3 := hid (heap_alloc_new w2 (.cells #[.string (text vd), .int .i64 vs] 24))
      have N3 := hid n2
      have P3 := hid p2
      have B3 := hid (ba (B2.out.trans (hb2.mono B2.out.size)) (.cells #[.string (text vd), .int .i64 vs] 24))
      obtain ⟨W3, hW3⟩ : ∃ W3, w2.alloc (.cells #[.string (text vd), .int .i64 vs] 24) = W3 := ⟨_, rfl⟩
      rw [hW3] at n2 p2 V3 N3 P3 B3
      have e0 : W3.cell? ⟨w.heap.size, 0, none⟩ = some (.string (text d)) := by rw [Lib.cell_of_heap n2]; rfl
      have e1 : W3.cell? ⟨w.heap.size, 1, none⟩ = some (.int .i64 s) := by rw [Lib.cell_of_heap n2]; rfl
      clear hb2 n2 p2
      go_wp2_with fail
      clear hW3
      refine (K1.out _).mono ?_
      rintro ev w4 ⟨rfl, hb4⟩
      have n4 := block_later N3.out hb4
      have p4 := block_later P3.out hb4
      have N4 := hid n4
      have P4 := hid p4
      have V4 := hid (block_later V3.out hb4)
      have B4 := hid (B3.out.trans (hb4.mono B3.out.size))
      have f0 : w4.cell? ⟨w.heap.size + 1, 0, none⟩ = some (.string (text e)) := by rw [Lib.cell_of_heap p4]; rfl
      have f1 : w4.cell? ⟨w.heap.size + 1, 1, none⟩ = some (.int .i64 t) := by rw [Lib.cell_of_heap p4]; rfl
      clear hb4 n4 p4
      go_wp2_with fail
      refine (K2.out _).mono ?_
      rintro ev w5 ⟨rfl, hb5⟩
      have n5 := block_later N4.out hb5
      have p5 := block_later P4.out hb5
      have N5 := hid n5
      have P5 := hid p5
      have V5 := hid (block_later V4.out hb5)
      have B5 := hid (B4.out.trans (hb5.mono B4.out.size))
      have g0 : w5.cell? ⟨w.heap.size, 0, none⟩ = some (.string (text d)) := by rw [Lib.cell_of_heap n5]; rfl
      have g1 : w5.cell? ⟨w.heap.size, 1, none⟩ = some (.int .i64 s) := by rw [Lib.cell_of_heap n5]; rfl
      have g2 : w5.cell? ⟨w.heap.size + 1, 0, none⟩ = some (.string (text e)) := by rw [Lib.cell_of_heap p5]; rfl
      have g3 : w5.cell? ⟨w.heap.size + 1, 1, none⟩ = some (.int .i64 t) := by rw [Lib.cell_of_heap p5]; rfl
      clear hb5 n5 p5
      go_wp2_with fail
      refine (HRA.out _).mono ?_
      rintro ev w6 ⟨⟨q, hq1, hq2, hq3, rfl⟩, hb6⟩
      have HQ := hid (HSM.out p q HP.out hq1 hq2 hq3)
      clear hq1 hq2 hq3
      have hpq := HQ.out
      subst hpq
      clear HQ
      obtain ⟨pd, ps⟩ := p
      unfold numV numZ
      have n6 := heap_alloc_old (o' := .cells #[.string (text pd), .int .i64 ps] 24) (block_later N5.out hb6)
      have p6 := heap_alloc_old (o' := .cells #[.string (text pd), .int .i64 ps] 24) (block_later P5.out hb6)
      have V6 := hid (heap_alloc_old (o' := .cells #[.string (text pd), .int .i64 ps] 24) (block_later V5.out hb6))
      have Q6 := hid (heap_alloc_new w6 (.cells #[.string (text pd), .int .i64 ps] 24))
      have N6 := hid n6
      have P6 := hid p6
      have B6 := hid (ba (B5.out.trans (hb6.mono B5.out.size)) (.cells #[.string (text pd), .int .i64 ps] 24))
      clear hb6 n6 p6
      go_wp2_with fail
      refine (HAL.out _ B6.out).mono ?_
      rintro ev w7 ⟨rfl, hb7⟩
      have n7 := block_later N6.out hb7
      have p7 := block_later P6.out hb7
      have V7 := hid (block_later V6.out hb7)
      have Q7 := hid (block_later Q6.out hb7)
      have B7 := hid (B6.out.trans (hb7.mono B6.out.size))
      have h0 : w7.cell? ⟨w.heap.size, 0, none⟩ = some (.string (text d)) := by rw [Lib.cell_of_heap n7]; rfl
      have h1 : w7.cell? ⟨w.heap.size, 1, none⟩ = some (.int .i64 s) := by rw [Lib.cell_of_heap n7]; rfl
      have h2 : w7.cell? ⟨w.heap.size + 1, 0, none⟩ = some (.string (text e)) := by rw [Lib.cell_of_heap p7]; rfl
      have h3 : w7.cell? ⟨w.heap.size + 1, 1, none⟩ = some (.int .i64 t) := by rw [Lib.cell_of_heap p7]; rfl
      clear hb7 n7 p7
      go_wp2_with fail
      refine (HRC.out _).mono ?_
      rintro ev w8 ⟨rfl, hb8⟩
      have v8 := block_later V7.out hb8
      have q8 := block_later Q7.out hb8
      have B8 := hid (B7.out.trans (hb8.mono B7.out.size))
      have i0 : w8.cell? ⟨w2.heap.size, 0, none⟩ = some (.string (text vd)) := by rw [Lib.cell_of_heap v8]; rfl
      have i1 : w8.cell? ⟨w2.heap.size, 1, none⟩ = some (.int .i64 vs) := by rw [Lib.cell_of_heap v8]; rfl
      have i2 : w8.cell? ⟨w6.heap.size, 0, none⟩ = some (.string (text pd)) := by rw [Lib.cell_of_heap q8]; rfl
      have i3 : w8.cell? ⟨w6.heap.size, 1, none⟩ = some (.int .i64 ps) := by rw [Lib.cell_of_heap q8]; rfl
      clear hb8 v8 q8
      have zp := text_size pd
      by_cases hlong : 1000 < pd.length
      · have e1' := (add_long (p := (pd, ps)) hlong).1.symm.trans HR.out
        have e2' := HV.out.symm.trans (add_long (p := (pd, ps)) hlong).2
        obtain ⟨rfl, rfl⟩ := Prod.mk.inj e2'
        subst e1'
        have i0' : w8.cell? ⟨w2.heap.size, 0, none⟩ = some (.string ⟨#[]⟩) := i0
        clear i0 e2'
        go_wp2
        go_ret
        exact ⟨rfl, B8.out⟩
      · have e1' := (add_yes (p := (pd, ps)) hlong).1.symm.trans HR.out
        have e2' := HV.out.symm.trans (add_yes (p := (pd, ps)) hlong).2
        obtain ⟨rfl, rfl⟩ := Prod.mk.inj e2'
        subst e1'
        clear e2'
        go_wp2
        go_ret
        exact ⟨rfl, B8.out⟩
    · have hb := both_ne h0
      unfold CompareA at HC
      rw [if_neg h0] at HC
      have hno := fun p => add_no p h0
      obtain ⟨b, hbb⟩ : ∃ b, bothE d s e t = b := ⟨_, rfl⟩
      rw [hbb] at HC HA hb h0 hno
      have hx : ((b : Int) == 0) = false := by rw [beq_eq_false_iff_ne]; omega
      have hx2 : ((b : Int) != 0) = true := by rw [bne_iff_ne]; omega
      have HNO := hid hno
      clear hw hbb hno
      unfold numZ at *
      rcases hb with ⟨k1, k2, k3⟩ | ⟨k1, k3⟩
      · rw [k1] at K1
        rw [← k3] at K2
        clear k1 k2 k3 h0
        go_enter Tryd.func5, Tryd.ntmps5
        go_wp2_with fail
        refine (HC.out _ B1.out).mono ?_
        rintro ev w1 ⟨rfl, hb1⟩
        have n1 := block_later N1.out hb1
        have p1 := block_later P1.out hb1
        have N2 := hid n1
        have P2 := hid p1
        have B2 := hid (B1.out.trans (hb1.mono B1.out.size))
        have c0 : w1.cell? ⟨w.heap.size, 0, none⟩ = some (.string (text d)) := by rw [Lib.cell_of_heap n1]; rfl
        have c1 : w1.cell? ⟨w.heap.size, 1, none⟩ = some (.int .i64 s) := by rw [Lib.cell_of_heap n1]; rfl
        have d0 : w1.cell? ⟨w.heap.size + 1, 0, none⟩ = some (.string (text e)) := by rw [Lib.cell_of_heap p1]; rfl
        have d1 : w1.cell? ⟨w.heap.size + 1, 1, none⟩ = some (.int .i64 t) := by rw [Lib.cell_of_heap p1]; rfl
        clear hb1 n1 p1
        go_wp2_with fail
        refine (HA.out _ B2.out).mono ?_
        rintro ev w2 ⟨⟨p, hp, rfl⟩, hb2⟩
        have ea : AddV b p = .tuple #[.agg #[.string ⟨#[]⟩, .int .i64 0], .int .i64 b] := by unfold AddV; rw [(HNO.out p).1, (HNO.out p).2]; rfl
        rw [ea]
        clear hp ea
        have n2 := heap_alloc_old (o' := .cells #[.string ⟨#[]⟩, .int .i64 0] 24) (block_later N2.out hb2)
        have p2 := heap_alloc_old (o' := .cells #[.string ⟨#[]⟩, .int .i64 0] 24) (block_later P2.out hb2)
        have V3 := hid (heap_alloc_new w2 (.cells #[.string ⟨#[]⟩, .int .i64 0] 24))
        have N3 := hid n2
        have P3 := hid p2
        have B3 := hid (ba (B2.out.trans (hb2.mono B2.out.size)) (.cells #[.string ⟨#[]⟩, .int .i64 0] 24))
        have e0 : (w2.alloc (.cells #[.string ⟨#[]⟩, .int .i64 0] 24)).cell? ⟨w.heap.size, 0, none⟩ = some (.string (text d)) := by rw [Lib.cell_of_heap n2]; rfl
        have e1 : (w2.alloc (.cells #[.string ⟨#[]⟩, .int .i64 0] 24)).cell? ⟨w.heap.size, 1, none⟩ = some (.int .i64 s) := by rw [Lib.cell_of_heap n2]; rfl
        clear hb2 n2 p2
        go_wp2_with fail
        refine (K1.out _).mono ?_
        rintro ev w4 ⟨rfl, hb4⟩
        have p4 := block_later P3.out hb4
        have V4 := hid (block_later V3.out hb4)
        have B4 := hid (B3.out.trans (hb4.mono B3.out.size))
        have f0 : w4.cell? ⟨w.heap.size + 1, 0, none⟩ = some (.string (text e)) := by rw [Lib.cell_of_heap p4]; rfl
        have f1 : w4.cell? ⟨w.heap.size + 1, 1, none⟩ = some (.int .i64 t) := by rw [Lib.cell_of_heap p4]; rfl
        clear hb4 p4
        go_wp2_with fail
        refine (K2.out _).mono ?_
        rintro ev w5 ⟨rfl, hb5⟩
        have V5 := hid (block_later V4.out hb5)
        have B5 := hid (B4.out.trans (hb5.mono B4.out.size))
        clear hb5
        go_wp2_with fail
        refine (HAL.out _ B5.out).mono ?_
        rintro ev w6 ⟨rfl, hb6⟩
        have v6 := block_later V5.out hb6
        have B6 := hid (B5.out.trans (hb6.mono B5.out.size))
        have g0 : w6.cell? ⟨w2.heap.size, 0, none⟩ = some (.string ⟨#[]⟩) := by rw [Lib.cell_of_heap v6]; rfl
        have g1 : w6.cell? ⟨w2.heap.size, 1, none⟩ = some (.int .i64 0) := by rw [Lib.cell_of_heap v6]; rfl
        clear hb6 v6
        go_wp2
        go_ret
        exact ⟨rfl, B6.out⟩
      · rw [← k3] at K1
        clear k1 k3 h0
        go_enter Tryd.func5, Tryd.ntmps5
        go_wp2_with fail
        refine (HC.out _ B1.out).mono ?_
        rintro ev w1 ⟨rfl, hb1⟩
        have n1 := block_later N1.out hb1
        have p1 := block_later P1.out hb1
        have N2 := hid n1
        have P2 := hid p1
        have B2 := hid (B1.out.trans (hb1.mono B1.out.size))
        have c0 : w1.cell? ⟨w.heap.size, 0, none⟩ = some (.string (text d)) := by rw [Lib.cell_of_heap n1]; rfl
        have c1 : w1.cell? ⟨w.heap.size, 1, none⟩ = some (.int .i64 s) := by rw [Lib.cell_of_heap n1]; rfl
        have d0 : w1.cell? ⟨w.heap.size + 1, 0, none⟩ = some (.string (text e)) := by rw [Lib.cell_of_heap p1]; rfl
        have d1 : w1.cell? ⟨w.heap.size + 1, 1, none⟩ = some (.int .i64 t) := by rw [Lib.cell_of_heap p1]; rfl
        clear hb1 n1 p1
        go_wp2_with fail
        refine (HA.out _ B2.out).mono ?_
        rintro ev w2 ⟨⟨p, hp, rfl⟩, hb2⟩
        have ea : AddV b p = .tuple #[.agg #[.string ⟨#[]⟩, .int .i64 0], .int .i64 b] := by unfold AddV; rw [(HNO.out p).1, (HNO.out p).2]; rfl
        rw [ea]
        clear hp ea
        have n2 := heap_alloc_old (o' := .cells #[.string ⟨#[]⟩, .int .i64 0] 24) (block_later N2.out hb2)
        have p2 := heap_alloc_old (o' := .cells #[.string ⟨#[]⟩, .int .i64 0] 24) (block_later P2.out hb2)
        have V3 := hid (heap_alloc_new w2 (.cells #[.string ⟨#[]⟩, .int .i64 0] 24))
        have N3 := hid n2
        have P3 := hid p2
        have B3 := hid (ba (B2.out.trans (hb2.mono B2.out.size)) (.cells #[.string ⟨#[]⟩, .int .i64 0] 24))
        have e0 : (w2.alloc (.cells #[.string ⟨#[]⟩, .int .i64 0] 24)).cell? ⟨w.heap.size, 0, none⟩ = some (.string (text d)) := by rw [Lib.cell_of_heap n2]; rfl
        have e1 : (w2.alloc (.cells #[.string ⟨#[]⟩, .int .i64 0] 24)).cell? ⟨w.heap.size, 1, none⟩ = some (.int .i64 s) := by rw [Lib.cell_of_heap n2]; rfl
        clear hb2 n2 p2
        go_wp2_with fail
        refine (K1.out _).mono ?_
        rintro ev w4 ⟨rfl, hb4⟩
        have p4 := block_later P3.out hb4
        have V4 := hid (block_later V3.out hb4)
        have B4 := hid (B3.out.trans (hb4.mono B3.out.size))
        have f0 : w4.cell? ⟨w.heap.size + 1, 0, none⟩ = some (.string (text e)) := by rw [Lib.cell_of_heap p4]; rfl
        have f1 : w4.cell? ⟨w.heap.size + 1, 1, none⟩ = some (.int .i64 t) := by rw [Lib.cell_of_heap p4]; rfl
        clear hb4 p4
        have V5 := V4
        have B5 := B4
        go_wp2_with fail
        refine (HAL.out _ B5.out).mono ?_
        rintro ev w6 ⟨rfl, hb6⟩
        have v6 := block_later V5.out hb6
        have B6 := hid (B5.out.trans (hb6.mono B5.out.size))
        have g0 : w6.cell? ⟨w2.heap.size, 0, none⟩ = some (.string ⟨#[]⟩) := by rw [Lib.cell_of_heap v6]; rfl
        have g1 : w6.cell? ⟨w2.heap.size, 1, none⟩ = some (.int .i64 0) := by rw [Lib.cell_of_heap v6]; rfl
        clear hb6 v6
        go_wp2
        go_ret
        exact ⟨rfl, B6.out⟩
end Go.Proofs.YtjmfcgbelikcdaaDoor.Num
