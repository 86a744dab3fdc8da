/- Layer 7: the walk of NumberForms. -/
import Derived.Test.YtjmfcgbelikcdaaDoorNumP
import Derived.Deep.RegionHeld3
set_option linter.unusedVariables false
set_option linter.unusedSimpArgs false
namespace Go.Proofs.YtjmfcgbelikcdaaDoor.Num
open Go Go.Proofs.YtjmfcgbelikcdaaDoor Go.RowKit
set_option maxRecDepth 100000

theorem right_canon {d : List UInt8} {k : Nat} (hd : AllD d) (hn : d ≠ []) (hl : d.length ≤ 1000) (hk : k ≤ 1000) : rightB (canon d k).1 (canon d k).2 = true := by
  have hc := canon_len d k hn
  unfold rightB
  rw [decide_eq_true_iff]
  exact ⟨checkE_canon hd hn (by omega) hk, by rw [Int.toNat_natCast]; exact canon_fix (canon_is hd k)⟩
theorem right_eq {d : List UInt8} {k : Nat} (h : checkE d k = 0) : rightB d k = decide (canon d k = (d, k)) := by unfold rightB; simp [h]
theorem cell_later {X Y : World} {p : Addr} {v : Value} (h : X.cell? p = some v) (hb : Below X.heap.size X Y) : Y.cell? p = some v := (hb.cell (p := p) (World.block_lt_of_cell? X p h)).trans h
theorem text_inj {a b : List UInt8} (h : text a = text b) : a = b := by have := congrArg (fun x : ByteArray => x.data.toList) h; simpa [text_data] using this

set_option maxHeartbeats 8000000 in
theorem NumberForms_walk (d : List UInt8) (s : Int) (hl : d.length ≤ 140737488351232) (w : World) (hw : Fit w) :
    Calls Tryd.prog 4 #[numZ d s] w fun e w' => e = .returned (.bool true) ∧ Below w.heap.size w w' := by
  have mixed : Tryd.prog.follows Departure.mixedOrders = true := by kernel_rfl
  have z1 := text_size d
  have HAL := hid (fun X (hb : Below w.heap.size w X) => alive_any X (hw.at hb))
  by_cases hg : 3000 < d.length
  · clear hw
    unfold numZ
    go_enter Tryd.func4, Tryd.ntmps4
    go_wp2_with fail
    refine (HAL.out _ (ba (b0 _) _)).mono ?_
    rintro ev w1 ⟨rfl, hb1⟩
    go_wp2
    go_ret
    exact ⟨rfl, below_of_alloc hb1⟩
  · have HC := hid (fun X (hb : Below w.heap.size w X) => Canon_any d s (by omega) X (hw.at hb))
    have HT := hid (fun X (hb : Below w.heap.size w X) => Text_any d s (by omega) X (hw.at hb))
    have HK := hid (fun X => Check_any d s (by omega) X)
    have HR := hid (fun (d : List UInt8) (s : Int) (h : d.length ≤ 3000) X (hb : Below w.heap.size w X) => Right_any d s (by omega) X (hw.at hb))
    have HN0 := hid (heap_alloc_new w (.cells #[.string (text d), .int .i64 s] 24))
    have HB0 := hid (ba (b0 w) (.cells #[.string (text d), .int .i64 s] 24))
    by_cases h0 : checkE d s = 0
    · obtain ⟨hd, hn, hd2, hs0, hs1⟩ := checkE_ok h0
      obtain ⟨k, rfl⟩ : ∃ k : Nat, s = k := ⟨s.toNat, by omega⟩
      have HRC := hid (fun X => RCanon_any d k (by omega) (by omega) hd hn X)
      have HRT := hid (fun X => RText_any d k (by omega) (by omega) hd hn X)
      have ec := right_canon hd hn hd2 (k := k) (by omega)
      have eb := right_eq h0
      have hcl := canon_len d k hn
      rw [CanonA_yes h0, Int.toNat_natCast] at HC
      rw [h0] at HK
      unfold TextA at HT
      rw [if_pos h0, h0, Int.toNat_natCast] at HT
      clear hw h0 hd hn
      generalize textV (canon d k) = T at *
      generalize canon d k = c at *
      obtain ⟨a, j⟩ := c
      unfold numV numZ at *
      dsimp only at *
      obtain ⟨B, hB⟩ : ∃ B, rightB d k = B := ⟨_, rfl⟩
      rw [hB] at eb
      go_enter Tryd.func4, Tryd.ntmps4
      go_wp2_with fail
      refine (HC.out _ HB0.out).mono ?_
      rintro ev w1 ⟨rfl, hb1⟩
      have n1 := heap_alloc_old (o' := .cells #[.string (text a), .int .i64 j] 24) (block_later HN0.out hb1)
      have HN1 := hid n1
      have HM1 := hid (heap_alloc_new w1 (.cells #[.string (text a), .int .i64 j] 24))
      have HB1 := hid (ba (HB0.out.trans (hb1.mono HB0.out.size)) (.cells #[.string (text a), .int .i64 j] 24))
      have a0 : (w1.alloc (.cells #[.string (text a), .int .i64 j] 24)).cell? ⟨w.heap.size, 0, none⟩ = some (.string (text d)) := by rw [Lib.cell_of_heap n1]; rfl
      have a1 : (w1.alloc (.cells #[.string (text a), .int .i64 j] 24)).cell? ⟨w.heap.size, 1, none⟩ = some (.int .i64 k) := by rw [Lib.cell_of_heap n1]; rfl
      clear hb1 n1
      go_wp2_with fail
      refine (HT.out _ HB1.out).mono ?_
      rintro ev w2 ⟨rfl, hb2⟩
      have n2 := block_later HN1.out hb2
      have HN2 := hid n2
      have HM2 := hid (block_later HM1.out hb2)
      have HB2 := hid (HB1.out.trans (hb2.mono HB1.out.size))
      have b0' : w2.cell? ⟨w.heap.size, 0, none⟩ = some (.string (text d)) := by rw [Lib.cell_of_heap n2]; rfl
      have b1' : w2.cell? ⟨w.heap.size, 1, none⟩ = some (.int .i64 k) := by rw [Lib.cell_of_heap n2]; rfl
      clear hb2 n2
      go_wp2_with fail
      refine (HK.out _).mono ?_
      rintro ev w3 ⟨rfl, hb3⟩
      have n3 := block_later HN2.out hb3
      have HN3 := hid n3
      have HM3 := hid (block_later HM2.out hb3)
      have HB3 := hid (HB2.out.trans (hb3.mono HB2.out.size))
      have d0' : w3.cell? ⟨w.heap.size, 0, none⟩ = some (.string (text d)) := by rw [Lib.cell_of_heap n3]; rfl
      have d1' : w3.cell? ⟨w.heap.size, 1, none⟩ = some (.int .i64 k) := by rw [Lib.cell_of_heap n3]; rfl
      clear hb3 n3
      go_wp2_with fail
      refine (HRC.out _).mono ?_
      rintro ev w4 ⟨rfl, hb4⟩
      have HN4 := hid (heap_alloc_old (o' := .cells #[.string (text a), .int .i64 j] 24) (block_later HN3.out hb4))
      have HM4 := hid (heap_alloc_old (o' := .cells #[.string (text a), .int .i64 j] 24) (block_later HM3.out hb4))
      have HL4 := hid (heap_alloc_new w4 (.cells #[.string (text a), .int .i64 j] 24))
      have HB4 := hid (ba (HB3.out.trans (hb4.mono HB3.out.size)) (.cells #[.string (text a), .int .i64 j] 24))
      clear hb4
      go_wp2_with fail
      obtain ⟨Z, hZ⟩ : ∃ Z, w4.alloc (.cells #[.string (text a), .int .i64 j] 24) = Z := ⟨_, rfl⟩
      rw [hZ] at HN4 HM4 HL4 HB4
      rw [hZ]
      clear hZ
      have H1 := hid (show Z.drew.heap[w.heap.size]? = _ from HN4.out)
      have H2 := hid (show Z.drew.heap[w1.heap.size]? = _ from HM4.out)
      have H3 := hid (show Z.drew.heap[w4.heap.size]? = _ from HL4.out)
      have HB := hid HB4.out.drew
      have hal : a.length ≤ 3000 := by omega
      clear hcl a0 a1 b0' b1' d0' d1' HC HT HK HN0 HB0 HN1 HM1 HB1 HN2 HM2 HB2 HN3 HM3 HB3 HN4 HM4 HL4 HB4 HRC
      by_cases hq : (a, j) = (d, k)
      · have hb1 : B = true := by rw [eb]; simp [hq]
        obtain ⟨rfl, rfl⟩ := Prod.mk.inj hq
        subst hb1
        clear eb hq
        have HS0 : (Z.drew.cell? ⟨w.heap.size, 0, none⟩ = some (.string (text a)) ∧ Z.drew.cell? ⟨w.heap.size, 1, none⟩ = some (.int .i64 j) ∧ Z.drew.cell? ⟨w1.heap.size, 0, none⟩ = some (.string (text a)) ∧ Z.drew.cell? ⟨w1.heap.size, 1, none⟩ = some (.int .i64 j) ∧ Z.drew.cell? ⟨w4.heap.size, 0, none⟩ = some (.string (text a)) ∧ Z.drew.cell? ⟨w4.heap.size, 1, none⟩ = some (.int .i64 j) ∧ Below w.heap.size w Z.drew) := ⟨by rw [Lib.cell_of_heap H1.out]; rfl, by rw [Lib.cell_of_heap H1.out]; rfl, by rw [Lib.cell_of_heap H2.out]; rfl, by rw [Lib.cell_of_heap H2.out]; rfl, by rw [Lib.cell_of_heap H3.out]; rfl, by rw [Lib.cell_of_heap H3.out]; rfl, HB.out⟩
        have SL := hid (fun (X Y : World) (h : (X.cell? ⟨w.heap.size, 0, none⟩ = some (.string (text a)) ∧ X.cell? ⟨w.heap.size, 1, none⟩ = some (.int .i64 j) ∧ X.cell? ⟨w1.heap.size, 0, none⟩ = some (.string (text a)) ∧ X.cell? ⟨w1.heap.size, 1, none⟩ = some (.int .i64 j) ∧ X.cell? ⟨w4.heap.size, 0, none⟩ = some (.string (text a)) ∧ X.cell? ⟨w4.heap.size, 1, none⟩ = some (.int .i64 j) ∧ Below w.heap.size w X)) (hb : Below X.heap.size X Y) => (show (Y.cell? ⟨w.heap.size, 0, none⟩ = some (.string (text a)) ∧ Y.cell? ⟨w.heap.size, 1, none⟩ = some (.int .i64 j) ∧ Y.cell? ⟨w1.heap.size, 0, none⟩ = some (.string (text a)) ∧ Y.cell? ⟨w1.heap.size, 1, none⟩ = some (.int .i64 j) ∧ Y.cell? ⟨w4.heap.size, 0, none⟩ = some (.string (text a)) ∧ Y.cell? ⟨w4.heap.size, 1, none⟩ = some (.int .i64 j) ∧ Below w.heap.size w Y) from ⟨cell_later h.1 hb, cell_later h.2.1 hb, cell_later h.2.2.1 hb, cell_later h.2.2.2.1 hb, cell_later h.2.2.2.2.1 hb, cell_later h.2.2.2.2.2.1 hb, h.2.2.2.2.2.2.trans (hb.mono h.2.2.2.2.2.2.size)⟩))
        go_region_held3 (fun w' => (w'.cell? ⟨w.heap.size, 0, none⟩ = some (.string (text a)) ∧ w'.cell? ⟨w.heap.size, 1, none⟩ = some (.int .i64 j) ∧ w'.cell? ⟨w1.heap.size, 0, none⟩ = some (.string (text a)) ∧ w'.cell? ⟨w1.heap.size, 1, none⟩ = some (.int .i64 j) ∧ w'.cell? ⟨w4.heap.size, 0, none⟩ = some (.string (text a)) ∧ w'.cell? ⟨w4.heap.size, 1, none⟩ = some (.int .i64 j) ∧ Below w.heap.size w w')) (first | exact HSx | exact HS0) (first
          | (go_at_call 8
             refine (HAL.out _ ?_).mono ?_
             (first | exact HSx.2.2.2.2.2.2 | exact HS0.2.2.2.2.2.2)
             rintro ev wx ⟨rfl, hb⟩
             first | have HSx := SL.out _ _ HSx hb | have HSx := SL.out _ _ HS0 hb)
          | (go_at_call 16
             refine (HRT.out _).mono ?_
             rintro ev wx ⟨rfl, hb⟩
             first | have HSx := SL.out _ _ HSx hb | have HSx := SL.out _ _ HS0 hb)
          | (go_at_call 14
             refine (HR.out _ _ ?_ _ ?_).mono ?_
             omega
             (first | exact HSx.2.2.2.2.2.2 | exact HS0.2.2.2.2.2.2)
             rintro ev wx ⟨rfl, hb⟩
             (first | rw [hB] | rw [ec])
             first | have HSx := SL.out _ _ HSx hb | have HSx := SL.out _ _ HS0 hb))
        all_goals go_wp2
        all_goals go_ret
        all_goals exact ⟨rfl, HSx.2.2.2.2.2.2⟩
      · have hb1 : B = false := by rw [eb]; simp [hq]
        subst hb1
        clear eb
        by_cases hq2 : a = d
        · have hjk : ((k : Int) == (j : Int)) = false := by rw [beq_eq_false_iff_ne]; intro e; exact hq (by rw [hq2]; congr 1; omega)
          have hjk2 : ¬ (k : Int) = (j : Int) := by intro e; exact hq (by rw [hq2]; congr 1; omega)
          subst hq2
          clear hq
          have HS0 : (Z.drew.cell? ⟨w.heap.size, 0, none⟩ = some (.string (text a)) ∧ Z.drew.cell? ⟨w.heap.size, 1, none⟩ = some (.int .i64 k) ∧ Z.drew.cell? ⟨w1.heap.size, 0, none⟩ = some (.string (text a)) ∧ Z.drew.cell? ⟨w1.heap.size, 1, none⟩ = some (.int .i64 j) ∧ Z.drew.cell? ⟨w4.heap.size, 0, none⟩ = some (.string (text a)) ∧ Z.drew.cell? ⟨w4.heap.size, 1, none⟩ = some (.int .i64 j) ∧ Below w.heap.size w Z.drew) := ⟨by rw [Lib.cell_of_heap H1.out]; rfl, by rw [Lib.cell_of_heap H1.out]; rfl, by rw [Lib.cell_of_heap H2.out]; rfl, by rw [Lib.cell_of_heap H2.out]; rfl, by rw [Lib.cell_of_heap H3.out]; rfl, by rw [Lib.cell_of_heap H3.out]; rfl, HB.out⟩
          have SL := hid (fun (X Y : World) (h : (X.cell? ⟨w.heap.size, 0, none⟩ = some (.string (text a)) ∧ X.cell? ⟨w.heap.size, 1, none⟩ = some (.int .i64 k) ∧ X.cell? ⟨w1.heap.size, 0, none⟩ = some (.string (text a)) ∧ X.cell? ⟨w1.heap.size, 1, none⟩ = some (.int .i64 j) ∧ X.cell? ⟨w4.heap.size, 0, none⟩ = some (.string (text a)) ∧ X.cell? ⟨w4.heap.size, 1, none⟩ = some (.int .i64 j) ∧ Below w.heap.size w X)) (hb : Below X.heap.size X Y) => (show (Y.cell? ⟨w.heap.size, 0, none⟩ = some (.string (text a)) ∧ Y.cell? ⟨w.heap.size, 1, none⟩ = some (.int .i64 k) ∧ Y.cell? ⟨w1.heap.size, 0, none⟩ = some (.string (text a)) ∧ Y.cell? ⟨w1.heap.size, 1, none⟩ = some (.int .i64 j) ∧ Y.cell? ⟨w4.heap.size, 0, none⟩ = some (.string (text a)) ∧ Y.cell? ⟨w4.heap.size, 1, none⟩ = some (.int .i64 j) ∧ Below w.heap.size w Y) from ⟨cell_later h.1 hb, cell_later h.2.1 hb, cell_later h.2.2.1 hb, cell_later h.2.2.2.1 hb, cell_later h.2.2.2.2.1 hb, cell_later h.2.2.2.2.2.1 hb, h.2.2.2.2.2.2.trans (hb.mono h.2.2.2.2.2.2.size)⟩))
          go_region_held3 (fun w' => (w'.cell? ⟨w.heap.size, 0, none⟩ = some (.string (text a)) ∧ w'.cell? ⟨w.heap.size, 1, none⟩ = some (.int .i64 k) ∧ w'.cell? ⟨w1.heap.size, 0, none⟩ = some (.string (text a)) ∧ w'.cell? ⟨w1.heap.size, 1, none⟩ = some (.int .i64 j) ∧ w'.cell? ⟨w4.heap.size, 0, none⟩ = some (.string (text a)) ∧ w'.cell? ⟨w4.heap.size, 1, none⟩ = some (.int .i64 j) ∧ Below w.heap.size w w')) (first | exact HSx | exact HS0) (first
            | (go_at_call 8
               refine (HAL.out _ ?_).mono ?_
               (first | exact HSx.2.2.2.2.2.2 | exact HS0.2.2.2.2.2.2)
               rintro ev wx ⟨rfl, hb⟩
               first | have HSx := SL.out _ _ HSx hb | have HSx := SL.out _ _ HS0 hb)
            | (go_at_call 16
               refine (HRT.out _).mono ?_
               rintro ev wx ⟨rfl, hb⟩
               first | have HSx := SL.out _ _ HSx hb | have HSx := SL.out _ _ HS0 hb)
            | (go_at_call 14
               refine (HR.out _ _ ?_ _ ?_).mono ?_
               omega
               (first | exact HSx.2.2.2.2.2.2 | exact HS0.2.2.2.2.2.2)
               rintro ev wx ⟨rfl, hb⟩
               (first | rw [hB] | rw [ec])
               first | have HSx := SL.out _ _ HSx hb | have HSx := SL.out _ _ HS0 hb))
          all_goals go_wp2
          all_goals go_ret
          all_goals exact ⟨rfl, HSx.2.2.2.2.2.2⟩
        · have hda : ((text d).toList == (text a).toList) = false := by rw [text_list, text_list, beq_eq_false_iff_ne]; exact fun e => hq2 e.symm
          have hda2 : ¬ (text d).toList = (text a).toList := by rw [text_list, text_list]; exact fun e => hq2 e.symm
          clear hq hq2
          have HS0 : (Z.drew.cell? ⟨w.heap.size, 0, none⟩ = some (.string (text d)) ∧ Z.drew.cell? ⟨w.heap.size, 1, none⟩ = some (.int .i64 k) ∧ Z.drew.cell? ⟨w1.heap.size, 0, none⟩ = some (.string (text a)) ∧ Z.drew.cell? ⟨w1.heap.size, 1, none⟩ = some (.int .i64 j) ∧ Z.drew.cell? ⟨w4.heap.size, 0, none⟩ = some (.string (text a)) ∧ Z.drew.cell? ⟨w4.heap.size, 1, none⟩ = some (.int .i64 j) ∧ Below w.heap.size w Z.drew) := ⟨by rw [Lib.cell_of_heap H1.out]; rfl, by rw [Lib.cell_of_heap H1.out]; rfl, by rw [Lib.cell_of_heap H2.out]; rfl, by rw [Lib.cell_of_heap H2.out]; rfl, by rw [Lib.cell_of_heap H3.out]; rfl, by rw [Lib.cell_of_heap H3.out]; rfl, HB.out⟩
          have SL := hid (fun (X Y : World) (h : (X.cell? ⟨w.heap.size, 0, none⟩ = some (.string (text d)) ∧ X.cell? ⟨w.heap.size, 1, none⟩ = some (.int .i64 k) ∧ X.cell? ⟨w1.heap.size, 0, none⟩ = some (.string (text a)) ∧ X.cell? ⟨w1.heap.size, 1, none⟩ = some (.int .i64 j) ∧ X.cell? ⟨w4.heap.size, 0, none⟩ = some (.string (text a)) ∧ X.cell? ⟨w4.heap.size, 1, none⟩ = some (.int .i64 j) ∧ Below w.heap.size w X)) (hb : Below X.heap.size X Y) => (show (Y.cell? ⟨w.heap.size, 0, none⟩ = some (.string (text d)) ∧ Y.cell? ⟨w.heap.size, 1, none⟩ = some (.int .i64 k) ∧ Y.cell? ⟨w1.heap.size, 0, none⟩ = some (.string (text a)) ∧ Y.cell? ⟨w1.heap.size, 1, none⟩ = some (.int .i64 j) ∧ Y.cell? ⟨w4.heap.size, 0, none⟩ = some (.string (text a)) ∧ Y.cell? ⟨w4.heap.size, 1, none⟩ = some (.int .i64 j) ∧ Below w.heap.size w Y) from ⟨cell_later h.1 hb, cell_later h.2.1 hb, cell_later h.2.2.1 hb, cell_later h.2.2.2.1 hb, cell_later h.2.2.2.2.1 hb, cell_later h.2.2.2.2.2.1 hb, h.2.2.2.2.2.2.trans (hb.mono h.2.2.2.2.2.2.size)⟩))
          go_region_held3 (fun w' => (w'.cell? ⟨w.heap.size, 0, none⟩ = some (.string (text d)) ∧ w'.cell? ⟨w.heap.size, 1, none⟩ = some (.int .i64 k) ∧ w'.cell? ⟨w1.heap.size, 0, none⟩ = some (.string (text a)) ∧ w'.cell? ⟨w1.heap.size, 1, none⟩ = some (.int .i64 j) ∧ w'.cell? ⟨w4.heap.size, 0, none⟩ = some (.string (text a)) ∧ w'.cell? ⟨w4.heap.size, 1, none⟩ = some (.int .i64 j) ∧ Below w.heap.size w w')) (first | exact HSx | exact HS0) (first
            | (go_at_call 8
               refine (HAL.out _ ?_).mono ?_
               (first | exact HSx.2.2.2.2.2.2 | exact HS0.2.2.2.2.2.2)
               rintro ev wx ⟨rfl, hb⟩
               first | have HSx := SL.out _ _ HSx hb | have HSx := SL.out _ _ HS0 hb)
            | (go_at_call 16
               refine (HRT.out _).mono ?_
               rintro ev wx ⟨rfl, hb⟩
               first | have HSx := SL.out _ _ HSx hb | have HSx := SL.out _ _ HS0 hb)
            | (go_at_call 14
               refine (HR.out _ _ ?_ _ ?_).mono ?_
               omega
               (first | exact HSx.2.2.2.2.2.2 | exact HS0.2.2.2.2.2.2)
               rintro ev wx ⟨rfl, hb⟩
               (first | rw [hB] | rw [ec])
               first | have HSx := SL.out _ _ HSx hb | have HSx := SL.out _ _ HS0 hb))
          all_goals go_wp2
          all_goals go_ret
          all_goals exact ⟨rfl, HSx.2.2.2.2.2.2⟩
    · have er : rightB d s = false := by unfold rightB; simp [h0]
      have hx : ((checkE d s : Int) == 0) = false := by rw [beq_eq_false_iff_ne]; omega
      have hx2 : ((checkE d s : Int) != 0) = true := by rw [bne_iff_ne]; omega
      rw [CanonA_no h0] at HC
      unfold TextA at HT
      rw [if_neg h0] at HT
      clear hw h0
      generalize checkE d s = n at *
      have HT2 := hid (show ∀ X, Below w.heap.size w X → Calls Tryd.prog 12 #[numZ d s] X (fun e w' => e = .returned (.tuple #[.string ⟨#[]⟩, .int .i64 n]) ∧ Below X.heap.size X w') from HT.out)
      unfold numZ at *
      clear HT
      go_enter Tryd.func4, Tryd.ntmps4
      go_wp2_with fail
      refine (HC.out _ HB0.out).mono ?_
      rintro ev w1 ⟨rfl, hb1⟩
      have n1 := heap_alloc_old (o' := .cells #[.string ⟨#[]⟩, .int .i64 0] 24) (block_later HN0.out hb1)
      have HN1 := hid n1
      have HM1 := hid (heap_alloc_new w1 (.cells #[.string ⟨#[]⟩, .int .i64 0] 24))
      have HB1 := hid (ba (HB0.out.trans (hb1.mono HB0.out.size)) (.cells #[.string ⟨#[]⟩, .int .i64 0] 24))
      have a0 : (w1.alloc (.cells #[.string ⟨#[]⟩, .int .i64 0] 24)).cell? ⟨w.heap.size, 0, none⟩ = some (.string (text d)) := by rw [Lib.cell_of_heap n1]; rfl
      have a1 : (w1.alloc (.cells #[.string ⟨#[]⟩, .int .i64 0] 24)).cell? ⟨w.heap.size, 1, none⟩ = some (.int .i64 s) := by rw [Lib.cell_of_heap n1]; rfl
      clear hb1 n1
      go_wp2_with fail
      refine (HT2.out _ HB1.out).mono ?_
      rintro ev w2 ⟨rfl, hb2⟩
      have n2 := block_later HN1.out hb2
      have HN2 := hid n2
      have HM2 := hid (block_later HM1.out hb2)
      have HB2 := hid (HB1.out.trans (hb2.mono HB1.out.size))
      have b0' : w2.cell? ⟨w.heap.size, 0, none⟩ = some (.string (text d)) := by rw [Lib.cell_of_heap n2]; rfl
      have b1' : w2.cell? ⟨w.heap.size, 1, none⟩ = some (.int .i64 s) := by rw [Lib.cell_of_heap n2]; rfl
      clear hb2 n2
      go_wp2_with fail
      refine (HK.out _).mono ?_
      rintro ev w3 ⟨rfl, hb3⟩
      have HN3 := hid (block_later HN2.out hb3)
      have HM3 := hid (block_later HM2.out hb3)
      have HB3 := hid (HB2.out.trans (hb3.mono HB2.out.size))
      clear hb3
      go_wp2_with fail
      refine (HAL.out _ HB3.out).mono ?_
      rintro ev w4 ⟨rfl, hb4⟩
      have n4 := block_later HN3.out hb4
      have m4 := block_later HM3.out hb4
      have HB4 := hid (HB3.out.trans (hb4.mono HB3.out.size))
      have d0' : w4.cell? ⟨w.heap.size, 0, none⟩ = some (.string (text d)) := by rw [Lib.cell_of_heap n4]; rfl
      have d1' : w4.cell? ⟨w.heap.size, 1, none⟩ = some (.int .i64 s) := by rw [Lib.cell_of_heap n4]; rfl
      have e0' : w4.cell? ⟨w1.heap.size, 0, none⟩ = some (.string ⟨#[]⟩) := by rw [Lib.cell_of_heap m4]; rfl
      have e1' : w4.cell? ⟨w1.heap.size, 1, none⟩ = some (.int .i64 0) := by rw [Lib.cell_of_heap m4]; rfl
      clear hb4 n4 m4
      go_wp2_with fail
      refine (HR.out _ _ (by omega) _ HB4.out).mono ?_
      rintro ev w5 ⟨rfl, hb5⟩
      rw [er]
      have HB5 := hid (HB4.out.trans (hb5.mono HB4.out.size))
      clear hb5
      go_wp2
      go_ret
      exact ⟨rfl, HB5.out⟩
end Go.Proofs.YtjmfcgbelikcdaaDoor.Num
