/- Layer 7: contracts of Text, and of the document's Text. -/
import Derived.Test.YtjmfcgbelikcdaaDoorNumH
import Derived.Test.YtjmfcgbelikcdaaDoorNumD
set_option linter.unusedVariables false
set_option linter.unusedSimpArgs false
namespace Go.Proofs.YtjmfcgbelikcdaaDoor.Num
open Go Go.Proofs.YtjmfcgbelikcdaaDoor Go.RowKit
set_option maxRecDepth 100000

/-- A number's digits, with noughts ahead, so that one stands ahead of the point. -/
def fullD (p : List UInt8 × Nat) : List UInt8 := List.replicate (p.2 + 1 - p.1.length) 48 ++ p.1
/-- The text of what is in the one form. -/
def textV (p : List UInt8 × Nat) : List UInt8 := if p.2 = 0 then p.1 else (fullD p).take ((fullD p).length - p.2) ++ [46] ++ (fullD p).drop ((fullD p).length - p.2)
theorem fullD_len (p : List UInt8 × Nat) : (fullD p).length = p.2 + 1 - p.1.length + p.1.length := by unfold fullD; simp
/-- What Text answers. -/
def TextA (d : List UInt8) (s : Int) : Value := .tuple #[.string (text (if checkE d s = 0 then textV (canon d s.toNat) else [])), .int .i64 (checkE d s)]

set_option maxHeartbeats 2000000 in
theorem Text_any (d : List UInt8) (s : Int) (hl : d.length ≤ 500000000) (w : World) (hw : Fit w) :
    Calls Tryd.prog 12 #[numZ d s] w fun e w' => e = .returned (TextA d s) ∧ Below w.heap.size w w' := by
  have HC := hid (Canon_any d s hl _ (hw.at (ba (b0 w) (.cells #[.string (text d), .int .i64 s] 24))))
  clear hw
  by_cases h0 : checkE d s = 0
  · obtain ⟨hd, hn, hd2, hs0, hs1⟩ := checkE_ok h0
    obtain ⟨k, rfl⟩ : ∃ k : Nat, s = k := ⟨s.toNat, by omega⟩
    have HA := hid (show TextA d k = .tuple #[.string (text (textV (canon d k))), .int .i64 0] by unfold TextA; rw [if_pos h0, h0]; rfl)
    rw [CanonA_yes h0, Int.toNat_natCast] at HC
    have hcl := canon_len d k hn
    clear h0 hd hn
    generalize canon d k = c at *
    obtain ⟨a, j⟩ := c
    simp only at hcl
    unfold numV numZ at HC
    unfold numZ
    have z1 := text_size a
    go_enter Tryd.func12, Tryd.ntmps12
    go_wp2_with fail
    refine HC.out.mono ?_
    rintro e w1 ⟨rfl, hb1⟩
    have n1 := laid_later hb1
    have HB := hid (below_of_alloc hb1)
    have HN := hid (put2 n1 (.string (text a)) (.int .i64 j))
    have HB2 := hid (put2_below HB.out (Nat.le_refl _) (.string (text a)) (.int .i64 j))
    have f0 := Lib.frozen_of_heap n1 0
    have f1 := Lib.frozen_of_heap n1 1
    have e0 : w1.cell? ⟨w.heap.size, 0, none⟩ = some (.string (text d)) := by rw [Lib.cell_of_heap n1]; rfl
    have e1 : w1.cell? ⟨w.heap.size, 1, none⟩ = some (.int .i64 k) := by rw [Lib.cell_of_heap n1]; rfl
    obtain ⟨W2, hW2⟩ : ∃ W2, (w1.setCell ⟨w.heap.size, 0, none⟩ (.string (text a))).setCell ⟨w.heap.size, 1, none⟩ (.int .i64 j) = W2 := ⟨_, rfl⟩
    rw [hW2] at HN HB2
    have c0 : W2.cell? ⟨w.heap.size, 0, none⟩ = some (.string (text a)) := by rw [Lib.cell_of_heap HN.out]; rfl
    have c1 : W2.cell? ⟨w.heap.size, 1, none⟩ = some (.int .i64 j) := by rw [Lib.cell_of_heap HN.out]; rfl
    clear hb1 n1
    by_cases hj : j = 0
    · subst hj
      go_wp2
      go_ret2
      exact ⟨by rw [HA.out]; rfl, by have := HB2.out; rw [← hW2] at this; exact this⟩
    · have HT := hid (show textV (a, j) = (fullD (a, j)).take ((fullD (a, j)).length - j) ++ [46] ++ (fullD (a, j)).drop ((fullD (a, j)).length - j) by unfold textV; rw [if_neg hj])
      have hjz : ((j : Int) == 0) = false := by rw [beq_eq_false_iff_ne]; omega
      have hfl := fullD_len (a, j)
      simp only at hfl
      have HR := hid (fun w => Repeat_any (j + 1 - a.length) (by omega) w)
      have hadd : text (List.replicate (j + 1 - a.length) 48) ++ text a = text (fullD (a, j)) := text_append _ _
      have hadz : (text (List.replicate (j + 1 - a.length) 48)).size + (text a).size ≤ 9223372036854775807 := by rw [text_size, text_size]; simp; omega
      have hfl2 : j + 1 ≤ (fullD (a, j)).length ∧ (fullD (a, j)).length ≤ 1000000000 := by omega
      clear hfl
      generalize fullD (a, j) = D at *
      generalize text (List.replicate (j + 1 - a.length) 48) = R at *
      have zd := text_size D
      go_wp2_with fail
      have eM : max ((j : Int) + 1 - (a.length : Int)) 0 = ((j + 1 - a.length : Nat) : Int) := by omega
      rw [eM]
      go_region_with (
        go_at_call 27
        refine (HR.out _).mono ?_
        rintro e w3 ⟨rfl, hb3⟩
        have n3 := block_later (show W2.drew.heap[w.heap.size]? = _ from HN.out) hb3
        have HB3 := hid (HB2.out.drew.trans (hb3.mono HB2.out.drew.size))
        have g0 : w3.cell? ⟨w.heap.size, 0, none⟩ = some (.string (text a)) := by rw [Lib.cell_of_heap n3]; rfl
        have g1 : w3.cell? ⟨w.heap.size, 1, none⟩ = some (.int .i64 j) := by rw [Lib.cell_of_heap n3]; rfl
        clear hb3 n3)
      all_goals
        obtain ⟨n, hn⟩ : ∃ n, D.length - j = n := ⟨_, rfl⟩
        rw [hn] at HT
        have eP : (D.length : Int) - (j : Int) = (n : Int) := by omega
        have hnl : n ≤ D.length := by omega
        have x1 : (text D).extract 0 n = text (D.take n) := text_zero D _
        have x2 : (text D).extract n D.length = text (D.drop n) := by rw [← zd]; exact text_extract D _
        have lp : (D.take n).length ≤ 1000000000 := by simp; omega
        have lq : (D.drop n).length ≤ 1000000000 := by simp; omega
        generalize D.take n = A1 at *
        generalize D.drop n = A2 at *
        have x3 : text A1 ++ (⟨#[46]⟩ : ByteArray) = text (A1 ++ [46]) := add_lit [46] _ #[46] rfl
        have x4 : text (A1 ++ [46]) ++ text A2 = text (A1 ++ [46] ++ A2) := text_append _ _
        have z2 := text_size A1
        have z3 := text_size A2
        have z4 : (text (A1 ++ [46])).size = A1.length + 1 := by rw [text_size]; simp
        generalize A1 ++ [46] = A3 at *
        clear hn
        have y1 : ¬ 9223372036854775807 < A1.length + 1 := by omega
        have y2 : ¬ 9223372036854775807 < A1.length + 1 + A2.length := by omega
        have mixed : Tryd.prog.follows Departure.mixedOrders = true := by kernel_rfl
        go_wp2_with fail
        try rw [eP]
        go_region_o
      all_goals go_wp2
      all_goals go_ret2
      all_goals exact ⟨by rw [HA.out, HT.out]; rfl, by first | exact HB3.out | exact HB3.out.drew⟩
  · have HA := hid (show TextA d s = .tuple #[.string ⟨#[]⟩, .int .i64 (checkE d s)] by unfold TextA; rw [if_neg h0]; rfl)
    have hx : ((checkE d s : Int) == 0) = false := by rw [beq_eq_false_iff_ne]; omega
    have hx2 : ((checkE d s : Int) != 0) = true := by rw [bne_iff_ne]; omega
    rw [CanonA_no h0] at HC
    generalize checkE d s = n at *
    unfold numZ
    go_enter Tryd.func12, Tryd.ntmps12
    go_wp2_with fail
    refine HC.out.mono ?_
    rintro e w1 ⟨rfl, hb1⟩
    have n1 := laid_later hb1
    have HB := hid (below_of_alloc hb1)
    have HN := hid (put2 n1 (.string ⟨#[]⟩) (.int .i64 0))
    have HB2 := hid (put2_below HB.out (Nat.le_refl _) (.string ⟨#[]⟩) (.int .i64 0))
    have f0 := Lib.frozen_of_heap n1 0
    have f1 := Lib.frozen_of_heap n1 1
    have e0 : w1.cell? ⟨w.heap.size, 0, none⟩ = some (.string (text d)) := by rw [Lib.cell_of_heap n1]; rfl
    have e1 : w1.cell? ⟨w.heap.size, 1, none⟩ = some (.int .i64 s) := by rw [Lib.cell_of_heap n1]; rfl
    obtain ⟨W2, hW2⟩ : ∃ W2, (w1.setCell ⟨w.heap.size, 0, none⟩ (.string ⟨#[]⟩)).setCell ⟨w.heap.size, 1, none⟩ (.int .i64 0) = W2 := ⟨_, rfl⟩
    rw [hW2] at HN HB2
    have c0 : W2.cell? ⟨w.heap.size, 0, none⟩ = some (.string ⟨#[]⟩) := by rw [Lib.cell_of_heap HN.out]; rfl
    have c1 : W2.cell? ⟨w.heap.size, 1, none⟩ = some (.int .i64 0) := by rw [Lib.cell_of_heap HN.out]; rfl
    clear hb1 n1
    go_wp2
    go_ret2
    exact ⟨by rw [HA.out]; rfl, HB2.out⟩

set_option maxHeartbeats 2000000 in
theorem RText_any (d : List UInt8) (k : Nat) (hl : d.length ≤ 1000000) (hk : k ≤ 1000000) (hd : AllD d) (hn : d ≠ []) (w : World) :
    Calls Tryd.prog 16 #[numV (d, k)] w fun e w' => e = .returned (.string (text (textV (canon d k)))) ∧ Below w.heap.size w w' := by
  have HC := hid (RCanon_any d k (by omega) (by omega) hd hn (w.alloc (.cells #[.string (text d), .int .i64 k] 24)))
  have hcl := canon_len d k hn
  clear hd hn
  generalize canon d k = c at *
  obtain ⟨a, j⟩ := c
  simp only at hcl
  unfold numV numZ at HC
  unfold numV numZ
  have z1 := text_size a
  go_enter Tryd.func16, Tryd.ntmps16
  go_wp2_with fail
  refine HC.out.mono ?_
  rintro e w1 ⟨rfl, hb1⟩
  have n1 := laid_later hb1
  have HB := hid (below_of_alloc hb1)
  have HN := hid (put2 n1 (.string (text a)) (.int .i64 j))
  have HB2 := hid (put2_below HB.out (Nat.le_refl _) (.string (text a)) (.int .i64 j))
  have f0 := Lib.frozen_of_heap n1 0
  have f1 := Lib.frozen_of_heap n1 1
  have e0 : w1.cell? ⟨w.heap.size, 0, none⟩ = some (.string (text d)) := by rw [Lib.cell_of_heap n1]; rfl
  have e1 : w1.cell? ⟨w.heap.size, 1, none⟩ = some (.int .i64 k) := by rw [Lib.cell_of_heap n1]; rfl
  obtain ⟨W2, hW2⟩ : ∃ W2, (w1.setCell ⟨w.heap.size, 0, none⟩ (.string (text a))).setCell ⟨w.heap.size, 1, none⟩ (.int .i64 j) = W2 := ⟨_, rfl⟩
  rw [hW2] at HN HB2
  have c0 : W2.cell? ⟨w.heap.size, 0, none⟩ = some (.string (text a)) := by rw [Lib.cell_of_heap HN.out]; rfl
  have c1 : W2.cell? ⟨w.heap.size, 1, none⟩ = some (.int .i64 j) := by rw [Lib.cell_of_heap HN.out]; rfl
  clear hb1 n1
  by_cases hj : j = 0
  · subst hj
    go_wp2
    go_ret
    exact ⟨rfl, by have := HB2.out; rw [← hW2] at this; exact this⟩
  · have HT := hid (show textV (a, j) = (fullD (a, j)).take ((fullD (a, j)).length - j) ++ [46] ++ (fullD (a, j)).drop ((fullD (a, j)).length - j) by unfold textV; rw [if_neg hj])
    have hjz : ((j : Int) == 0) = false := by rw [beq_eq_false_iff_ne]; omega
    have HF := hid (show fullD (a, j) = List.replicate (j + 1 - a.length) 48 ++ a from rfl)
    have hfl := fullD_len (a, j)
    simp only at hfl
    have hfl2 : j + 1 ≤ (fullD (a, j)).length ∧ (fullD (a, j)).length ≤ 1000000000 := by omega
    clear hfl
    generalize fullD (a, j) = D at *
    have zd := text_size D
    go_wp2_with fail
    go_loopg [3] (j + 1 - a.length) (fun gk sv X => ∃ (g : Nat), sv = .string (text (List.replicate g 48 ++ a)) ∧ g + gk = j + 1 - a.length ∧ X = W2)
    case atStart => exact ⟨0, rfl, by omega, rfl⟩
    case round =>
      rename World => X
      obtain ⟨g, rfl, hgg, rfl⟩ := hrel
      have zr : (text (List.replicate g 48 ++ a)).size = g + a.length := by rw [text_size]; simp
      by_cases hgo : g + a.length ≤ j
      · have hadd : (⟨#[48]⟩ : ByteArray) ++ text (List.replicate g 48 ++ a) = text (List.replicate (g + 1) 48 ++ a) := by
          rw [lit_add [48] _ #[48] rfl, List.replicate_succ]; rfl
        go_wp2
        go_roundg (gk - 1)
        case rel => exact ⟨g + 1, rfl, by omega, rfl⟩
        case measure => omega
      · have hg0 : List.replicate g 48 ++ a = D := by rw [HF.out]; congr 2; omega
        have hDl : D.length = g + a.length := by rw [← hg0]; simp
        rw [hg0] at zr ⊢
        clear hg0 zr
        have HDL := hid hDl
        have hgo2 : ¬ D.length ≤ j := by omega
        clear hDl hgo
        obtain ⟨n, hn⟩ : ∃ n, D.length - j = n := ⟨_, rfl⟩
        rw [hn] at HT
        have eP : (D.length : Int) - (j : Int) = (n : Int) := by omega
        have hnl : n ≤ D.length := by omega
        have x1 : (text D).extract 0 n = text (D.take n) := text_zero D _
        have x2 : (text D).extract n D.length = text (D.drop n) := by rw [← zd]; exact text_extract D _
        have lp : (D.take n).length ≤ 1000000000 := by simp; omega
        have lq : (D.drop n).length ≤ 1000000000 := by simp; omega
        generalize D.take n = A1 at *
        generalize D.drop n = A2 at *
        have x3 : text A1 ++ (⟨#[46]⟩ : ByteArray) = text (A1 ++ [46]) := add_lit [46] _ #[46] rfl
        have x4 : text (A1 ++ [46]) ++ text A2 = text (A1 ++ [46] ++ A2) := text_append _ _
        have z2 := text_size A1
        have z3 := text_size A2
        have z4 : (text (A1 ++ [46])).size = A1.length + 1 := by rw [text_size]; simp
        generalize A1 ++ [46] = A3 at *
        clear hn
        have y1 : ¬ 9223372036854775807 < A1.length + 1 := by omega
        have y2 : ¬ 9223372036854775807 < A1.length + 1 + A2.length := by omega
        have mixed : Tryd.prog.follows Departure.mixedOrders = true := by kernel_rfl
        go_wp2_with fail
        try rw [eP]
        go_region_o
        all_goals go_wp2
        all_goals go_ret
        all_goals exact ⟨by rw [HT.out]; rfl, by first | exact HB2.out | exact HB2.out.drew⟩
end Go.Proofs.YtjmfcgbelikcdaaDoor.Num
