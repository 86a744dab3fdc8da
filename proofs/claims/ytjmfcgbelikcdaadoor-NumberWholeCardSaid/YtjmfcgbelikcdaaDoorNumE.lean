/- Layer 7: contract of Read: the text's parts. -/
import Derived.Test.YtjmfcgbelikcdaaDoorNumC
import Derived.Test.YtjmfcgbelikcdaaDoorNumB
set_option linter.unusedVariables false
set_option linter.unusedSimpArgs false
namespace Go.Proofs.YtjmfcgbelikcdaaDoor.Num
open Go Go.Proofs.YtjmfcgbelikcdaaDoor Go.RowKit
set_option maxRecDepth 100000

theorem readE_form1 {l : List UInt8} (h : pointed l = false) (h1 : digs (whole l) = false) : readE l = 17 := by unfold readE; rw [if_pos (.inr ⟨h, h1⟩)]
theorem readE_form2 {l : List UInt8} (h : pointed l = true) (h1 : whole l ≠ []) (h2 : digs (whole l) = false) : readE l = 17 := by unfold readE; rw [if_pos (.inl ⟨h, .inl ⟨h1, h2⟩⟩)]
theorem readE_form3 {l : List UInt8} (h : pointed l = true) (h2 : digs (part l) = false) : readE l = 17 := by unfold readE; rw [if_pos (.inl ⟨h, .inr h2⟩)]
theorem readE_fine {l : List UInt8} (h : (pointed l = false ∧ digs (whole l) = true) ∨ (pointed l = true ∧ (whole l = [] ∨ digs (whole l) = true) ∧ digs (part l) = true)) :
    readE l = if 1000 < (whole l).length + (part l).length then 19 else 0 := by
  unfold readE
  rw [if_neg]
  rintro (⟨a, ⟨b, c⟩ | b⟩ | ⟨a, b⟩)
  · rcases h with ⟨x, y⟩ | ⟨x, y | y, z⟩
    · rw [x] at a; cases a
    · exact b y
    · rw [y] at c; cases c
  · rcases h with ⟨x, y⟩ | ⟨x, y, z⟩
    · rw [x] at a; cases a
    · rw [z] at b; cases b
  · rcases h with ⟨x, y⟩ | ⟨x, y, z⟩
    · rw [y] at b; cases b
    · rw [x] at a; cases a
theorem readV_no {l : List UInt8} (h : readE l ≠ 0) : readV l = ([], 0) := by unfold readV; rw [if_neg h]
theorem readV_yes {l : List UInt8} (h : readE l = 0) : readV l = canon (whole l ++ part l) (part l).length := by unfold readV; rw [if_pos h]
/-- What read answers. -/
def readA (l : List UInt8) : Value := .tuple #[numV (readV l), errV (readE l)]
theorem readA_no {l : List UInt8} {e : Nat} (h : readE l = e) (h0 : e ≠ 0) : readA l = .tuple #[.agg #[.string ⟨#[]⟩, .int .i64 0], .iface 67 (.agg #[.int .i64 e])] := by
  unfold readA errV
  rw [readV_no (by omega), h, if_neg h0]; rfl
theorem readA_yes {l : List UInt8} (h : readE l = 0) : readA l = .tuple #[numV (canon (whole l ++ part l) (part l).length), .nilIface] := by
  unfold readA errV
  rw [readV_yes h, h]; rfl

set_option maxHeartbeats 2000000 in
theorem read_any (l : List UInt8) (hl : l.length ≤ 500000000) (w : World) (hw : MaxL w) :
    Calls Tryd.prog 22 #[.string (text l)] w fun e w' => e = .returned (readA l) ∧ Below w.heap.size w w' := by
  have HC := hid (Cut_any l (by omega) _ (show MaxL (w.alloc (.cells #[.string ⟨#[]⟩, .int .i64 0] 24)) from by
    obtain ⟨m, hm⟩ := hw; exact ⟨m, ((ba (b0 w) _).cell (p := ⟨1, 0, none⟩) (MaxL.lt ⟨m, hm⟩)).trans hm⟩))
  have l1 := whole_len l
  have l2 := part_len l
  have l3 := point_le l
  have hsum : (whole l).length + (part l).length ≤ 1000000000 := by omega
  have W1 := hid (fun w => areDigits_any (whole l) (by omega) w)
  have W2 := hid (fun w => areDigits_any (part l) (by omega) w)
  have W3 := hid (fun w => oneForm_any (whole l ++ part l) (part l).length (by simp; omega) (by omega) w)
  have E1 := hid (@readE_form1 l)
  have E2 := hid (@readE_form2 l)
  have E3 := hid (@readE_form3 l)
  have E4 := hid (@readE_fine l)
  have AN := hid (show ∀ e : Nat, readE l = e → e ≠ 0 → _ from fun e h h0 => @readA_no l e h h0)
  have AY := hid (@readA_yes l)
  clear l1 l2 l3 hw
  generalize whole l = a at *
  generalize part l = b at *
  generalize readA l = A at *
  have z1 := text_size a
  have z2 := text_size b
  go_enter Tryd.func22, Tryd.ntmps22
  go_wp2_with fail
  refine HC.out.mono ?_
  rintro e w1 ⟨rfl, hb1⟩
  have P1 := hid (laid_later hb1)
  have B1 := hid (below_of_alloc hb1)
  have c0 : w1.cell? ⟨w.heap.size, 0, none⟩ = some (.string ⟨#[]⟩) := by rw [Lib.cell_of_heap P1.out]; rfl
  have c1 : w1.cell? ⟨w.heap.size, 1, none⟩ = some (.int .i64 0) := by rw [Lib.cell_of_heap P1.out]; rfl
  have f0 := Lib.frozen_of_heap P1.out 0
  have f1 := Lib.frozen_of_heap P1.out 1
  clear hb1
  obtain ⟨c, hc⟩ : ∃ c, canon (a ++ b) b.length = c := ⟨_, rfl⟩
  rw [hc] at W3 AY
  clear hc
  cases hp : pointed l
  · have EE := hid hp
    clear hp
    cases hg : digs a
    · rw [hg] at W1
      have HA := hid (AN.out 17 (E1.out EE.out hg) (by omega))
      clear hg
      go_wp2_with fail
      refine (W1.out _).mono ?_
      rintro e w2 ⟨rfl, rfl⟩
      go_wp2
      refine bodyPost_ret (results_pair rfl _ _ _ _ rfl (load_num (put2 P1.out _ _))) rfl ?_
      exact ⟨by rw [HA.out]; rfl, put2_below B1.out (Nat.le_refl _) _ _⟩
    · have HG := hid hg
      rw [hg] at W1
      clear hg
      have EF := E4.out (.inl ⟨EE.out, HG.out⟩)
      by_cases hlong : 1000 < a.length + b.length
      · rw [if_pos hlong] at EF
        have HA := hid (AN.out 19 EF (by omega))
        clear EF
        go_wp2_with fail
        refine (W1.out _).mono ?_
        rintro e w2 ⟨rfl, rfl⟩
        go_wp2
        refine bodyPost_ret (results_pair rfl _ _ _ _ rfl (load_num (put2 P1.out _ _))) rfl ?_
        exact ⟨by rw [HA.out]; rfl, put2_below B1.out (Nat.le_refl _) _ _⟩
      · rw [if_neg hlong] at EF
        have HA := hid (AY.out EF)
        clear EF
        have hadd : text a ++ text b = text (a ++ b) := text_append a b
        have hadz : (text a).size + (text b).size ≤ 9223372036854775807 := by omega
        go_wp2_with fail
        refine (W1.out _).mono ?_
        rintro e w2 ⟨rfl, rfl⟩
        go_wp2_with fail
        refine (W3.out _).mono ?_
        rintro e w3 ⟨rfl, hb3⟩
        have P3 := block_later P1.out hb3
        have B3 := hid (bt B1.out hb3)
        have c0' : w3.cell? ⟨w.heap.size, 0, none⟩ = some (.string ⟨#[]⟩) := by rw [Lib.cell_of_heap P3]; rfl
        have c1' : w3.cell? ⟨w.heap.size, 1, none⟩ = some (.int .i64 0) := by rw [Lib.cell_of_heap P3]; rfl
        have f0' := Lib.frozen_of_heap P3 0
        have f1' := Lib.frozen_of_heap P3 1
        have HP3 := hid P3
        clear hb3 P3
        unfold numV numZ
        unfold numV numZ at HA
        go_wp2
        refine bodyPost_ret (results_pair rfl _ _ _ _ rfl (load_num (put2 HP3.out _ _))) rfl ?_
        exact ⟨by rw [HA.out]; rfl, put2_below B3.out (Nat.le_refl _) _ _⟩
  · have EE := hid hp
    clear hp
    by_cases h0 : a = []
    · have q0 := list_yes h0
      have H0 := hid h0
      clear h0
      cases hg : digs b
      · rw [hg] at W2
        have HA := hid (AN.out 17 (E3.out EE.out hg) (by omega))
        clear hg
        go_wp2_with fail
        refine (W2.out _).mono ?_
        rintro e w2 ⟨rfl, rfl⟩
        go_wp2
        refine bodyPost_ret (results_pair rfl _ _ _ _ rfl (load_num (put2 P1.out _ _))) rfl ?_
        exact ⟨by rw [HA.out]; rfl, put2_below B1.out (Nat.le_refl _) _ _⟩
      · have HG := hid hg
        rw [hg] at W2
        clear hg
        have EF := E4.out (.inr ⟨EE.out, .inl H0.out, HG.out⟩)
        by_cases hlong : 1000 < a.length + b.length
        · rw [if_pos hlong] at EF
          have HA := hid (AN.out 19 EF (by omega))
          clear EF
          go_wp2_with fail
          refine (W2.out _).mono ?_
          rintro e w2 ⟨rfl, rfl⟩
          go_wp2
          refine bodyPost_ret (results_pair rfl _ _ _ _ rfl (load_num (put2 P1.out _ _))) rfl ?_
          exact ⟨by rw [HA.out]; rfl, put2_below B1.out (Nat.le_refl _) _ _⟩
        · rw [if_neg hlong] at EF
          have HA := hid (AY.out EF)
          clear EF
          have hadd : text a ++ text b = text (a ++ b) := text_append a b
          have hadz : (text a).size + (text b).size ≤ 9223372036854775807 := by omega
          go_wp2_with fail
          refine (W2.out _).mono ?_
          rintro e w2 ⟨rfl, rfl⟩
          go_wp2_with fail
          refine (W3.out _).mono ?_
          rintro e w3 ⟨rfl, hb3⟩
          have P3 := block_later P1.out hb3
          have B3 := hid (bt B1.out hb3)
          have c0' : w3.cell? ⟨w.heap.size, 0, none⟩ = some (.string ⟨#[]⟩) := by rw [Lib.cell_of_heap P3]; rfl
          have c1' : w3.cell? ⟨w.heap.size, 1, none⟩ = some (.int .i64 0) := by rw [Lib.cell_of_heap P3]; rfl
          have f0' := Lib.frozen_of_heap P3 0
          have f1' := Lib.frozen_of_heap P3 1
          have HP3 := hid P3
          clear hb3 P3
          unfold numV numZ
          unfold numV numZ at HA
          go_wp2
          refine bodyPost_ret (results_pair rfl _ _ _ _ rfl (load_num (put2 HP3.out _ _))) rfl ?_
          exact ⟨by rw [HA.out]; rfl, put2_below B3.out (Nat.le_refl _) _ _⟩
    · have q0 := list_no h0
      have H0 := hid h0
      clear h0
      cases hg : digs a
      · rw [hg] at W1
        have HA := hid (AN.out 17 (E2.out EE.out H0.out hg) (by omega))
        clear hg
        go_wp2_with fail
        refine (W1.out _).mono ?_
        rintro e w2 ⟨rfl, rfl⟩
        go_wp2
        refine bodyPost_ret (results_pair rfl _ _ _ _ rfl (load_num (put2 P1.out _ _))) rfl ?_
        exact ⟨by rw [HA.out]; rfl, put2_below B1.out (Nat.le_refl _) _ _⟩
      · have HG := hid hg
        rw [hg] at W1
        clear hg
        cases hg : digs b
        · rw [hg] at W2
          have HA := hid (AN.out 17 (E3.out EE.out hg) (by omega))
          clear hg
          go_wp2_with fail
          refine (W1.out _).mono ?_
          rintro e w2 ⟨rfl, rfl⟩
          go_wp2_with fail
          refine (W2.out _).mono ?_
          rintro e w2 ⟨rfl, rfl⟩
          go_wp2
          refine bodyPost_ret (results_pair rfl _ _ _ _ rfl (load_num (put2 P1.out _ _))) rfl ?_
          exact ⟨by rw [HA.out]; rfl, put2_below B1.out (Nat.le_refl _) _ _⟩
        · have HG2 := hid hg
          rw [hg] at W2
          clear hg
          have EF := E4.out (.inr ⟨EE.out, .inr HG.out, HG2.out⟩)
          by_cases hlong : 1000 < a.length + b.length
          · rw [if_pos hlong] at EF
            have HA := hid (AN.out 19 EF (by omega))
            clear EF
            go_wp2_with fail
            refine (W1.out _).mono ?_
            rintro e w2 ⟨rfl, rfl⟩
            go_wp2_with fail
            refine (W2.out _).mono ?_
            rintro e w2 ⟨rfl, rfl⟩
            go_wp2
            refine bodyPost_ret (results_pair rfl _ _ _ _ rfl (load_num (put2 P1.out _ _))) rfl ?_
            exact ⟨by rw [HA.out]; rfl, put2_below B1.out (Nat.le_refl _) _ _⟩
          · rw [if_neg hlong] at EF
            have HA := hid (AY.out EF)
            clear EF
            have hadd : text a ++ text b = text (a ++ b) := text_append a b
            have hadz : (text a).size + (text b).size ≤ 9223372036854775807 := by omega
            go_wp2_with fail
            refine (W1.out _).mono ?_
            rintro e w2 ⟨rfl, rfl⟩
            go_wp2_with fail
            refine (W2.out _).mono ?_
            rintro e w2 ⟨rfl, rfl⟩
            go_wp2_with fail
            refine (W3.out _).mono ?_
            rintro e w3 ⟨rfl, hb3⟩
            have P3 := block_later P1.out hb3
            have B3 := hid (bt B1.out hb3)
            have c0' : w3.cell? ⟨w.heap.size, 0, none⟩ = some (.string ⟨#[]⟩) := by rw [Lib.cell_of_heap P3]; rfl
            have c1' : w3.cell? ⟨w.heap.size, 1, none⟩ = some (.int .i64 0) := by rw [Lib.cell_of_heap P3]; rfl
            have f0' := Lib.frozen_of_heap P3 0
            have f1' := Lib.frozen_of_heap P3 1
            have HP3 := hid P3
            clear hb3 P3
            unfold numV numZ
            unfold numV numZ at HA
            go_wp2
            refine bodyPost_ret (results_pair rfl _ _ _ _ rfl (load_num (put2 HP3.out _ _))) rfl ?_
            exact ⟨by rw [HA.out]; rfl, put2_below B3.out (Nat.le_refl _) _ _⟩
end Go.Proofs.YtjmfcgbelikcdaaDoor.Num
