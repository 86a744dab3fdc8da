/- Layer 8: contract of the document's own Text. -/
import Derived.Test.YtblpckeimdmpaaaGreatDoorFxT
import Derived.Test.YtblpckeimdmpaaaGreatDoorFlD
import Derived.Test.YtblpckeimdmpaaaGreatDoorFlC
import Derived.Test.YtblpckeimdmpaaaGreatDoorNamesQ
set_option linter.unusedVariables false
set_option linter.unusedSimpArgs false
namespace Go.Proofs.YtblpckeimdmpaaaGreatDoor.Fx
open Go Go.Proofs.YtblpckeimdmpaaaGreatDoor Go.Proofs.YtblpckeimdmpaaaGreatDoor.Utf Go.Proofs.YtblpckeimdmpaaaGreatDoor.Names Go.Proofs.YtblpckeimdmpaaaGreatDoor.Ent Go.Proofs.YtblpckeimdmpaaaGreatDoor.Fl Go.RowKit
set_option maxRecDepth 100000
section
variable (p : Int) (s : List UInt8) (hl : s.length ≤ 1000000) (w : World)

set_option maxHeartbeats 1000000 in
include hl in
theorem RText_0 : Calls Tryz.prog 11 #[.agg (tokV 0 p s)] w fun e w' => e = .returned (textV 0 s) ∧ Below w.heap.size w w' := by
  have HV : Hid (textV 0 s = .tuple #[.string (text (textE 0 s).1), .int .i64 (textE 0 s).2]) := hid rfl
  have hb0 := ba (b0 w) (.cells (tokV 0 p s) 32)
  have HH := hid (fun w => (show Calls Tryz.prog 30 #[.string (text s)] w fun e w' => e = .returned (.bool (wordB s)) ∧ Below w.heap.size w w' from RWord_any s (by omega) w))
  obtain ⟨c0, c2⟩ := tok_cells 0 p s (b0 (w.alloc (.cells (tokV 0 p s) 32)))
  have HC := hid (fun w1 hb => (tok_cells 0 p s (w := w) (w1 := w1) hb).2)
  rw [text_0] at HV
  have HB0 := hid hb0
  clear hb0
  unfold tokV at *
  cases hx : wordB s
  all_goals
    rw [hx] at HH HV
    clear hx
    go_enter Tryz.func11, Tryz.ntmps11
    go_wp2_with fail
    refine (HH.out _).mono ?_
    rintro e w1 ⟨rfl, hb1⟩
    have c2' := HC.out _ hb1
    go_wp2
    go_ret2
    exact ⟨by rw [HV.out]; rfl, HB0.out.trans (hb1.mono (by simp))⟩

set_option maxHeartbeats 1000000 in

theorem RText_1 : Calls Tryz.prog 11 #[.agg (tokV 1 p s)] w fun e w' => e = .returned (textV 1 s) ∧ Below w.heap.size w w' := by
  have HV : Hid (textV 1 s = .tuple #[.string (text (textE 1 s).1), .int .i64 (textE 1 s).2]) := hid rfl
  have hb0 := ba (b0 w) (.cells (tokV 1 p s) 32)
  have HH := hid (fun w => (show Calls Tryz.prog 21 #[.string (text s)] w fun e w' => e = .returned (.bool (keyB s)) ∧ Below w.heap.size w w' from RKeyword_any s w))
  obtain ⟨c0, c2⟩ := tok_cells 1 p s (b0 (w.alloc (.cells (tokV 1 p s) 32)))
  have HC := hid (fun w1 hb => (tok_cells 1 p s (w := w) (w1 := w1) hb).2)
  rw [text_1] at HV
  have HB0 := hid hb0
  clear hb0
  unfold tokV at *
  cases hx : keyB s
  all_goals
    rw [hx] at HH HV
    clear hx
    go_enter Tryz.func11, Tryz.ntmps11
    go_wp2_with fail
    refine (HH.out _).mono ?_
    rintro e w1 ⟨rfl, hb1⟩
    have c2' := HC.out _ hb1
    go_wp2
    go_ret2
    exact ⟨by rw [HV.out]; rfl, HB0.out.trans (hb1.mono (by simp))⟩

set_option maxHeartbeats 2000000 in
include hl in
theorem RText_2 : Calls Tryz.prog 11 #[.agg (tokV 2 p s)] w fun e w' => e = .returned (textV 2 s) ∧ Below w.heap.size w w' := by
  have HV : Hid (textV 2 s = .tuple #[.string (text (textE 2 s).1), .int .i64 (textE 2 s).2]) := hid rfl
  have hb0 := ba (b0 w) (.cells (tokV 2 p s) 32)
  obtain ⟨c0, c2⟩ := tok_cells 2 p s (b0 (w.alloc (.cells (tokV 2 p s) 32)))
  have HC := hid (fun w1 hb => (tok_cells 2 p s (w := w) (w1 := w1) hb).2)
  rw [text_2] at HV
  have HB0 := hid hb0
  have s1 : (text s).size = s.length := text_size s
  clear hb0
  unfold tokV at *
  by_cases hs : s = []
  · have q := nil_text
    subst hs
    have hE : numE [] = false := by unfold numE; simp
    rw [hE] at HV
    clear hE
    go_enter Tryz.func11, Tryz.ntmps11
    go_wp2_with fail
    go_quiet (fail)
    go_wp2
    go_ret2
    exact ⟨by rw [HV.out]; rfl, below_drewN HB0.out nq⟩
  · have q := no_text hs
    have HI := hid (fun w => (show Calls Tryz.prog 23 #[.string (text s), .int .i64 0] w fun e w' => e = .returned (.int .i64 (numN s)) ∧ w' = w from (by
      have h := Fl.number_any s 0 (by omega) (by omega) w
      rw [List.drop_zero] at h
      exact h.mono (fun e w' x => ⟨x.1, x.2.symm⟩))))
    by_cases hn : numN s = s.length
    · have hE : numE s = true := by unfold numE; exact decide_eq_true ⟨hs, hn⟩
      rw [hE] at HV
      rw [hn] at HI
      clear hE hs hn
      go_enter Tryz.func11, Tryz.ntmps11
      go_wp2_with fail
      go_quiet (first | (go_at_call 23; exact Calls.quiet_of_same (HI.out _)))
      have HB1 := hid (below_drewN (b0 (w.alloc (.cells #[.int .i64 2, .int .i64 p, .string (text s)] 32))) nq)
      have c2' := HC.out _ HB1.out
      go_wp2
      go_ret2
      exact ⟨by rw [HV.out]; rfl, below_drewN HB0.out nq⟩
    · have hE : numE s = false := by unfold numE; exact decide_eq_false (fun x => hn x.2)
      rw [hE] at HV
      have q1 : ((numN s : Int) == (s.length : Int)) = false := by rw [beq_eq_false_iff_ne]; omega
      have q2 : ((numN s : Int) != (s.length : Int)) = true := by rw [bne, q1]; rfl
      clear hE hs hn
      go_enter Tryz.func11, Tryz.ntmps11
      go_wp2_with fail
      go_quiet (first | (go_at_call 23; exact Calls.quiet_of_same (HI.out _)))
      go_wp2
      go_ret2
      exact ⟨by rw [HV.out]; rfl, below_drewN HB0.out nq⟩

set_option maxHeartbeats 2000000 in
include hl in
theorem RText_4 : Calls Tryz.prog 11 #[.agg (tokV 4 p s)] w fun e w' => e = .returned (textV 4 s) ∧ Below w.heap.size w w' := by
  have HV : Hid (textV 4 s = .tuple #[.string (text (textE 4 s).1), .int .i64 (textE 4 s).2]) := hid rfl
  have hb0 := ba (b0 w) (.cells (tokV 4 p s) 32)
  obtain ⟨c0, c2⟩ := tok_cells 4 p s (b0 (w.alloc (.cells (tokV 4 p s) 32)))
  have HC := hid (fun w1 hb => (tok_cells 4 p s (w := w) (w1 := w1) hb).2)
  rw [text_4] at HV
  have HB0 := hid hb0
  have s1 : (text s).size = s.length := text_size s
  clear hb0
  unfold tokV at *
  by_cases hs : s = []
  · have q := nil_text
    subst hs
    have hE : signE [] = false := by unfold signE; simp
    rw [hE] at HV
    clear hE
    go_enter Tryz.func11, Tryz.ntmps11
    go_wp2_with fail
    go_quiet (fail)
    go_wp2
    go_ret2
    exact ⟨by rw [HV.out]; rfl, below_drewN HB0.out nq⟩
  · have q := no_text hs
    have HI := hid (fun w => (show Calls Tryz.prog 25 #[.string (text s), .int .i64 0] w fun e w' => e = .returned (.int .i64 (signN s)) ∧ w' = w from (by
      have h := Fl.sign_any s 0 (by omega) (by have := List.length_pos_iff.2 hs; omega) w
      rw [List.drop_zero] at h
      exact h.mono (fun e w' x => ⟨x.1, x.2.symm⟩))))
    by_cases hn : signN s = s.length
    · have hE : signE s = true := by unfold signE; exact decide_eq_true ⟨hs, hn⟩
      rw [hE] at HV
      rw [hn] at HI
      clear hE hs hn
      go_enter Tryz.func11, Tryz.ntmps11
      go_wp2_with fail
      go_quiet (first | (go_at_call 25; exact Calls.quiet_of_same (HI.out _)))
      have HB1 := hid (below_drewN (b0 (w.alloc (.cells #[.int .i64 4, .int .i64 p, .string (text s)] 32))) nq)
      have c2' := HC.out _ HB1.out
      go_wp2
      go_ret2
      exact ⟨by rw [HV.out]; rfl, below_drewN HB0.out nq⟩
    · have hE : signE s = false := by unfold signE; exact decide_eq_false (fun x => hn x.2)
      rw [hE] at HV
      have q1 : ((signN s : Int) == (s.length : Int)) = false := by rw [beq_eq_false_iff_ne]; omega
      have q2 : ((signN s : Int) != (s.length : Int)) = true := by rw [bne, q1]; rfl
      clear hE hs hn
      go_enter Tryz.func11, Tryz.ntmps11
      go_wp2_with fail
      go_quiet (first | (go_at_call 25; exact Calls.quiet_of_same (HI.out _)))
      go_wp2
      go_ret2
      exact ⟨by rw [HV.out]; rfl, below_drewN HB0.out nq⟩

set_option maxHeartbeats 1000000 in
include hl in
theorem RText_3 : Calls Tryz.prog 11 #[.agg (tokV 3 p s)] w fun e w' => e = .returned (textV 3 s) ∧ Below w.heap.size w w' := by
  have HV : Hid (textV 3 s = .tuple #[.string (text (textE 3 s).1), .int .i64 (textE 3 s).2]) := hid rfl
  have hb0 := ba (b0 w) (.cells (tokV 3 p s) 32)
  have hq := fun w => RQuote_any s hl w
  obtain ⟨c0, c2⟩ := tok_cells 3 p s (b0 (w.alloc (.cells (tokV 3 p s) 32)))
  rw [text_3] at HV
  have HB0 := hid hb0
  clear hb0
  unfold tokV at *
  unfold rquoteV at hq
  by_cases hc : check s = s.length
  all_goals
    first | rw [if_pos hc] at HV | rw [if_neg hc] at HV
    have HH : Hid _ := hid (fun w => (hq w))
    clear hq
    first | simp only [if_pos hc] at HH | simp only [if_neg hc] at HH
    clear hc
    go_enter Tryz.func11, Tryz.ntmps11
    go_wp2_with fail
    refine (HH.out _).mono ?_
    rintro e w1 ⟨rfl, hb1⟩
    go_wp2
    go_ret2
    exact ⟨by rw [HV.out]; rfl, HB0.out.trans (hb1.mono (by simp))⟩

set_option maxHeartbeats 1000000 in
theorem RText_5 : Calls Tryz.prog 11 #[.agg (tokV 5 p s)] w fun e w' => e = .returned (textV 5 s) ∧ Below w.heap.size w w' := by
  have HV : Hid (textV 5 s = .tuple #[.string (text (textE 5 s).1), .int .i64 (textE 5 s).2]) := hid rfl
  have hb0 := ba (b0 w) (.cells (tokV 5 p s) 32)
  obtain ⟨c0, c2⟩ := tok_cells 5 p s (b0 (w.alloc (.cells (tokV 5 p s) 32)))
  rw [text_5] at HV
  have HB0 := hid hb0
  clear hb0
  unfold tokV at *
  by_cases hs : s = []
  · subst hs
    have q := nil_text
    rw [if_pos rfl] at HV
    go_enter Tryz.func11, Tryz.ntmps11
    go_wp2
    go_ret2
    exact ⟨by rw [HV.out]; rfl, HB0.out⟩
  · have q := no_text hs
    rw [if_neg hs] at HV
    clear hs
    go_enter Tryz.func11, Tryz.ntmps11
    go_wp2
    go_ret2
    exact ⟨by rw [HV.out]; rfl, HB0.out⟩

set_option maxHeartbeats 1000000 in
theorem RText_else {k : Int} (h0 : k ≠ 0) (h1 : k ≠ 1) (h2 : k ≠ 2) (h3 : k ≠ 3) (h4 : k ≠ 4) (h5 : k ≠ 5) : Calls Tryz.prog 11 #[.agg (tokV k p s)] w fun e w' => e = .returned (textV k s) ∧ Below w.heap.size w w' := by
  have HV : Hid (textV k s = .tuple #[.string (text (textE k s).1), .int .i64 (textE k s).2]) := hid rfl
  have hb0 := ba (b0 w) (.cells (tokV k p s) 32)
  obtain ⟨c0, c2⟩ := tok_cells k p s (b0 (w.alloc (.cells (tokV k p s) 32)))
  rw [text_else s h0 h1 h2 h3 h4 h5] at HV
  have HB0 := hid hb0
  have q0 : (k == 0) = false := by rw [beq_eq_false_iff_ne]; exact h0
  have q1 : (k == 1) = false := by rw [beq_eq_false_iff_ne]; exact h1
  have q2 : (k == 2) = false := by rw [beq_eq_false_iff_ne]; exact h2
  have q3 : (k == 3) = false := by rw [beq_eq_false_iff_ne]; exact h3
  have q4 : (k == 4) = false := by rw [beq_eq_false_iff_ne]; exact h4
  have q5 : (k == 5) = false := by rw [beq_eq_false_iff_ne]; exact h5
  clear hb0 h0 h1 h2 h3 h4 h5
  unfold tokV at *
  go_enter Tryz.func11, Tryz.ntmps11
  go_wp2
  go_ret2
  exact ⟨by rw [HV.out]; rfl, HB0.out⟩


include hl in
theorem RText_any (k : Int) : Calls Tryz.prog 11 #[.agg (tokV k p s)] w fun e w' => e = .returned (textV k s) ∧ Below w.heap.size w w' := by
  by_cases h0 : k = 0
  · subst h0; exact RText_0 p s hl w
  by_cases h1 : k = 1
  · subst h1; exact RText_1 p s w
  by_cases h2 : k = 2
  · subst h2; exact RText_2 p s hl w
  by_cases h3 : k = 3
  · subst h3; exact RText_3 p s hl w
  by_cases h4 : k = 4
  · subst h4; exact RText_4 p s hl w
  by_cases h5 : k = 5
  · subst h5; exact RText_5 p s w
  exact RText_else p s w h0 h1 h2 h3 h4 h5
end
end Go.Proofs.YtblpckeimdmpaaaGreatDoor.Fx
