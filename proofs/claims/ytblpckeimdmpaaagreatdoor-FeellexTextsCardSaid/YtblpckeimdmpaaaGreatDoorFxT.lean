/- Layer 8: contracts of the code's isNumber, isSign, Text. -/
import Derived.Test.YtblpckeimdmpaaaGreatDoorFxU
set_option linter.unusedVariables false
set_option linter.unusedSimpArgs false
namespace Go.Proofs.YtblpckeimdmpaaaGreatDoor.Fx
open Go Go.Proofs.YtblpckeimdmpaaaGreatDoor Go.Proofs.YtblpckeimdmpaaaGreatDoor.Utf Go.Proofs.YtblpckeimdmpaaaGreatDoor.Names Go.Proofs.YtblpckeimdmpaaaGreatDoor.Ent Go.Proofs.YtblpckeimdmpaaaGreatDoor.Fl Go.RowKit
set_option maxRecDepth 100000

def numE (s : List UInt8) : Bool := decide (s ≠ [] ∧ numN s = s.length)
def signE (s : List UInt8) : Bool := decide (s ≠ [] ∧ signN s = s.length)
theorem no_text {s : List UInt8} (h : s ≠ []) : ((text s).toList == ([] : List UInt8)) = false := by rw [Names.text_list, beq_eq_false_iff_ne]; exact h
theorem nil_text : ((text []).toList == ([] : List UInt8)) = true := by rw [Names.text_list]; rfl

set_option maxHeartbeats 1000000 in
theorem isNumber_any (s : List UInt8) (hl : s.length ≤ 1000000000) (w : World) :
    Calls Tryz.prog 28 #[.string (text s)] w fun e w' => e = .returned (.bool (numE s)) ∧ Below w.heap.size w w' := by
  have s1 : (text s).size = s.length := text_size s
  by_cases hs : s = []
  · subst hs
    have R : Hid (numE [] = false) := hid (decide_eq_false (fun h => h.1 rfl))
    have q := nil_text
    have q2 : ((text []).toList != ([] : List UInt8)) = false := by rw [bne, q]; rfl
    clear s1
    go_enter Tryz.func28, Tryz.ntmps28
    go_wp2
    go_ret
    exact ⟨by rw [R.out]; rfl, b0 _⟩
  · have q := no_text hs
    have q2 : ((text s).toList != ([] : List UInt8)) = true := by rw [bne, q]; rfl
    have HN := hid (fun w => numberEnd_any s hl w)
    have R : Hid (numE s = decide ((numN s : Int) = (s.length : Int))) := hid (by unfold numE; congr 1; exact propext ⟨fun h => by omega, fun h => ⟨hs, by omega⟩⟩)
    clear hs
    go_enter Tryz.func28, Tryz.ntmps28
    go_wp2_with fail
    refine (HN.out _).mono ?_
    rintro e w1 ⟨rfl, hb1⟩
    go_wp2
    go_ret
    exact ⟨by rw [R.out]; rfl, hb1⟩

set_option maxHeartbeats 1000000 in
theorem isSign_any (s : List UInt8) (w : World) (hS : Signs w) :
    Calls Tryz.prog 29 #[.string (text s)] w fun e w' => e = .returned (.bool (signE s)) ∧ Below w.heap.size w w' := by
  have s1 : (text s).size = s.length := text_size s
  by_cases hs : s = []
  · subst hs
    have R : Hid (signE [] = false) := hid (decide_eq_false (fun h => h.1 rfl))
    have q := nil_text
    have q2 : ((text []).toList != ([] : List UInt8)) = false := by rw [bne, q]; rfl
    clear s1 hS
    go_enter Tryz.func29, Tryz.ntmps29
    go_wp2
    go_ret
    exact ⟨by rw [R.out]; rfl, b0 _⟩
  · have q := no_text hs
    have q2 : ((text s).toList != ([] : List UInt8)) = true := by rw [bne, q]; rfl
    have HN := hid (signEnd_any s w hS)
    have R : Hid (signE s = decide ((signN s : Int) = (s.length : Int))) := hid (by unfold signE; congr 1; exact propext ⟨fun h => by omega, fun h => ⟨hs, by omega⟩⟩)
    clear hs hS
    go_enter Tryz.func29, Tryz.ntmps29
    go_wp2_with fail
    refine HN.out.mono ?_
    rintro e w1 ⟨rfl, rfl⟩
    go_wp2
    go_ret
    exact ⟨by rw [R.out]; rfl, b0 _⟩

/-- What Text hands on. -/
def textV (k : Int) (s : List UInt8) : Value := .tuple #[.string (text (textE k s).1), .int .i64 (textE k s).2]
theorem text_2 (s : List UInt8) : textE 2 s = if numE s = true then (s, 0) else ([], 17) := by
  unfold textE numE
  rw [if_neg (by decide), if_neg (by decide), if_pos rfl]
  by_cases h : s ≠ [] ∧ numN s = s.length
  · rw [if_pos h, if_pos (decide_eq_true h)]
  · rw [if_neg h, if_neg (by rw [decide_eq_false h]; simp)]
theorem text_4 (s : List UInt8) : textE 4 s = if signE s = true then (s, 0) else ([], 11) := by
  unfold textE signE
  rw [if_neg (by decide), if_neg (by decide), if_neg (by decide), if_neg (by decide), if_pos rfl]
  by_cases h : s ≠ [] ∧ signN s = s.length
  · rw [if_pos h, if_pos (decide_eq_true h)]
  · rw [if_neg h, if_neg (by rw [decide_eq_false h]; simp)]
theorem text_0 (s : List UInt8) : textE 0 s = if wordB s = true then (s, 0) else ([], 6) := by unfold textE; rw [if_pos rfl]
theorem text_1 (s : List UInt8) : textE 1 s = if keyB s = true then (s, 0) else ([], 6) := by unfold textE; rw [if_neg (by decide), if_pos rfl]
theorem text_3 (s : List UInt8) : textE 3 s = if check s = s.length then (quote s, 0) else ([], 4) := by unfold textE; rw [if_neg (by decide), if_neg (by decide), if_neg (by decide), if_pos rfl]
theorem text_5 (s : List UInt8) : textE 5 s = if s = [] then ([], 0) else ([], 2) := by unfold textE; rw [if_neg (by decide), if_neg (by decide), if_neg (by decide), if_neg (by decide), if_neg (by decide), if_pos rfl]
theorem text_else {k : Int} (s : List UInt8) (h0 : k ≠ 0) (h1 : k ≠ 1) (h2 : k ≠ 2) (h3 : k ≠ 3) (h4 : k ≠ 4) (h5 : k ≠ 5) : textE k s = ([], 2) := by unfold textE; rw [if_neg h0, if_neg h1, if_neg h2, if_neg h3, if_neg h4, if_neg h5]

section
variable (p : Int) (s : List UInt8) (hl : s.length ≤ 2000000) (w : World) (hS : Signs w)
def tokV (k p : Int) (s : List UInt8) : Array Value := #[.int .i64 k, .int .i64 p, .string (text s)]
theorem tok_cells (k p : Int) (s : List UInt8) {w w1 : World} (hb : Below (w.alloc (.cells (tokV k p s) 32)).heap.size (w.alloc (.cells (tokV k p s) 32)) w1) : w1.cell? ⟨w.heap.size, 0, none⟩ = some (.int .i64 k) ∧ w1.cell? ⟨w.heap.size, 2, none⟩ = some (.string (text s)) := by
  have h := (hb.block w.heap.size (by simp)).trans (heap_alloc_new w (.cells (tokV k p s) 32))
  exact ⟨by rw [Lib.cell_of_heap h]; rfl, by rw [Lib.cell_of_heap h]; rfl⟩

set_option maxHeartbeats 1000000 in
include hl hS in
theorem Text_0 : Calls Tryz.prog 10 #[.agg (tokV 0 p s)] w fun e w' => e = .returned (textV 0 s) ∧ Below w.heap.size w w' := by
  have HV : Hid (textV 0 s = .tuple #[.string (text (textE 0 s).1), .int .i64 (textE 0 s).2]) := hid rfl
  have hb0 := ba (b0 w) (.cells (tokV 0 p s) 32)
  have HH := hid (fun w (hS : Signs w) => (show Calls Tryz.prog 26 #[.string (text s)] w fun e w' => e = .returned (.bool (wordB s)) ∧ Below w.heap.size w w' from Word_any s (by omega) w))
  have HS := hid (hS.below hb0 (Nat.le_refl _))
  obtain ⟨c0, c2⟩ := tok_cells 0 p s (b0 (w.alloc (.cells (tokV 0 p s) 32)))
  have HC := hid (fun w1 hb => (tok_cells 0 p s (w := w) (w1 := w1) hb).2)
  rw [text_0] at HV
  have HB0 := hid hb0
  clear hb0 hS
  unfold tokV at *
  cases hx : wordB s
  all_goals
    rw [hx] at HH HV
    clear hx
    go_enter Tryz.func10, Tryz.ntmps10
    go_wp2_with fail
    refine (HH.out _ HS.out).mono ?_
    rintro e w1 ⟨rfl, hb1⟩
    have c2' := HC.out _ hb1
    go_wp2
    go_ret2
    exact ⟨by rw [HV.out]; rfl, HB0.out.trans (hb1.mono (by simp))⟩

set_option maxHeartbeats 1000000 in
include hl hS in
theorem Text_1 : Calls Tryz.prog 10 #[.agg (tokV 1 p s)] w fun e w' => e = .returned (textV 1 s) ∧ Below w.heap.size w w' := by
  have HV : Hid (textV 1 s = .tuple #[.string (text (textE 1 s).1), .int .i64 (textE 1 s).2]) := hid rfl
  have hb0 := ba (b0 w) (.cells (tokV 1 p s) 32)
  have HH := hid (fun w (hS : Signs w) => (show Calls Tryz.prog 27 #[.string (text s)] w fun e w' => e = .returned (.bool (keyB s)) ∧ Below w.heap.size w w' from Keyword_any s (by omega) w))
  have HS := hid (hS.below hb0 (Nat.le_refl _))
  obtain ⟨c0, c2⟩ := tok_cells 1 p s (b0 (w.alloc (.cells (tokV 1 p s) 32)))
  have HC := hid (fun w1 hb => (tok_cells 1 p s (w := w) (w1 := w1) hb).2)
  rw [text_1] at HV
  have HB0 := hid hb0
  clear hb0 hS
  unfold tokV at *
  cases hx : keyB s
  all_goals
    rw [hx] at HH HV
    clear hx
    go_enter Tryz.func10, Tryz.ntmps10
    go_wp2_with fail
    refine (HH.out _ HS.out).mono ?_
    rintro e w1 ⟨rfl, hb1⟩
    have c2' := HC.out _ hb1
    go_wp2
    go_ret2
    exact ⟨by rw [HV.out]; rfl, HB0.out.trans (hb1.mono (by simp))⟩

set_option maxHeartbeats 1000000 in
include hl hS in
theorem Text_2 : Calls Tryz.prog 10 #[.agg (tokV 2 p s)] w fun e w' => e = .returned (textV 2 s) ∧ Below w.heap.size w w' := by
  have HV : Hid (textV 2 s = .tuple #[.string (text (textE 2 s).1), .int .i64 (textE 2 s).2]) := hid rfl
  have hb0 := ba (b0 w) (.cells (tokV 2 p s) 32)
  have HH := hid (fun w (hS : Signs w) => (show Calls Tryz.prog 28 #[.string (text s)] w fun e w' => e = .returned (.bool (numE s)) ∧ Below w.heap.size w w' from isNumber_any s (by omega) w))
  have HS := hid (hS.below hb0 (Nat.le_refl _))
  obtain ⟨c0, c2⟩ := tok_cells 2 p s (b0 (w.alloc (.cells (tokV 2 p s) 32)))
  have HC := hid (fun w1 hb => (tok_cells 2 p s (w := w) (w1 := w1) hb).2)
  rw [text_2] at HV
  have HB0 := hid hb0
  clear hb0 hS
  unfold tokV at *
  cases hx : numE s
  all_goals
    rw [hx] at HH HV
    clear hx
    go_enter Tryz.func10, Tryz.ntmps10
    go_wp2_with fail
    refine (HH.out _ HS.out).mono ?_
    rintro e w1 ⟨rfl, hb1⟩
    have c2' := HC.out _ hb1
    go_wp2
    go_ret2
    exact ⟨by rw [HV.out]; rfl, HB0.out.trans (hb1.mono (by simp))⟩

set_option maxHeartbeats 1000000 in
include hS in
theorem Text_4 : Calls Tryz.prog 10 #[.agg (tokV 4 p s)] w fun e w' => e = .returned (textV 4 s) ∧ Below w.heap.size w w' := by
  have HV : Hid (textV 4 s = .tuple #[.string (text (textE 4 s).1), .int .i64 (textE 4 s).2]) := hid rfl
  have hb0 := ba (b0 w) (.cells (tokV 4 p s) 32)
  have HH := hid (fun w (hS : Signs w) => (show Calls Tryz.prog 29 #[.string (text s)] w fun e w' => e = .returned (.bool (signE s)) ∧ Below w.heap.size w w' from isSign_any s w hS))
  have HS := hid (hS.below hb0 (Nat.le_refl _))
  obtain ⟨c0, c2⟩ := tok_cells 4 p s (b0 (w.alloc (.cells (tokV 4 p s) 32)))
  have HC := hid (fun w1 hb => (tok_cells 4 p s (w := w) (w1 := w1) hb).2)
  rw [text_4] at HV
  have HB0 := hid hb0
  clear hb0 hS
  unfold tokV at *
  cases hx : signE s
  all_goals
    rw [hx] at HH HV
    clear hx
    go_enter Tryz.func10, Tryz.ntmps10
    go_wp2_with fail
    refine (HH.out _ HS.out).mono ?_
    rintro e w1 ⟨rfl, hb1⟩
    have c2' := HC.out _ hb1
    go_wp2
    go_ret2
    exact ⟨by rw [HV.out]; rfl, HB0.out.trans (hb1.mono (by simp))⟩

set_option maxHeartbeats 1000000 in
include hl in
theorem Text_3 : Calls Tryz.prog 10 #[.agg (tokV 3 p s)] w fun e w' => e = .returned (textV 3 s) ∧ Below w.heap.size w w' := by
  have HV : Hid (textV 3 s = .tuple #[.string (text (textE 3 s).1), .int .i64 (textE 3 s).2]) := hid rfl
  have hb0 := ba (b0 w) (.cells (tokV 3 p s) 32)
  have hq := fun w => Quote_any s hl w
  obtain ⟨c0, c2⟩ := tok_cells 3 p s (b0 (w.alloc (.cells (tokV 3 p s) 32)))
  rw [text_3] at HV
  have HB0 := hid hb0
  clear hb0
  unfold tokV at *
  unfold quoteV at hq
  by_cases hc : check s = s.length
  all_goals
    first | rw [if_pos hc] at HV | rw [if_neg hc] at HV
    have HH : Hid _ := hid (fun w => (hq w))
    clear hq
    first | simp only [if_pos hc] at HH | simp only [if_neg hc] at HH
    clear hc
    go_enter Tryz.func10, Tryz.ntmps10
    go_wp2_with fail
    refine (HH.out _).mono ?_
    rintro e w1 ⟨rfl, hb1⟩
    go_wp2
    go_ret2
    exact ⟨by rw [HV.out]; rfl, HB0.out.trans (hb1.mono (by simp))⟩

set_option maxHeartbeats 1000000 in
theorem Text_5 : Calls Tryz.prog 10 #[.agg (tokV 5 p s)] w fun e w' => e = .returned (textV 5 s) ∧ Below w.heap.size w w' := by
  have HV : Hid (textV 5 s = .tuple #[.string (text (textE 5 s).1), .int .i64 (textE 5 s).2]) := hid rfl
  have hb0 := ba (b0 w) (.cells (tokV 5 p s) 32)
  obtain ⟨c0, c2⟩ := tok_cells 5 p s (b0 (w.alloc (.cells (tokV 5 p s) 32)))
  rw [text_5] at HV
  have HB0 := hid hb0
  clear hb0
  unfold tokV at *
  by_cases hs : s = []
  · subst hs
    have q := nil_text
    rw [if_pos rfl] at HV
    go_enter Tryz.func10, Tryz.ntmps10
    go_wp2
    go_ret2
    exact ⟨by rw [HV.out]; rfl, HB0.out⟩
  · have q := no_text hs
    rw [if_neg hs] at HV
    clear hs
    go_enter Tryz.func10, Tryz.ntmps10
    go_wp2
    go_ret2
    exact ⟨by rw [HV.out]; rfl, HB0.out⟩

set_option maxHeartbeats 1000000 in
theorem Text_else {k : Int} (h0 : k ≠ 0) (h1 : k ≠ 1) (h2 : k ≠ 2) (h3 : k ≠ 3) (h4 : k ≠ 4) (h5 : k ≠ 5) : Calls Tryz.prog 10 #[.agg (tokV k p s)] w fun e w' => e = .returned (textV k s) ∧ Below w.heap.size w w' := by
  have HV : Hid (textV k s = .tuple #[.string (text (textE k s).1), .int .i64 (textE k s).2]) := hid rfl
  have hb0 := ba (b0 w) (.cells (tokV k p s) 32)
  obtain ⟨c0, c2⟩ := tok_cells k p s (b0 (w.alloc (.cells (tokV k p s) 32)))
  rw [text_else s h0 h1 h2 h3 h4 h5] at HV
  have HB0 := hid hb0
  have q0 : (k == 0) = false := by rw [beq_eq_false_iff_ne]; exact h0
  have q1 : (k == 1) = false := by rw [beq_eq_false_iff_ne]; exact h1
  have q2 : (k == 2) = false := by rw [beq_eq_false_iff_ne]; exact h2
  have q3 : (k == 3) = false := by rw [beq_eq_false_iff_ne]; exact h3
  have q4 : (k == 4) = false := by rw [beq_eq_false_iff_ne]; exact h4
  have q5 : (k == 5) = false := by rw [beq_eq_false_iff_ne]; exact h5
  clear hb0 h0 h1 h2 h3 h4 h5
  unfold tokV at *
  go_enter Tryz.func10, Tryz.ntmps10
  go_wp2
  go_ret2
  exact ⟨by rw [HV.out]; rfl, HB0.out⟩

include hl hS in
theorem Text_any (k : Int) : Calls Tryz.prog 10 #[.agg (tokV k p s)] w fun e w' => e = .returned (textV k s) ∧ Below w.heap.size w w' := by
  by_cases h0 : k = 0
  · subst h0; exact Text_0 p s hl w hS
  by_cases h1 : k = 1
  · subst h1; exact Text_1 p s hl w hS
  by_cases h2 : k = 2
  · subst h2; exact Text_2 p s hl w hS
  by_cases h3 : k = 3
  · subst h3; exact Text_3 p s hl w
  by_cases h4 : k = 4
  · subst h4; exact Text_4 p s w hS
  by_cases h5 : k = 5
  · subst h5; exact Text_5 p s w
  exact Text_else p s w h0 h1 h2 h3 h4 h5
end
end Go.Proofs.YtblpckeimdmpaaaGreatDoor.Fx
