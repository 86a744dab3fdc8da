/- Layer 8: the walk of the statement FeellexTexts. -/
import Derived.Test.YtblpckeimdmpaaaGreatDoorFxZ
import Derived.Test.YtblpckeimdmpaaaGreatDoorFxU
import Derived.Test.YtblpckeimdmpaaaGreatDoorFxF
import Derived.Test.YtblpckeimdmpaaaGreatDoorOpen
import Derived.Deep.DeepHandedRow
set_option linter.unusedVariables false
set_option linter.unusedSimpArgs false
namespace Go.Proofs.YtblpckeimdmpaaaGreatDoor.Fx
open Go Go.Proofs.YtblpckeimdmpaaaGreatDoor Go.Proofs.YtblpckeimdmpaaaGreatDoor.Utf Go.Proofs.YtblpckeimdmpaaaGreatDoor.Names Go.Proofs.YtblpckeimdmpaaaGreatDoor.Ent Go.Proofs.YtblpckeimdmpaaaGreatDoor.Fl Go.RowKit
set_option maxRecDepth 100000

section
variable {H : Type} {enc : TypeId × Value → H} {W : World}
/-- A token that came in. -/
theorem open_lex {base : Nat} {v : Value} {d : DataW H} {ps : List MemPlace} (hval : Value.okWide Tryz.prog W .any base 32 v) (h : DataW.Trod enc Tryz.prog W 0 (fun _ => true) true 32 v d ps)
    {ts : List TypeId} {ds : List (DataW H)} (hsz : (DataW.weightsEach Tryz.prog ts ds).all (· ≤ reachBytes) = true) (j : Nat) (hts : ts[j]? = some 32) (hds : ds[j]? = some d) :
    ∃ (k p : Int) (l : List UInt8), v = .agg (tokV k p l) ∧ l.length ≤ 140737488351232 := by
  have hv : ∃ cs, v = .agg cs := by
    simp only [Value.okWide, Tryz.underlying32] at hval
    obtain ⟨cs, h1, _⟩ := hval
    exact ⟨cs, h1⟩
  obtain ⟨cs, rfl⟩ := hv
  obtain ⟨fuel, hf⟩ := h
  have c3 : Tryz.prog.cellsOf 32 = 3 := by kernel_rfl
  have cS : Tryz.prog.cellsOf 9 = 1 := by kernel_rfl
  have cI : Tryz.prog.cellsOf 3 = 1 := by kernel_rfl
  obtain ⟨ys, k, _, hy, hcl, hyl, hg⟩ := DataW.trod_struct Tryz.underlying32 hf
  rw [c3] at hcl
  obtain ⟨cl⟩ := cs
  match ys, hyl, cl, hcl with
  | [y0, y1, y2], _, [v0, v1, v2], _ =>
    have h0 := hg 0 _ rfl
    have h1 := hg 1 _ rfl
    have h2 := hg 2 _ rfl
    simp [cS, cI, Value.cells] at h0 h1 h2
    obtain ⟨s0, e0, d0, w0⟩ := DataW.trod_int Tryz.underlying3 h0
    obtain ⟨s1, e1, d1, w1⟩ := DataW.trod_int Tryz.underlying3 h1
    obtain ⟨s2, e2, d2, _⟩ := DataW.trod_string Tryz.underlying9 h2
    simp only [List.cons.injEq, and_true] at e0 e1 e2
    subst e0 e1 e2 d0 d1 d2
    have hd : d = .agg [.lit (.int .i64 s0), .lit (.int .i64 s1), .lit (.string s2.data.toList)] := by simpa using congrArg Prod.fst hy
    subst hd
    have big := fun n hn => List.all_eq_true.1 hsz n (DataW.weights_mem_each hts hds n hn)
    have b0 := big s2.data.toList.length (by simp [DataW.weights, DataW.weightsAll, DataW.weightsEach, Tryz.underlying32, Tryz.underlying9])
    exact ⟨s0, s1, s2.data.toList, by unfold tokV; simp [text], of_decide_eq_true b0⟩
end
theorem text_made (s : ByteArray) : ∃ l, s = text l ∧ l.length = s.size := ⟨s.data.toList, by simp [text], (Lib.size_eq s).symm⟩

set_option maxHeartbeats 8000000 in
theorem FeellexTexts_walk (k p : Int) (l : List UInt8) (hl : l.length ≤ 140737488351232) (s : ByteArray) (hs : s.size ≤ 140737488351232) (w : World) (hF : Fit w) :
    Calls Tryz.prog 4 #[.agg (tokV k p l), .string s] w fun e w' => e = .returned (.bool true) ∧ Below w.heap.size w w' := by
  obtain ⟨m, rfl, hm⟩ := text_made s
  rw [← hm] at hs
  have s1 : (text l).size = l.length := text_size l
  have hb0 := ba (b0 w) (.cells (tokV k p l) 32)
  have HF := hid (hF.below hb0 (Nat.le_refl _))
  have hcc := fun w2 (hb : Below (w.alloc (.cells (tokV k p l) 32)).heap.size (w.alloc (.cells (tokV k p l) 32)) w2) => (show w2.cell? ⟨w.heap.size, 0, none⟩ = some (.int .i64 k) ∧ w2.cell? ⟨w.heap.size, 1, none⟩ = some (.int .i64 p) ∧ w2.cell? ⟨w.heap.size, 2, none⟩ = some (.string (text l)) by
    have h := (hb.block w.heap.size (by simp)).trans (heap_alloc_new w (.cells (tokV k p l) 32))
    exact ⟨by rw [Lib.cell_of_heap h]; rfl, by rw [Lib.cell_of_heap h]; rfl, by rw [Lib.cell_of_heap h]; rfl⟩)
  have hza : (w.alloc (.cells (tokV k p l) 32)).heap.size = w.heap.size + 1 := by simp
  obtain ⟨a0, a1, a2⟩ := hcc _ (b0 _)
  have HCC := hid hcc
  have HB0 := hid hb0
  clear hb0 hcc hF
  by_cases hb : 1000 < l.length
  · have hbb : (1000 : Int) < (l.length : Int) := by omega
    clear hl hm
    unfold tokV at *
    go_enter Tryz.func4, Tryz.ntmps4
    go_wp2_with fail
    refine (alive_any _ HF.out).mono ?_
    rintro e w1 ⟨rfl, hb1⟩
    go_wp2
    go_ret
    exact ⟨rfl, HB0.out.trans (hb1.mono (by simp))⟩
  have hbb : ¬ (1000 : Int) < (l.length : Int) := by omega
  by_cases hc : 1000 < m.length
  · have hcc : (1000 : Int) < ((text m).size : Int) := by omega
    clear hl hm
    unfold tokV at *
    go_enter Tryz.func4, Tryz.ntmps4
    go_wp2_with fail
    refine (alive_any _ HF.out).mono ?_
    rintro e w1 ⟨rfl, hb1⟩
    go_wp2
    go_ret
    exact ⟨rfl, HB0.out.trans (hb1.mono (by simp))⟩
  have hcc : ¬ (1000 : Int) < ((text m).size : Int) := by omega
  have HT := hid (fun w (hF : Fit w) => Text_any p l (by omega) w hF.2 k)
  have HR := hid (fun w => RText_any p l (by omega) w k)
  have hq := fun w => Quote_any m (by omega) w
  have hr := fun w => RQuote_any m (by omega) w
  unfold quoteV at hq
  unfold rquoteV at hr
  clear hl hm hs hb hc
  unfold tokV textV at *
  generalize textE k l = te at *
  obtain ⟨x, E⟩ := te
  have hqr : ∃ (y : List UInt8) (g : Nat) (ok : Bool), ((g = 0 ∧ ok = true) ∨ (g = 4 ∧ ok = false)) ∧ (∀ w, Calls Tryz.prog 12 #[.string (text m)] w fun e w' => e = .returned (.tuple #[.string (text y), .int .i64 g]) ∧ Below w.heap.size w w') ∧ (∀ w, Calls Tryz.prog 13 #[.string (text m)] w fun e w' => e = .returned (.tuple #[.string (text y), .bool ok]) ∧ Below w.heap.size w w') := by
    by_cases hk : check m = m.length
    · simp only [if_pos hk] at hq hr
      exact ⟨_, 0, true, .inl ⟨rfl, rfl⟩, hq, hr⟩
    · simp only [if_neg hk] at hq hr
      exact ⟨_, 4, false, .inr ⟨rfl, rfl⟩, hq, hr⟩
  obtain ⟨y, g, ok, hgo, hq1, hr1⟩ := hqr
  have HQ := hid hq1
  have HRQ := hid hr1
  clear hq hr hq1 hr1
  dsimp only at HT HR
  rcases hgo with ⟨rfl, rfl⟩ | ⟨rfl, rfl⟩
  all_goals
    go_enter Tryz.func4, Tryz.ntmps4
    go_wp2_with fail
    refine (HT.out _ HF.out).mono ?_
    rintro e w1 ⟨rfl, hb1⟩
    have HF1 := hid (HF.out.below hb1 (Nat.le_refl _))
    have HB1 := hid hb1
    obtain ⟨d0, d1, d2⟩ := HCC.out w1 hb1
    have HBW1 := hid (HB0.out.trans (hb1.mono (by simp)))
    clear hb1 a0 a1 a2
    go_wp2_with fail
    refine (HR.out _).mono ?_
    rintro e w2 ⟨rfl, hb2⟩
    have HF2 := hid (HF1.out.below hb2 (Nat.le_refl _))
    have HBW2 := hid (bt HBW1.out hb2)
    clear hb2 d0 d1 d2
    go_wp2_with fail
    refine (HQ.out _).mono ?_
    rintro e w3 ⟨rfl, hb3⟩
    have HF3 := hid (HF2.out.below hb3 (Nat.le_refl _))
    have HBW3 := hid (bt HBW2.out hb3)
    clear hb3
    go_wp2_with fail
    refine (HRQ.out _).mono ?_
    rintro e w4 ⟨rfl, hb4⟩
    have HF4 := hid (HF3.out.below hb4 (Nat.le_refl _))
    have HBW4 := hid (bt HBW3.out hb4)
    clear hb4
    go_wp2_with fail
    refine (alive_any _ HF4.out).mono ?_
    rintro e w5 ⟨rfl, hb5⟩
    have HBW5 := hid (bt HBW4.out hb5)
    clear hb5
    go_wp2
    go_ret
    exact ⟨by simp, HBW5.out⟩
end Go.Proofs.YtblpckeimdmpaaaGreatDoor.Fx
