/- Layer 10: the walk of ExprDeep. -/
import Derived.Test.YtlhhjocfbafoeaaGreatDoorXpG
set_option linter.unusedVariables false
set_option linter.unusedSimpArgs false
namespace Go.Proofs.YtlhhjocfbafoeaaGreatDoor.Xp
open Go Go.Proofs.YtlhhjocfbafoeaaGreatDoor Go.RowKit
set_option maxRecDepth 100000
theorem kind_fours : (List.range 256).all (fun n => bits BinOp.and IntKind.u8 (n : Int) 3 == ((n % 4 : Nat) : Int)) = true := by kernel_rfl
theorem kind_four {k : Int} (hk : (Lit.int .u8 k).wf = true) : ∃ m : Nat, bits BinOp.and IntKind.u8 k 3 = (m : Int) ∧ m < 4 := by
  simp only [Lit.wf, IntKind.min, IntKind.max, IntKind.signed, IntKind.bits, Bool.and_eq_true, decide_eq_true_eq] at hk
  have h1 : 0 ≤ k ∧ k < 256 := by simp at hk; omega
  have := List.all_eq_true.1 kind_fours k.toNat (List.mem_range.2 (by omega))
  rw [show (k.toNat : Int) = k from by omega, beq_iff_eq] at this
  exact ⟨_, this, Nat.mod_lt _ (by omega)⟩
/-- The parts of the next one. -/
def partsE (m : Nat) (x : Ex) (pv : Value) : List (Ex × Value × Value) :=
  if m = 0 then [(x, .slice none 0 0, pv)] else if m = 1 then [(.mk 0 [49] [] [], .slice none 0 0, .slice none 0 0), (x, .slice none 0 0, pv)] else if m = 2 then [(x, .slice none 0 0, pv)] else [(x, .slice none 0 0, pv), (.mk 0 [50] [] [], .slice none 0 0, .slice none 0 0)]
theorem partsE_map (m : Nat) (x : Ex) (pv : Value) : (partsE m x pv).map (·.1) = (stepE m x).l := by
  unfold partsE stepE
  split
  · rfl
  · split
    · rfl
    · split <;> rfl
theorem partsE_len (m : Nat) (x : Ex) (pv : Value) : 1 ≤ (partsE m x pv).length ∧ (partsE m x pv).length ≤ 2 := by
  unfold partsE
  split
  · simp
  · split
    · simp
    · split <;> simp
/-- Rows, one in the other, none of them in the block xb. -/
inductive Chn (W : World) (xb m : Nat) : Nat → Value → Prop
  | zero : Chn W xb m 0 (.slice none 0 0)
  | succ {k blk : Nat} {pv : Value} (h : Chn W xb m k pv) (hb : blk ≠ xb) (hc : W.heap[blk]? = some (.cells ((partsE m (nest m k) pv).flatMap ecells).toArray 25 (0, 0))) : Chn W xb m (k + 1) (.slice (some ⟨blk, 0, none⟩) (partsE m (nest m k) pv).length (partsE m (nest m k) pv).length)
theorem Chn.keep {W W' : World} {xb m k : Nat} {pv : Value} (h : Chn W xb m k pv) (hk : ∀ b, b < W.heap.size → b ≠ xb → W'.heap[b]? = W.heap[b]?) : Chn W' xb m k pv := by
  induction h with
  | zero => exact .zero
  | succ h hb hc ih => exact .succ ih hb ((hk _ (lt_of_some hc) hb).trans hc)
/-- A row that lies in a block. -/
theorem Exs.block {w : World} {b : Nat} (r : List (Ex × Value × Value)) (hr : ∀ x ∈ r, IsE w x.1 x.2.1 x.2.2) (hl : r.length ≤ 1000) (h0 : 1 ≤ r.length) (h : w.heap[b]? = some (.cells (r.flatMap ecells).toArray 25 (0, 0))) :
    Exs w (.slice (some ⟨b, 0, none⟩) r.length r.length) (r.map (·.1)) := by
  have hfl := flat_len 4 ecells (fun _ => rfl) r
  refine ⟨r, rfl, ⟨⟨some ⟨b, 0, none⟩, r.length, rfl, Nat.le_refl _, by unfold maxLen; omega, by omega, by simp, fun _ => ⟨b, 0, rfl, fun j u hj => ?_⟩⟩, hfl⟩, hr⟩
  rw [Lib.cell_of_heap h]
  simpa using hj
theorem Chn.exs {W : World} {xb m k : Nat} {pv : Value} (h : Chn W xb m k pv) : Exs W pv (nest m k).l := by
  induction h with
  | zero => exact Exs.nil W
  | @succ k blk pv h hb hc ih =>
    have hl := partsE_len m (nest m k) pv
    have := Exs.block (partsE m (nest m k) pv) (fun x hx => by
      have hn : IsE W (nest m k) (.slice none 0 0) pv := by
        have e : (nest m k).nm = [] := by
          cases k with
          | zero => rfl
          | succ k => simp only [nest, stepE]; split; rfl; split; rfl; split <;> rfl
        have := IsE.of (k := (nest m k).kind) (s := (nest m k).s) (nm := []) (Row.nil 1 W) ih
        rw [← e, Ex.eta] at this
        exact this
      have h0 : ∀ s, IsE W (.mk 0 s [] []) (.slice none 0 0) (.slice none 0 0) := fun s => IsE.of (Row.nil 1 W) (Exs.nil W)
      unfold partsE at hx
      split at hx
      · simp only [List.mem_cons, List.not_mem_nil, or_false] at hx; subst hx; exact hn
      · split at hx
        · simp only [List.mem_cons, List.not_mem_nil, or_false] at hx
          rcases hx with rfl | rfl
          · exact h0 _
          · exact hn
        · split at hx
          · simp only [List.mem_cons, List.not_mem_nil, or_false] at hx; subst hx; exact hn
          · simp only [List.mem_cons, List.not_mem_nil, or_false] at hx
            rcases hx with rfl | rfl
            · exact hn
            · exact h0 _) (by omega) hl.1 hc
    rw [partsE_map] at this
    exact this
theorem nest_nm (m k : Nat) : (nest m k).nm = [] := by
  cases k with
  | zero => rfl
  | succ k => simp only [nest, stepE]; split; rfl; split; rfl; split <;> rfl
theorem nest_fit (m : Nat) : ∀ k, (nest m k).fit
  | 0 => by simp [nest, Ex.fit, fitL]; decide
  | k + 1 => stepE_fit (nest_fit m k)
theorem set_box {Y : World} {b : Nat} {c0 c1 c2 c3 : Value} (h : Y.heap[b]? = some (.cells #[c0, c1, c2, c3] 25)) (v0 v1 v2 v3 : Value) :
    ((((Y.setCell ⟨b, 0, none⟩ v0).setCell ⟨b, 1, none⟩ v1).setCell ⟨b, 2, none⟩ v2).setCell ⟨b, 3, none⟩ v3).heap[b]? = some (.cells #[v0, v1, v2, v3] 25) := by
  simp [World.setCell, Array.getElem?_modify, h]
theorem set_off (Y : World) (b : Nat) (v0 v1 v2 v3 : Value) (k : Nat) (hk : k ≠ b) :
    ((((Y.setCell ⟨b, 0, none⟩ v0).setCell ⟨b, 1, none⟩ v1).setCell ⟨b, 2, none⟩ v2).setCell ⟨b, 3, none⟩ v3).heap[k]? = Y.heap[k]? := by
  rw [Below.heap_setCell _ _ _ _ (by exact hk), Below.heap_setCell _ _ _ _ (by exact hk), Below.heap_setCell _ _ _ _ (by exact hk), Below.heap_setCell _ _ _ _ (by exact hk)]
theorem set_below {w Y : World} (h : Below w.heap.size w Y) (v0 v1 v2 v3 : Value) :
    Below w.heap.size w ((((Y.setCell ⟨w.heap.size, 0, none⟩ v0).setCell ⟨w.heap.size, 1, none⟩ v1).setCell ⟨w.heap.size, 2, none⟩ v2).setCell ⟨w.heap.size, 3, none⟩ v3) :=
  ⟨h.os, h.tape, h.output, by simpa [World.setCell] using h.size, fun b hb => (set_off Y _ v0 v1 v2 v3 b (by omega)).trans (h.block b hb)⟩
set_option maxHeartbeats 16000000 in
theorem ExprDeep_walk (x0 x1 : Int) (w : World) (hw : Num.Fit w) (wf1 : (Lit.int .u8 x1).wf = true) :
    Calls Tryz.prog 7 #[.int .i64 x0, .int .u8 x1] w fun e w' => e = .returned (.bool true) ∧ Below w.heap.size w w' := by
  obtain ⟨m, hM, hm4⟩ := kind_four wf1
  obtain ⟨k, hk, hk1⟩ : ∃ k : Nat, max 0 x0 % 300 = (k : Int) ∧ k < 300 := ⟨(max 0 x0 % 300).toNat, by omega, by omega⟩
  have HW := hid hw
  have B1 := hid (ba (b0 w) (.cells #[.int .i64 3, .string ⟨#[97]⟩, .slice none 0 0, .slice none 0 0] 25))
  have P1 := hid (heap_alloc_new w (.cells #[.int .i64 3, .string ⟨#[97]⟩, .slice none 0 0, .slice none 0 0] 25))
  clear hw wf1
  go_enter Tryz.func7, Tryz.ntmps7
  go_wp2_with fail
  go_loopg [13] k (fun gk iv X => ∃ (i : Nat) (pv : Value), iv = .int .i64 i ∧ i + gk = k ∧ Hid (Chn X w.heap.size m i pv) ∧ Hid (X.heap[w.heap.size]? = some (.cells #[.int .i64 (nest m i).kind, .string (text (nest m i).s), .slice none 0 0, pv] 25)) ∧ Hid (Below w.heap.size w X))
  case atStart => exact ⟨0, _, rfl, by omega, hid .zero, P1, B1⟩
  case round =>
    rename World => X
    obtain ⟨i, pv, rfl, hig, HC, HP, HB⟩ := hrel
    obtain ⟨a0, a1, a2, a3⟩ := box_cells HP.out
    by_cases hi : i < k
    · have hil : (i : Int) < (k : Int) := by omega
      obtain rfl | rfl | rfl | rfl : m = 0 ∨ m = 1 ∨ m = 2 ∨ m = 3 := by omega
      · obtain ⟨Y, hY⟩ : ∃ Y, X.alloc (.cells #[.int .i64 (nest 0 i).kind, .string (text (nest 0 i).s), .slice none 0 0, pv] 25) = Y := ⟨_, rfl⟩
        have BY : Below X.heap.size X Y := hY ▸ ba (b0 X) _
        have PY : Y.heap[X.heap.size]? = some (.cells #[.int .i64 (nest 0 i).kind, .string (text (nest 0 i).s), .slice none 0 0, pv] 25) := hY ▸ heap_alloc_new X _
        have hq := (BY.block _ (lt_of_some HP.out)).trans HP.out
        have hne : X.heap.size ≠ w.heap.size := by have := lt_of_some HP.out; omega
        obtain ⟨c0, c1, c2, c3⟩ := box_cells hq
        have f0 := Lib.frozen_of_heap hq 0
        have f1 := Lib.frozen_of_heap hq 1
        have f2 := Lib.frozen_of_heap hq 2
        have f3 := Lib.frozen_of_heap hq 3
        have HQ := hid hq
        have HBY := hid BY
        have HPY := hid PY
        have HNE := hid hne
        clear hq BY PY hne
        go_wp2
        go_roundg (gk - 1)
        case measure => omega
        case rel => exact ⟨i + 1, .slice (some ⟨X.heap.size, 0, none⟩) 1 1, by go_num, by omega, hid (Chn.succ (m := 0) ((HC.out.keep fun b hb hn => ((set_off Y _ _ _ _ _ b hn).trans (HBY.out.block b hb)))) HNE.out ((set_off Y _ _ _ _ _ _ HNE.out).trans HPY.out)), hid (set_box HQ.out _ _ _ _), hid (set_below (bt HB.out HBY.out) _ _ _ _)⟩
      · obtain ⟨Y, hY⟩ : ∃ Y, X.alloc (.cells #[.int .i64 0, .string ⟨#[49]⟩, .slice none 0 0, .slice none 0 0, .int .i64 (nest 1 i).kind, .string (text (nest 1 i).s), .slice none 0 0, pv] 25) = Y := ⟨_, rfl⟩
        have BY : Below X.heap.size X Y := hY ▸ ba (b0 X) _
        have PY : Y.heap[X.heap.size]? = some (.cells #[.int .i64 0, .string ⟨#[49]⟩, .slice none 0 0, .slice none 0 0, .int .i64 (nest 1 i).kind, .string (text (nest 1 i).s), .slice none 0 0, pv] 25) := hY ▸ heap_alloc_new X _
        have hq := (BY.block _ (lt_of_some HP.out)).trans HP.out
        have hne : X.heap.size ≠ w.heap.size := by have := lt_of_some HP.out; omega
        obtain ⟨c0, c1, c2, c3⟩ := box_cells hq
        have f0 := Lib.frozen_of_heap hq 0
        have f1 := Lib.frozen_of_heap hq 1
        have f2 := Lib.frozen_of_heap hq 2
        have f3 := Lib.frozen_of_heap hq 3
        have HQ := hid hq
        have HBY := hid BY
        have HPY := hid PY
        have HNE := hid hne
        clear hq BY PY hne
        go_wp2
        go_roundg (gk - 1)
        case measure => omega
        case rel => exact ⟨i + 1, .slice (some ⟨X.heap.size, 0, none⟩) 2 2, by go_num, by omega, hid (Chn.succ (m := 1) ((HC.out.keep fun b hb hn => ((set_off Y _ _ _ _ _ b hn).trans (HBY.out.block b hb)))) HNE.out ((set_off Y _ _ _ _ _ _ HNE.out).trans HPY.out)), hid (set_box HQ.out _ _ _ _), hid (set_below (bt HB.out HBY.out) _ _ _ _)⟩
      · obtain ⟨Y, hY⟩ : ∃ Y, X.alloc (.cells #[.int .i64 (nest 2 i).kind, .string (text (nest 2 i).s), .slice none 0 0, pv] 25) = Y := ⟨_, rfl⟩
        have BY : Below X.heap.size X Y := hY ▸ ba (b0 X) _
        have PY : Y.heap[X.heap.size]? = some (.cells #[.int .i64 (nest 2 i).kind, .string (text (nest 2 i).s), .slice none 0 0, pv] 25) := hY ▸ heap_alloc_new X _
        have hq := (BY.block _ (lt_of_some HP.out)).trans HP.out
        have hne : X.heap.size ≠ w.heap.size := by have := lt_of_some HP.out; omega
        obtain ⟨c0, c1, c2, c3⟩ := box_cells hq
        have f0 := Lib.frozen_of_heap hq 0
        have f1 := Lib.frozen_of_heap hq 1
        have f2 := Lib.frozen_of_heap hq 2
        have f3 := Lib.frozen_of_heap hq 3
        have HQ := hid hq
        have HBY := hid BY
        have HPY := hid PY
        have HNE := hid hne
        clear hq BY PY hne
        go_wp2
        go_roundg (gk - 1)
        case measure => omega
        case rel => exact ⟨i + 1, .slice (some ⟨X.heap.size, 0, none⟩) 1 1, by go_num, by omega, hid (Chn.succ (m := 2) ((HC.out.keep fun b hb hn => ((set_off Y _ _ _ _ _ b hn).trans (HBY.out.block b hb)))) HNE.out ((set_off Y _ _ _ _ _ _ HNE.out).trans HPY.out)), hid (set_box HQ.out _ _ _ _), hid (set_below (bt HB.out HBY.out) _ _ _ _)⟩
      · obtain ⟨Y, hY⟩ : ∃ Y, X.alloc (.cells #[.int .i64 (nest 3 i).kind, .string (text (nest 3 i).s), .slice none 0 0, pv, .int .i64 0, .string ⟨#[50]⟩, .slice none 0 0, .slice none 0 0] 25) = Y := ⟨_, rfl⟩
        have BY : Below X.heap.size X Y := hY ▸ ba (b0 X) _
        have PY : Y.heap[X.heap.size]? = some (.cells #[.int .i64 (nest 3 i).kind, .string (text (nest 3 i).s), .slice none 0 0, pv, .int .i64 0, .string ⟨#[50]⟩, .slice none 0 0, .slice none 0 0] 25) := hY ▸ heap_alloc_new X _
        have hq := (BY.block _ (lt_of_some HP.out)).trans HP.out
        have hne : X.heap.size ≠ w.heap.size := by have := lt_of_some HP.out; omega
        obtain ⟨c0, c1, c2, c3⟩ := box_cells hq
        have f0 := Lib.frozen_of_heap hq 0
        have f1 := Lib.frozen_of_heap hq 1
        have f2 := Lib.frozen_of_heap hq 2
        have f3 := Lib.frozen_of_heap hq 3
        have HQ := hid hq
        have HBY := hid BY
        have HPY := hid PY
        have HNE := hid hne
        clear hq BY PY hne
        go_wp2
        go_roundg (gk - 1)
        case measure => omega
        case rel => exact ⟨i + 1, .slice (some ⟨X.heap.size, 0, none⟩) 2 2, by go_num, by omega, hid (Chn.succ (m := 3) ((HC.out.keep fun b hb hn => ((set_off Y _ _ _ _ _ b hn).trans (HBY.out.block b hb)))) HNE.out ((set_off Y _ _ _ _ _ _ HNE.out).trans HPY.out)), hid (set_box HQ.out _ _ _ _), hid (set_below (bt HB.out HBY.out) _ _ _ _)⟩
    · obtain rfl : i = k := by omega
      clear hi hig hM
      have hE := Chn.exs HC.out
      have hX : IsE X (nest m i) (.slice none 0 0) pv := by
        have := IsE.of (k := (nest m i).kind) (s := (nest m i).s) (nm := []) (Row.nil 1 X) hE
        rw [← nest_nm m i, Ex.eta] at this
        exact this
      obtain ⟨po, pn, pc, rfl⟩ := hE.form
      have hms := nest_mass m i
      have CK := hid (Check_any (nest m i) none 0 0 po pn pc X (HW.out.at HB.out) hX (nest_fit m i) (by omega))
      have DP := hid (fun (W : World) (hW : Below X.heap.size X W) => Depth_any (nest m i) none 0 0 po pn pc W (hX.later hW) (by have := size_mass (nest m i); omega))
      rw [nest_check] at CK
      rw [nest_depth] at DP
      have AL := hid (fun (W : World) (hW : Below w.heap.size w W) => alive_any W (HW.out.at hW))
      rw [show (((i + 1 : Nat)) : Int) = (i : Int) + 1 by omega] at DP
      obtain ⟨cv, hcv, hcc⟩ : ∃ cv : Int, (if i < 200 then (0 : Int) else 9) = cv ∧ ((cv = 0 ∧ i < 200) ∨ (cv = 9 ∧ ¬ i < 200)) := by
        by_cases c : i < 200
        · exact ⟨0, if_pos c, .inl ⟨rfl, c⟩⟩
        · exact ⟨9, if_neg c, .inr ⟨rfl, c⟩⟩
      rw [hcv] at CK
      unfold exV at CK DP
      clear hE hX hms HC HW hcv
      go_wp2_with fail
      refine CK.out.mono ?_
      rintro e w1 ⟨rfl, hb1⟩
      have HB1 := hid (bt HB.out hb1)
      have HX1 := hid hb1
      clear hb1 a0 a1 a2 a3
      go_wp2_with fail
      refine (AL.out _ HB1.out).mono ?_
      rintro e w2 ⟨rfl, hb2⟩
      have HB2 := hid (bt HB1.out hb2)
      have HX2 := hid (bt HX1.out hb2)
      obtain ⟨a0, a1, a2, a3⟩ := box_cells ((HX2.out.block _ (lt_of_some HP.out)).trans HP.out)
      clear hb2
      go_wp2_with fail
      refine (DP.out _ HX2.out).mono ?_
      rintro e w3 ⟨rfl, hb3⟩
      have HB3 := hid (bt HB2.out hb3)
      clear hb3 a0 a1 a2 a3
      rcases hcc with ⟨rfl, c⟩ | ⟨rfl, c⟩
      · have ci : decide ((i : Int) < 200) = true := decide_eq_true (by omega)
        go_wp2
        go_ret
        exact ⟨rfl, HB3.out⟩
      · have ci : decide ((i : Int) < 200) = false := decide_eq_false (by omega)
        go_wp2
        go_ret
        exact ⟨rfl, HB3.out⟩
end Go.Proofs.YtlhhjocfbafoeaaGreatDoor.Xp
