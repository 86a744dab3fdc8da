/- Layer 14: contract of byName: the things in line by their names. -/
import Derived.Test.YtkpmkabddhpojaaOrJ
import Derived.Test.YtkpmkabddhpojaaOrKahn
set_option linter.unusedVariables false
set_option linter.unusedSimpArgs false
namespace Go.Proofs.Ytkpmkabddhpojaa.Or
open Go Go.Proofs.Ytkpmkabddhpojaa Go.RowKit Go.Lib Go.Sort Go.Op
set_option maxRecDepth 100000

/-- A line in which each stands behind all that are ahead of it by name and number. -/
def ByName (S : List (List UInt8)) (line : List Nat) : Prop := Line S.length line ∧ line.Pairwise fun a b => lexB S a b = true

theorem sort_block {α : Type} [Inhabited α] (enc : α → Value) (w : World) (blk m : Nat) (dk : Array α) (os : Array Obj) {b : Nat} (hb : b < w.heap.size) (hne : b ≠ blk) : (sortWorld enc w blk 0 m dk os).heap[b]? = w.heap[b]? := by
  unfold sortWorld
  rw [heap_grow_old _ _ (by show b < (w.heap.modify blk _).size; simpa using hb)]
  show (w.heap.modify blk _)[b]? = _
  rw [Array.getElem?_modify, if_neg (fun e => hne e.symm)]
theorem own_sorted {α : Type} [Inhabited α] (enc : α → Value) {B : Nat} {w : World} {e : TypeId} {g n cap : Nat} {xs : List Value} (h : w.ownsRow B e 1 (.slice (some ⟨g, 0, none⟩) n cap) n xs) (dk : Array α) (hd : dk.size = n) (q : Nat) (os : Array Obj) :
    (sortWorld enc w g 0 q dk os).ownsRow B e 1 (.slice (some ⟨g, 0, none⟩) n cap) n (dk.toList.map enc) ∧ Below B w (sortWorld enc w g 0 q dk os) := by
  obtain ⟨h1, h2⟩ := h
  rcases h2 with ⟨h2, h0⟩ | ⟨g', cap', cur, e', hB, hg, hn, hc, hs, ht⟩
  · cases h2
  obtain ⟨rfl, rfl⟩ : g' = g ∧ cap' = cap := by injection e' with e1 e2 e3; injection e1 with e1; injection e1 with e1; exact ⟨e1.symm, e3.symm⟩
  have hlt : g' < w.heap.size := lt_of_at hg
  have hh : (sortWorld enc w g' 0 q dk os).heap[g']? = some (.cells (putCells enc 0 dk cur) e (0, 0)) := by
    unfold sortWorld
    rw [heap_grow_old _ _ (by show g' < (w.heap.modify g' _).size; simpa using hlt)]
    show (w.heap.modify g' (onCells (putCells enc 0 dk)))[g']? = _
    rw [Array.getElem?_modify, if_pos rfl, hg]
    rfl
  refine ⟨⟨by simp [hd], .inr ⟨g', cap', _, rfl, hB, hh, hn, hc, by simpa [putCells] using hs, ?_⟩⟩, ⟨rfl, rfl, rfl, by show w.heap.size ≤ ((w.heap.modify g' _) ++ os).size; simp, fun k hk => ?_⟩⟩
  · apply List.ext_getElem?
    intro j
    rw [List.getElem?_take]
    by_cases hj : j < n
    · rw [if_pos (by omega), Array.getElem?_toList]
      have hjc : j < cur.size := by omega
      simp only [putCells, Array.getElem?_mapIdx]
      rw [Array.getElem?_eq_getElem hjc]
      simp only [Option.map_some, Nat.zero_le, Nat.zero_add, true_and, Nat.sub_zero]
      rw [if_pos (by omega)]
      have hjd : j < dk.size := by omega
      simp [hjd, getElem!_pos]
    · rw [if_neg (by omega), eq_comm]
      simp; omega
  · by_cases e1 : k < w.heap.size
    · exact sort_block enc w g' q dk os e1 (by omega)
    · have := hk; omega
theorem swo_lex (m : Nat) (S : List (List UInt8)) : SWO (ltOf fun x y : Fin (m + 1) => cfN S x.val y.val) := by
  have e : ∀ x y : Fin (m + 1), ltOf (fun x y : Fin (m + 1) => cfN S x.val y.val) x y = lexB S x.val y.val := fun x y => cf_lex S _ _
  exact ⟨fun x => by rw [e]; exact lex_irrefl S _, fun x y z h k => by rw [e] at *; exact lex_trans h k, fun x y z h k => by rw [e] at *; exact lex_ntrans h k⟩
theorem sorted_line (m : Nat) (S : List (List UInt8)) (hS : S.length = m + 1) (l : List (Fin (m + 1))) (hl : l.map (·.val) = List.range (m + 1)) :
    ByName S ((l.mergeSort fun x y => !(ltOf fun x y : Fin (m + 1) => cfN S x.val y.val) y x).map (·.val)) := by
  have e : ∀ x y : Fin (m + 1), ltOf (fun x y : Fin (m + 1) => cfN S x.val y.val) x y = lexB S x.val y.val := fun x y => cf_lex S _ _
  have hp := (List.mergeSort_perm l fun x y => !(ltOf fun x y : Fin (m + 1) => cfN S x.val y.val) y x).map (·.val)
  rw [hl] at hp
  have hnd := hp.nodup_iff.2 (List.nodup_range (n := m + 1))
  refine ⟨⟨by rw [hp.length_eq]; simp [hS], hnd, fun x hx => by have := hp.mem_iff.1 hx; rw [List.mem_range] at this; omega⟩, ?_⟩
  have hs := List.pairwise_mergeSort (le := fun x y : Fin (m + 1) => !(ltOf fun x y : Fin (m + 1) => cfN S x.val y.val) y x) (fun a b c h1 h2 => by
    rw [e] at *
    simp only [Bool.not_eq_true'] at *
    exact lex_ntrans h2 h1) (fun a b => by
    rw [e, e]
    cases q : lexB S b.val a.val with
    | false => rfl
    | true => rw [lex_asymm q]; rfl) l
  have hs2 : ((l.mergeSort fun x y => !(ltOf fun x y : Fin (m + 1) => cfN S x.val y.val) y x).map (·.val)).Pairwise fun a b => lexB S b a = false := by
    rw [List.pairwise_map]
    refine hs.imp fun {a b} h => ?_
    rw [e] at h
    simpa using h
  refine (hs2.and hnd).imp fun {a b} h => ?_
  rcases lex_total (S := S) h.2 with q | q
  · exact q
  · rw [h.1] at q; cases q
theorem byname_nil : ByName [] [] := ⟨⟨rfl, List.nodup_nil, fun x hx => by cases hx⟩, List.Pairwise.nil⟩

theorem range_holds {m B g cap : Nat} {S : List (List UInt8)} {w1 : World} (hm : S.length = m + 1) (ho1 : w1.ownsRow B 3 1 (.slice (some ⟨g, 0, none⟩) S.length cap) S.length (nums (List.range S.length))) (d : Array (Fin (m + 1))) (hd : ∀ j, j < m + 1 → (d[j]!).val = j) (hds : d.size = S.length) : Holds (fun k : Fin (m + 1) => encN k.val) w1 g 0 d := by
  intro j hj
  have hj' : j < S.length := by omega
  rcases ho1.2 with ⟨_, q⟩ | ⟨g', cap', cur, e', hB, hg, hn', hc', hs', ht'⟩
  · omega
  · obtain rfl : g = g' := by injection e' with e1; injection e1 with e1; injection e1 with e1
    refine ⟨?_, Lib.frozen_of_heap hg _⟩
    rw [Lib.cell_of_heap hg, Nat.zero_add]
    have e0 : (cur.toList.take (S.length * 1))[j]? = (nums (List.range S.length))[j]? := by rw [ht']
    rw [List.getElem?_take, if_pos (by omega)] at e0
    rw [← Array.getElem?_toList, e0]
    show _ = some (encN (d[j]!).val)
    rw [hd j (by omega)]
    simp [hj']
theorem fin_row (m : Nat) : ∃ d : Array (Fin (m + 1)), d.size = m + 1 ∧ (∀ j, j < m + 1 → (d[j]!).val = j) ∧ d.toList.map (·.val) = List.range (m + 1) := by
  refine ⟨Array.ofFn id, by simp, fun j hj => by simp [getElem!_pos, hj], ?_⟩
  apply List.ext_getElem
  · simp
  · intro i h1 h2
    rw [List.getElem_map, Array.getElem_toList, Array.getElem_ofFn, List.getElem_range]
    rfl
theorem cmp_lays {m B g cap Bx : Nat} {S : List (List UInt8)} {v : Value} {w1 : World} (hm : S.length = m + 1) (hBx : w1.heap[Bx]? = some (.cells #[v] 22)) (hne : Bx ≠ g) (w : World) (hb : Below w.heap.size w w1) (hg : w.heap.size ≤ g) (hv : Strs w v S) (n : Nat) :
    CmpLays1 Try.prog 33 #[.pointer (some ⟨Bx, 0, none⟩)] (fun k : Fin (m + 1) => encN k.val) (fun x y : Fin (m + 1) => cfN S x.val y.val) g 0 n w1 := by
  intro q os dk hdk x y
  refine cmpf_any (S := S) (v := v) (Bx := Bx) ?_ ?_ x.val y.val (by have := x.isLt; omega) (by have := y.isLt; omega)
  · rw [Lib.cell_of_heap ((sort_block _ w1 g q dk os (lt_of_at hBx) hne).trans hBx)]; rfl
  · exact Row.later hv fun b o hb' => by
      have := (sort_block (fun k : Fin (m + 1) => encN k.val) w1 g q dk os (b := b) (by have := hb.size; omega) (by omega)).trans (hb.block b hb')
      simp only [World.cell?, this]
theorem sortF_any {m B g cap Bx : Nat} {S : List (List UInt8)} {v : Value} {w w1 : World} (hm : S.length = m + 1) (hn : S.length ≤ 1000000) (hBx : w1.heap[Bx]? = some (.cells #[v] 22)) (hne : Bx ≠ g) (hb : Below w.heap.size w w1) (hg : w.heap.size ≤ g) (hv : Strs w v S) (ho1 : w1.ownsRow B 3 1 (.slice (some ⟨g, 0, none⟩) S.length cap) S.length (nums (List.range S.length))) :
    Calls Try.prog 32 #[.slice (some ⟨g, 0, none⟩) S.length cap, .func (.func 33) #[] #[.pointer (some ⟨Bx, 0, none⟩)]] w1 fun e w' => e = .returned (.tuple #[]) ∧ ∃ line, ByName S line ∧ w'.ownsRow B 3 1 (.slice (some ⟨g, 0, none⟩) S.length cap) line.length (nums line) ∧ Below B w1 w' := by
  obtain ⟨d, hd1, hd2, hd3⟩ := fin_row m
  have hds : d.size = S.length := by omega
  have hgl := (World.ownsRow.lt ho1 g rfl).2
  have SO := Try.slices_SortFunc_total (fun k : Fin (m + 1) => encN k.val) (fun _ => rfl) (fun x y : Fin (m + 1) => cfN S x.val y.val) (swo_lex m S) 33 #[.pointer (some ⟨Bx, 0, none⟩)] g 0 cap d w1 (enters_of Try.func33 (by kernel_rfl) rfl) (cmp_lays (B := 0) (cap := 0) hm hBx hne w hb hg hv _) (range_holds hm ho1 d hd2 hds) hgl (by omega) (fun x y h1 h2 => by
    rw [show ltOf (fun x y : Fin (m + 1) => cfN S x.val y.val) x y = lexB S x.val y.val from cf_lex S _ _] at h1
    rw [show ltOf (fun x y : Fin (m + 1) => cfN S x.val y.val) y x = lexB S y.val x.val from cf_lex S _ _] at h2
    exact Fin.ext (lex_same h1 h2))
  rw [hds] at SO
  refine SO.mono ?_
  rintro e w2 ⟨rfl, q, os, rfl⟩
  have hbn := sorted_line m S hm d.toList hd3
  have hll : (d.toList.mergeSort fun x y => !(ltOf fun x y : Fin (m + 1) => cfN S x.val y.val) y x).length = S.length := by rw [List.length_mergeSort]; simpa using hds
  generalize (d.toList.mergeSort fun x y => !(ltOf fun x y : Fin (m + 1) => cfN S x.val y.val) y x) = srt at *
  obtain ⟨f1, f2⟩ := own_sorted (fun k : Fin (m + 1) => encN k.val) ho1 srt.toArray (by simpa using hll) q os
  refine ⟨rfl, srt.map (·.val), hbn, ?_, f2⟩
  rw [List.length_map, hll]
  simpa [nums, Function.comp_def] using f1
set_option maxHeartbeats 4000000 in
theorem byName_any (v : Value) (S : List (List UInt8)) (w : World) (hv : Strs w v S) (hn : S.length ≤ 1000000) :
    Calls Try.prog 21 #[v] w fun e w' => ∃ r line, e = .returned r ∧ ByName S line ∧ w'.ownsRow w.heap.size 3 1 r line.length (nums line) ∧ Below w.heap.size w w' := by
  obtain ⟨n, hnn⟩ : ∃ n, S.length = n := ⟨_, rfl⟩
  have hlen := fun W => hv.len (P := Try.prog) 22 3 9 Try.underlying22 W
  obtain ⟨a, c, hvf, _⟩ := hv.form
  obtain ⟨Y, hY⟩ : ∃ Y, w.alloc (.cells #[v] 22) = Y := ⟨_, rfl⟩
  have BY : Below w.heap.size w Y := hY ▸ ba (b0 w) _
  have PY : Y.heap[w.heap.size]? = some (.cells #[v] 22) := hY ▸ heap_alloc_new w _
  have SY : Y.heap.size = w.heap.size + 1 := hY ▸ World.size_alloc w _
  have hcY : Y.cell? ⟨w.heap.size, 0, none⟩ = some v := by rw [Lib.cell_of_heap PY]; rfl
  have NU := hid (numbers_any S.length (by omega) Y)
  have HPY := hid PY
  have HVY := hid hv
  have HBY := hid BY
  have HNN := hid hnn
  rw [hnn] at hlen hvf NU
  subst hvf
  clear hv PY BY hnn
  go_enter Try.func21, Try.ntmps21
  go_wp2_with fail
  refine NU.out.mono ?_
  rintro e w1 ⟨nv, rfl, ho1, b1⟩
  rw [List.length_range] at ho1
  have hsz := b1.size
  have B1 := hid (show Below w.heap.size w w1 from bt HBY.out b1)
  have HP1 := hid (show w1.heap[w.heap.size]? = some (.cells #[.slice a n c] 22) from (b1.block _ (by omega)).trans HPY.out)
  have HO1 := hid (owns_base (C := w.heap.size) ho1 (by omega))
  rcases Nat.eq_zero_or_pos n with h0 | h0
  · subst h0
    obtain rfl : S = [] := List.eq_nil_of_length_eq_zero HNN.out
    obtain ⟨p, cap, rfl⟩ : ∃ p cap, nv = .slice p 0 cap := by
      rcases ho1.2 with ⟨rfl, _⟩ | ⟨g, cap, cur, rfl, _⟩
      · exact ⟨none, 0, rfl⟩
      · exact ⟨_, cap, rfl⟩
    have SO := hid (fun fv W => Try.slices_SortFunc_none (α := Nat) p cap fv W)
    clear ho1 b1 NU HPY HBY
    go_wp2_with fail
    refine (SO.out _ _).mono ?_
    rintro e w2 ⟨rfl, rfl⟩
    go_wp2_with fail
    go_ret
    exact ⟨_, [], rfl, byname_nil, HO1.out, B1.out⟩
  · obtain ⟨g, cap, rfl, hBg⟩ : ∃ g cap, nv = .slice (some ⟨g, 0, none⟩) n cap ∧ Y.heap.size ≤ g := by
      rcases ho1.2 with ⟨_, q⟩ | ⟨g, cap, cur, rfl, hB, _⟩
      · omega
      · exact ⟨g, cap, rfl, hB⟩
    have SO := sortF_any (m := n - 1) (B := w.heap.size) (g := g) (cap := cap) (Bx := w.heap.size) (S := S) (v := .slice a n c) (w := w) (w1 := w1) (by have := HNN.out; omega) hn HP1.out (by omega) B1.out (by omega) HVY.out (by rw [HNN.out]; exact HO1.out)
    rw [HNN.out] at SO
    have SO' := hid SO
    clear SO ho1 b1 NU HPY HBY
    go_wp2_with fail
    refine SO'.out.mono ?_
    rintro e w2 ⟨rfl, line, f1, f2, f3⟩
    have F := hid (And.intro f1 f2)
    have F3 := hid (B1.out.trans f3)
    clear f1 f2 f3
    go_wp2_with fail
    go_ret
    exact ⟨_, line, rfl, F.out.1, F.out.2, F3.out⟩
end Go.Proofs.Ytkpmkabddhpojaa.Or
