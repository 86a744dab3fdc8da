/- Layer 14: contracts of the heap's type: Len, Less, Swap, Push, Pop. -/
import Derived.Test.YtkpmkabddhpojaaOrC
import Derived.Test.YtkpmkabddhpojaaOrHeap
import Derived.RegionTactic
import Derived.ChangeAlike
import Derived.Deep.RegionLaw
import Derived.Deep.AppendLies
set_option linter.unusedVariables false
set_option linter.unusedSimpArgs false
namespace Go.Proofs.Ytkpmkabddhpojaa.Or
open Go Go.Proofs.Ytkpmkabddhpojaa Go.RowKit
set_option maxRecDepth 100000

/-- A heap of numbers: the variable R holds the slice v of the numbers l. -/
structure Hp (B R : Nat) (w : World) (v : Value) (l : List Nat) : Prop where
  box : w.heap[R]? = some (.cells #[v] 56)
  own : w.ownsRow B 3 1 v l.length (nums l)
section
variable {B R : Nat} {w w' : World} {v : Value} {l : List Nat}
theorem Hp.lt (h : Hp B R w v l) : R < w.heap.size := lt_of_at h.box
theorem Hp.cell (h : Hp B R w v l) : w.cell? ⟨R, 0, none⟩ = some v := by rw [Lib.cell_of_heap h.box]; rfl
theorem Hp.open_ (h : Hp B R w v l) : w.frozen? ⟨R, 0, none⟩ = false := Lib.frozen_of_heap h.box 0
theorem Hp.apart (h : Hp B R w v l) : v.ownBlock ≠ some R := by
  intro e
  rcases h.own.2 with ⟨rfl, _⟩ | ⟨g, cap, cur, rfl, _, hh, _⟩
  · cases e
  · obtain rfl : g = R := by injection e
    rw [h.box] at hh
    injection hh with hh
    injection hh with _ hh
    exact absurd hh (by decide)
theorem Hp.later (h : Hp B R w v l) (hb : Below w.heap.size w w') : Hp B R w' v l := ⟨(hb.block _ h.lt).trans h.box, owns_later h.own hb⟩
theorem Hp.kx {S : Nat → Prop} (h : Hp B R w v l) (k : Kx S w w') (hR : ¬ S R) (hv : ∀ b, v.ownBlock = some b → ¬ S b) : Hp B R w' v l := ⟨(k.block _ h.lt hR).trans h.box, owns_kx h.own k hv⟩
end
theorem Len_any {B : Nat} {w : World} {v : Value} {l : List Nat} (h : w.ownsRow B 3 1 v l.length (nums l)) :
    Calls Try.prog 30 #[v] w fun e w' => e = .returned (.int .i64 l.length) ∧ w = w' := by
  have hlen := fun W => own_len (P := Try.prog) h 56 3 Try.underlying56 W
  clear h
  go_enter Try.func30, Try.ntmps30
  go_wp2
  go_ret
  exact ⟨rfl, rfl⟩
set_option maxHeartbeats 1000000 in
theorem Less_any {B : Nat} {w : World} {v : Value} {l : List Nat} (h : w.ownsRow B 3 1 v l.length (nums l)) (i j : Nat) (hi : i < l.length) (hj : j < l.length) :
    Calls Try.prog 78 #[v, .int .i64 i, .int .i64 j] w fun e w' => e = .returned (.bool (decide (l[i] < l[j]))) ∧ Below w.heap.size w w' := by
  have mixed : Try.prog.follows Departure.mixedOrders = true := by kernel_rfl
  obtain ⟨b1, hb1, hi1, hc1, _, _, _, _⟩ := own_at (P := Try.prog) h i hi 56 Try.underlying56 Try.sizeOf3
  obtain ⟨b2, hb2, hi2, hc2, _, _, _, _⟩ := own_at (P := Try.prog) h j hj 56 Try.underlying56 Try.sizeOf3
  simp only [encN] at hc1 hc2
  have HR := hid (show decide ((l[i] : Int) < (l[j] : Int)) = decide (l[i] < l[j]) by simp)
  generalize l[i] = x at *
  generalize l[j] = y at *
  clear h hb1 hb2
  go_enter Try.func78, Try.ntmps78
  go_wp2_with fail
  go_region
  all_goals go_wp2
  all_goals go_ret
  all_goals exact ⟨by rw [← HR.out]; rfl, (b0 w).drew⟩
set_option maxHeartbeats 2000000 in
theorem Swap_any {B : Nat} {w : World} {v : Value} {l : List Nat} (h : w.ownsRow B 3 1 v l.length (nums l)) (i j : Nat) (hi : i < l.length) (hj : j < l.length) :
    Calls Try.prog 81 #[v, .int .i64 i, .int .i64 j] w fun e w' => e = .returned (.tuple #[]) ∧ w'.ownsRow B 3 1 v (sw l i j).length (nums (sw l i j)) ∧ Kx (fun b => v.ownBlock = some b) w w' := by
  have mixed : Try.prog.follows Departure.mixedOrders = true := by kernel_rfl
  obtain ⟨b1, hb1, hi1, hc1, hf1, _, hl1, hs1⟩ := own_at (P := Try.prog) h i hi 56 Try.underlying56 Try.sizeOf3
  obtain ⟨b2, hb2, hi2, hc2, hf2, _, _, _⟩ := own_at (P := Try.prog) h j hj 56 Try.underlying56 Try.sizeOf3
  obtain rfl : b1 = b2 := by rw [hb1] at hb2; injection hb2
  have hs := hs1 l[j]
  obtain ⟨b3, hb3, _, hc3, hf3, _, _, hs3⟩ := own_at (P := Try.prog) hs j (by rw [List.length_set]; exact hj) 56 Try.underlying56 Try.sizeOf3
  obtain rfl : b1 = b3 := by rw [hb1] at hb3; injection hb3
  have h4 := hs3 l[i]
  have e4 : (l.set i l[j]).set j l[i] = sw l i j := by simp [sw, hi, hj]
  rw [e4] at h4
  have H4 := hid h4
  have HK := hid (show Kx (fun b => v.ownBlock = some b) w ((w.setCell ⟨b1, i, none⟩ (encN l[j])).setCell ⟨b1, j, none⟩ (encN l[i])) from (Kx.set w b1 i _ hb1).tr (Kx.set _ b1 j _ hb1))
  simp only [encN] at hc1 hc2 H4 HK
  generalize l[i] = x at *
  generalize l[j] = y at *
  have hcx : ∃ u, (w.setCell ⟨b1, i, none⟩ (.int .i64 y)).cell? ⟨b1, j, none⟩ = some u := ⟨_, hc3⟩
  obtain ⟨u, hcx⟩ := hcx
  have hfx : (w.setCell ⟨b1, i, none⟩ (.int .i64 y)).frozen? ⟨b1, j, none⟩ = false := hf3
  clear h hb1 hb2 hb3 hs1 hs hs3 h4 hc3 hf3
  go_enter Try.func81, Try.ntmps81
  go_wp2_with fail
  go_region
  all_goals go_end0
  all_goals exact ⟨rfl, H4.out, HK.out.drew⟩

/-- append of one number, as a step of a region. -/
theorem region_append {ops : Array Oper} {o : Oper} {a : Go.Act} {K : Go.Act → World → Prop} {Q : Exit → Go.Act → World → Prop} {E : Prop} {B : Nat} {w : World} {v : Value} {l : List Nat} {k : Nat} {g : Nat} (ho : w.ownsRow B 3 1 v l.length (nums l)) (hl : l.length ≤ 1000000000) (hB : B ≤ w.heap.size) (hg : w.heap[g]? = some (.cells #[encN k] 3)) (t : TypeId) (ht : Try.prog.underlying t = some (.slice 3))
    (hgd : o.guard = none) (s x : Operand) (hop : o.op = .call { callee := .builtin .append, args := #[s, x], argTypes := #[t, t] }) (hs : a.eval s = v) (hx : a.eval x = .slice (some ⟨g, 0, none⟩) 1 1)
    (h : ∀ g' cap w', w'.ownsRow B 3 1 (.slice (some ⟨g', 0, none⟩) (l.length + 1) cap) (l ++ [k]).length (nums (l ++ [k])) → w.grownBy w' v.ownBlock → (v.ownBlock = some g' ∨ g' = w.heap.size) → K (a.put o.dst (.slice (some ⟨g', 0, none⟩) (l.length + 1) cap)) w') :
    if Region.wanted o (yielded ops a.tmps) = true then Oper.wp Try.prog o a w K Q else E := by
  have hw : Region.wanted o (yielded ops a.tmps) = true := by simp [Region.wanted, hgd]
  rw [if_pos hw]
  obtain ⟨v', w', h1, h2, h3, h4⟩ := append_num B w v l k ho hl hB hg t ht
  have h5 := h1 o.type
  unfold Oper.wp execOp
  simp only [hop, resolve, invoke, builtin, Sem.run_bind, Sem.run_pure, Result.andThen_ok, List.map_toArray, List.map_cons, List.map_nil, hs, hx, h5]
  obtain ⟨g', cap, rfl⟩ : ∃ g' cap, v' = .slice (some ⟨g', 0, none⟩) (l.length + 1) cap := by
    rcases h2.2 with ⟨_, h0⟩ | ⟨g', cap, cur, e, _⟩
    · simp at h0
    · exact ⟨g', cap, by rw [e]; simp⟩
  exact h g' cap w' h2 h3 (by
    rcases h4 with h4 | h4
    · exact .inl h4.symm
    · injection h4 with h4; exact .inr h4)
/-- What a call that puts one more on the heap leaves behind. -/
structure Pushed (B R : Nat) (w : World) (v : Value) (w' : World) (v' : Value) : Prop where
  kx : Kx (fun b => b = R ∨ v.ownBlock = some b) w w'
  new : v'.ownBlock = v.ownBlock ∨ ∃ b, w.heap.size ≤ b ∧ v'.ownBlock = some b
set_option maxHeartbeats 4000000 in
theorem Push_any {B R : Nat} {w : World} {v : Value} {l : List Nat} (h : Hp B R w v l) (hB : B ≤ w.heap.size) (k : Nat) (hl : l.length ≤ 1000000) :
    Calls Try.prog 80 #[.pointer (some ⟨R, 0, none⟩), .iface 3 (.int .i64 k)] w fun e w' => e = .returned (.tuple #[]) ∧ ∃ v', Hp B R w' v' (l ++ [k]) ∧ Pushed B R w v w' v' := by
  have mixed : Try.prog.follows Departure.mixedOrders = true := by kernel_rfl
  obtain ⟨Y, hY⟩ : ∃ Y, w.alloc (.cells #[.int .i64 (k : Int)] 3) = Y := ⟨_, rfl⟩
  have BY : Below w.heap.size w Y := hY ▸ ba (b0 w) _
  have PY : Y.heap[w.heap.size]? = some (.cells #[encN k] 3) := hY ▸ heap_alloc_new w _
  have SY : Y.heap.size = w.heap.size + 1 := hY ▸ World.size_alloc w _
  have hc := h.cell
  have hf := h.open_
  have hcY := (h.later BY).cell
  have hfY := (h.later BY).open_
  have HOY := hid (h.later BY)
  have HA := hid h.apart
  have HBY := hid (show B ≤ Y.heap.size from by have := BY.size; omega)
  have HPY := hid PY
  have HB0 := hid BY
  have HLT := hid h.lt
  have HLL := hid (show l.length ≤ 1000000000 by omega)
  have ta : ∀ W, (Instr.typeAssert (.iface 3 (.int .i64 (k : Int))) 20 3 false).run Try.prog W = .ok (.int .i64 (k : Int)) W := fun _ => by kernel_rfl
  clear h BY PY hB
  go_enter Try.func80, Try.ntmps80
  go_wp2_with fail
  go_region_law (first
    | (refine region_append (w := Y) HOY.out.own HLL.out HBY.out HPY.out 56 Try.underlying56 rfl (.tmp 7) (.tmp 10) rfl (by simp [Go.Act.eval, Go.Act.put]) (by simp [Go.Act.eval, Go.Act.put]) ?_
       intro g' cap w1 ho1 hg1 hb1
       have hR1 : w1.heap[R]? = some (.cells #[v] 56) := (hg1.block R HOY.out.lt (fun e => HA.out e.symm)).trans HOY.out.box
       have hc1 : w1.cell? ⟨R, 0, none⟩ = some v := by rw [Lib.cell_of_heap hR1]; rfl
       have hf1 : w1.frozen? ⟨R, 0, none⟩ = false := Lib.frozen_of_heap hR1 0
       have HO1 := hid ho1
       have HG1 := hid hg1
       have HB1 := hid hb1
       have HR1 := hid hR1
       clear ho1 hg1 hb1 hR1)
    | (refine region_append (w := Y.drew) HOY.out.own HLL.out HBY.out HPY.out 56 Try.underlying56 rfl (.tmp 7) (.tmp 10) rfl (by simp [Go.Act.eval, Go.Act.put]) (by simp [Go.Act.eval, Go.Act.put]) ?_
       intro g' cap w1 ho1 hg1 hb1
       have hR1 : w1.heap[R]? = some (.cells #[v] 56) := (hg1.block R HOY.out.lt (fun e => HA.out e.symm)).trans HOY.out.box
       have hc1 : w1.cell? ⟨R, 0, none⟩ = some v := by rw [Lib.cell_of_heap hR1]; rfl
       have hf1 : w1.frozen? ⟨R, 0, none⟩ = false := Lib.frozen_of_heap hR1 0
       have HO1 := hid ho1
       have HG1 := hid (show Y.grownBy w1 v.ownBlock from ⟨hg1.os, hg1.tape, hg1.output, hg1.size, hg1.block⟩)
       have HB1 := hid (show v.ownBlock = some g' ∨ g' = Y.heap.size from hb1)
       have HR1 := hid hR1
       clear ho1 hg1 hb1 hR1))
  all_goals go_end0
  all_goals
    have hr : (w1.setCell ⟨R, 0, none⟩ (.slice (some ⟨g', 0, none⟩) (l.length + 1) cap)).heap[R]? = some (.cells #[.slice (some ⟨g', 0, none⟩) (l.length + 1) cap] 56) := by
      simp [World.setCell, Array.getElem?_modify, HR1.out]
    have hgR : g' ≠ R := by
      rcases HB1.out with e | e
      · exact fun e' => HA.out (by rw [e, e'])
      · have := HLT.out; omega
    have k1 : Kx (fun b => b = R ∨ v.ownBlock = some b) w (w1.setCell ⟨R, 0, none⟩ (.slice (some ⟨g', 0, none⟩) (l.length + 1) cap)) :=
      ((Kx.of_below HB0.out).tr (Kx.grown HG1.out fun b e => .inr e)).tr (Kx.set w1 R 0 _ (.inl rfl))
    have ho : (w1.setCell ⟨R, 0, none⟩ (.slice (some ⟨g', 0, none⟩) (l.length + 1) cap)).ownsRow B 3 1 (.slice (some ⟨g', 0, none⟩) (l.length + 1) cap) (l ++ [k]).length (nums (l ++ [k])) :=
      owns_kx HO1.out (Kx.set (S := fun b => b = R) w1 R 0 _ rfl) (fun b e e' => hgR ((Option.some.inj e).trans e'))
    refine ⟨rfl, _, ⟨hr, ho⟩, by first | exact k1 | exact k1.drew, ?_⟩
    rcases HB1.out with e | e
    · exact .inl e.symm
    · exact .inr ⟨g', by omega, rfl⟩
end Go.Proofs.Ytkpmkabddhpojaa.Or
