/- Layer 9: rows out of iterators: AppendSeq and Collect; what makes the iterators. -/
import Derived.Test.YthggoohchjifnaaDoorScJ
import Derived.Maps.AppendAt
set_option linter.unusedVariables false
set_option linter.unusedSimpArgs false
namespace Go.Proofs.YthggoohchjifnaaDoor.Sc
open Go Go.Proofs.YthggoohchjifnaaDoor Go.Proofs.YthggoohchjifnaaDoor.Utf Go.Proofs.YthggoohchjifnaaDoor.Names Go.RowKit Go.Shelf
set_option maxRecDepth 100000
attribute [local go_sem] Oper.semAt_some

/-- What a row that is gathered looks like between two rounds: k of the texts, in a block at hi or above. -/
structure Gath (w0 : World) (B hi : Nat) (xs : List (List UInt8)) (k : Nat) (v : Value) (A : World) : Prop where
  box : Boxed A B 22 v
  row : A.ownsRow hi 9 1 v k (strsOf (xs.take k))
  le : k ≤ xs.length
  bel : Below w0.heap.size w0 A
theorem Gath.lt {w0 : World} {B hi k : Nat} {xs : List (List UInt8)} {v : Value} {A : World} (h : Gath w0 B hi xs k v A) : B < A.heap.size := (Array.getElem?_eq_some_iff.1 (show A.heap[B]? = some _ from h.box)).1
theorem Gath.steps {w0 : World} {B lo hi k : Nat} {xs : List (List UInt8)} {v : Value} {A A' : World} (h : Gath w0 B hi xs k v A) (hs : Steps lo hi A A') (hB : B < lo) (h0 : w0.heap.size ≤ B) : Gath w0 B hi xs k v A' := by
  have hlt := h.lt
  refine ⟨(hs.same _ hlt (by omega)).trans h.box, ?_, h.le, hs.below h.bel (by omega) h.bel.size⟩
  obtain ⟨h1, h2⟩ := h.row
  refine ⟨h1, ?_⟩
  rcases h2 with h2 | ⟨g, cap, cur, e, hg, hb, r⟩
  · exact .inl h2
  · exact .inr ⟨g, cap, cur, e, hg, (hs.same g (Array.getElem?_eq_some_iff.1 hb).1 (by omega)).trans hb, r⟩
/-- One more. -/
theorem Gath.push {w0 A w1 : World} {B hi k : Nat} {xs : List (List UInt8)} {v v' : Value} {x : List UInt8} {tmp : Obj} (h : Gath w0 B hi xs k v A) (hx : xs[k]? = some x) (hhi : hi ≤ A.heap.size) (hB : B < hi) (h0 : w0.heap.size ≤ B)
    (hown' : w1.ownsRow hi 9 1 v' (k + 1) (strsOf (xs.take k) ++ [.string (text x)])) (hgrow : (A.alloc tmp).grownBy w1 v.ownBlock) :
    Boxed w1 B 22 v ∧ Gath w0 B hi xs (k + 1) v' (w1.setCell ⟨B, 0, none⟩ v') ∧ A.heap.size ≤ (w1.setCell ⟨B, 0, none⟩ v').heap.size ∧ ∀ b, b < hi → b ≠ B → (w1.setCell ⟨B, 0, none⟩ v').heap[b]? = A.heap[b]? := by
  have hlt := h.lt
  have hkl := (List.getElem?_eq_some_iff.1 hx).1
  have far : ∀ b, b < hi → some b ≠ v.ownBlock := fun b hb e => by have := (h.row.lt b e.symm).1; omega
  have hv1 : Boxed w1 B 22 v := (hgrow.block B (by simp; omega) (far B hB)).trans (h.box.alloc tmp)
  have hsz : A.heap.size ≤ w1.heap.size := by have := hgrow.size; simp at this; omega
  have same : ∀ b, b < hi → b ≠ B → (w1.setCell ⟨B, 0, none⟩ v').heap[b]? = A.heap[b]? := fun b hb hne =>
    (Below.heap_setCell w1 ⟨B, 0, none⟩ _ b (by simpa using hne)).trans ((hgrow.block b (by simp; omega) (far b hb)).trans (Below.heap_alloc A tmp b (by omega)))
  refine ⟨hv1, ⟨hv1.set v', ?_, hkl, ?_⟩, by simpa using hsz, same⟩
  · rw [show strsOf (xs.take (k + 1)) = strsOf (xs.take k) ++ [.string (text x)] by rw [List.take_add_one, hx, strsOf_append]; rfl]
    exact hown'.kept (grownBy_setCell' w1 _ _) (.inr fun e => by have := (hown'.lt B e).1; omega)
  · have hb1 : Below w0.heap.size w0 w1 := (h.bel.alloc h.bel.size tmp).grown hgrow (by have := h.bel.size; simp; omega) (fun j e => by have := (h.row.lt _ e).1; omega)
    exact hb1.setCell (p := ⟨B, 0, none⟩) h0 v'
theorem infoT : (Tryd.prog.info? 9).map (fun i => (i.zero, i.size, i.bytes)) = some (some (.string ByteArray.empty), 1, 16) := by kernel_rfl

set_option maxHeartbeats 4000000 in
theorem AppendSeq_in (D : Nat → Prop) (g c : Nat) (lb : Array Value) (xs : List (List UInt8)) (w : World) (hD : ∀ b, D b → b < w.heap.size) (eg : ∀ args w, (callFunc g args).run Tryd.prog w = .ok (.enter g args) w)
    (hseq : TellsD Tryd.prog D c g lb encT xs w) (hl : xs.length ≤ 1000000) :
    CallsIn Fence.wide 9 Tryd.prog 64 #[.slice none 0 0, .func (.func g) #[] lb] w fun e w' => ∃ v, e = .returned v ∧ OwnS w.heap.size w' v xs ∧ Below w.heap.size w w' := by
  obtain ⟨i0, hi, hz0, hz1, hz2⟩ := info_parts infoT
  have underS := Tryd.underlying22
  refine callsIn_of_wp_marks Tryd.func64 rfl trivial ?_ rfl
  simp only [Tryd.ntmps64, List.size_toArray, List.length_cons, List.length_nil, Nat.reduceAdd, Nat.reduceSub, Array.replicate_succ, Array.replicate_zero, List.push_toArray, List.append_toArray, List.nil_append, List.cons_append]
  obtain ⟨W1, hW1⟩ : ∃ W1, w.alloc (.cells #[.slice none 0 0] 22) = W1 := ⟨_, rfl⟩
  have hz : W1.heap.size = w.heap.size + 1 := by rw [← hW1]; simp
  have hb1 : Below w.heap.size w W1 := by rw [← hW1]; exact (Below.refl _ w).alloc (Nat.le_refl _) _
  have bx : Boxed W1 w.heap.size 22 (.slice none 0 0) := by rw [← hW1]; exact Boxed.new w _ _
  gi_wp2
  refine range_tellsD (n := 9) (gf := g) (lb := lb) rfl eg hseq (fun b hb => by rw [hz]; have := hD b hb; omega) (fun b hb => hb1.block b (hD b hb)) rfl
    (fun k A => ∃ v, Gath w w.heap.size (w.heap.size + 1 + 2 + c) xs k v A) (fun _ _ _ => False) ?hI ?hIx ?h0
    (fun x => { tmps := #[.slice none 0 0, .func (.func g) #[] lb, .pointer (some ⟨w.heap.size, 0, none⟩), undef, .slice none 0 0, .string (text x), .func (.func g) #[] lb, .string (text x), undef, undef, undef, undef, undef], defers := [] })
    ?assign ?body ?done ?stop
  case hI =>
    rintro k A B ⟨v, h⟩ hs
    exact ⟨v, h.steps (lo := w.heap.size + 1) (hs.mono (by omega) (by omega)) (by omega) (Nat.le_refl _)⟩
  case hIx => exact fun _ _ _ _ h _ => h
  case h0 => exact ⟨_, bx, World.ownsRow_nil _ _ _ _, Nat.zero_le _, hb1⟩
  case assign =>
    intro l x A K hK
    gi_wp2
    exact hK
  case body =>
    rintro l k x A hx hsA ⟨v, hG⟩
    have hkl := (List.getElem?_eq_some_iff.1 hx).1
    have hcb := hG.box.cell
    have hrow := hG.row
    have HG := hid hG
    have HX := hid hx
    have hkk : k ≤ 1000000 := by omega
    have hsA2 : w.heap.size + 1 + 2 + c ≤ A.heap.size := by omega
    clear hG hx
    gi_wp2_with (gi_at_builtin; refine wpListIn_append_own _ rfl _ _ 22 rfl (w.heap.size + 1 + 2 + c) 9 i0 (.string ByteArray.empty) 1 16 underS hi hz0 hz1 hz2 rfl (by decide) _ _ _ rfl (hrow.alloc _) ⟨A.heap.size, 0, none⟩ 1 1 [.string (text x)] rfl rfl (cell_one_new _ _ _) (by simp [Value.oneCell']) (by unfold maxLen; omega) (by omega) (by simp; omega) ?_; intro v' w4 hown' hgrow _; obtain ⟨g', cap', rfl⟩ := ownsRow_succ hown'; obtain ⟨q1, q2, q3, q4⟩ := HG.out.push HX.out hsA2 (by omega) (Nat.le_refl _) hown' hgrow; have hc4 := q1.cell; have hf4 := q1.frozen)
    refine ⟨fun b hb => ?_, q3, _, q2⟩
    rcases hb with hb | hb
    · have := hD b hb
      exact q4 b (by omega) (by omega)
    · exact q4 b (by omega) (by omega)
  case done =>
    rintro A hsA ⟨v, hG⟩ hK
    have hcb := hG.box.cell
    gi_wp2
    refine ⟨by simp, .inl ⟨_, _, rfl, run_takeDeferred hK, ?_⟩⟩
    have st : Steps (w.heap.size + 1) (w.heap.size + 1 + 2 + c) A (A.putObj W1.heap.size (.deferred none)) := Steps.putObj _ _ _ _ _ (by omega) (by omega)
    rw [hz] at st
    have h2 := hG.steps st (by omega) (Nat.le_refl _)
    refine ⟨_, results_tmp rfl _ _ _, v, rfl, ?_, (by rw [hz]; exact h2.bel)⟩
    have hr := h2.row
    rw [List.take_length] at hr
    rw [hz]
    exact OwnS.base (B := w.heap.size + 1 + 2 + c) hr (by omega)
  case stop =>
    rintro cd k A hk hsA h hK
    exact h.elim
theorem AppendSeq_any (D : Nat → Prop) (g c : Nat) (lb : Array Value) (xs : List (List UInt8)) (w : World) (hD : ∀ b, D b → b < w.heap.size) (eg : ∀ args w, (callFunc g args).run Tryd.prog w = .ok (.enter g args) w)
    (hseq : TellsD Tryd.prog D c g lb encT xs w) (hl : xs.length ≤ 1000000) :
    Calls Tryd.prog 64 #[.slice none 0 0, .func (.func g) #[] lb] w fun e w' => ∃ v, e = .returned v ∧ OwnS w.heap.size w' v xs ∧ Below w.heap.size w w' := callsIn_wide.1 (AppendSeq_in D g c lb xs w hD eg hseq hl)
theorem Collect_any (D : Nat → Prop) (g c : Nat) (lb : Array Value) (xs : List (List UInt8)) (w : World) (hD : ∀ b, D b → b < w.heap.size) (eg : ∀ args w, (callFunc g args).run Tryd.prog w = .ok (.enter g args) w)
    (hseq : TellsD Tryd.prog D c g lb encT xs w) (hl : xs.length ≤ 1000000) :
    Calls Tryd.prog 39 #[.func (.func g) #[] lb] w fun e w' => ∃ v, e = .returned v ∧ OwnS w.heap.size w' v xs ∧ Below w.heap.size w w' := by
  have H := hid (AppendSeq_any D g c lb xs w hD eg hseq hl)
  clear hseq hD eg
  go_enter Tryd.func39, Tryd.ntmps39
  go_wp2_with fail
  refine H.out.mono ?_
  rintro e w1 ⟨v, rfl, ho, hb⟩
  have HO := hid ho
  clear ho
  go_wp2
  go_ret
  exact ⟨v, rfl, HO.out, hb⟩

theorem Values_any (a : Option Addr) (n c : Nat) (w : World) :
    Calls Tryd.prog 41 #[.slice a n c] w fun e w' => e = .returned (.func (.func 66) #[] #[.pointer (some ⟨w.heap.size, 0, none⟩)]) ∧ w' = w.alloc (.cells #[.slice a n c] 22) := by
  have hmf : ∀ (fn : Fn) (first cap : Array Value) (w : World), (Instr.makeFunc fn first cap).run Tryd.prog w = .ok (.func fn first cap) w := fun _ _ _ _ => rfl
  go_enter Tryd.func41, Tryd.ntmps41
  go_wp2
  go_ret
  exact ⟨rfl, rfl⟩
theorem both_any (g : Nat) (lb : Array Value) (a : Option Addr) (n c : Nat) (w : World) :
    Calls Tryd.prog 40 #[.func (.func g) #[] lb, .slice a n c] w fun e w' => e = .returned (.func (.func 65) #[] #[.pointer (some ⟨w.heap.size + 1, 0, none⟩), .pointer (some ⟨w.heap.size, 0, none⟩)]) ∧
      w' = (w.alloc (.cells #[.func (.func g) #[] lb] 54)).alloc (.cells #[.slice a n c] 22) := by
  have hmf : ∀ (fn : Fn) (first cap : Array Value) (w : World), (Instr.makeFunc fn first cap).run Tryd.prog w = .ok (.func fn first cap) w := fun _ _ _ _ => rfl
  go_enter Tryd.func40, Tryd.ntmps40
  go_wp2
  go_ret
  exact ⟨rfl, rfl⟩
theorem tells_mono {D E : Nat → Prop} {c g : Nat} {lb : Array Value} {xs : List (List UInt8)} {w w' : World} (h : TellsD Tryd.prog D c g lb encT xs w) (hE : ∀ b, D b → E b) (hs : Lies D w w') : TellsD Tryd.prog E c g lb encT xs w' := by
  intro l J Jx W hW hEW hJ hJx hY h0
  refine h l J Jx W (hs.trans (hW.mono hE)) (fun b hb => hEW b (hE b hb)) hJ hJx (fun k x W1 hx hz hj => ?_) h0
  refine (hY k x W1 hx hz hj).mono ?_
  rintro e W' ⟨b, he, hl, r⟩
  exact ⟨b, he, hl.mono fun i hi => hi.imp (hE i) id, r⟩
/-- What both makes tells both. -/
theorem both_made {D : Nat → Prop} {c g : Nat} {lb : Array Value} {xs own : List (List UInt8)} {a : Option Addr} {n cp : Nat} {w w2 : World} (hw2 : w2 = (w.alloc (.cells #[.func (.func g) #[] lb] 54)).alloc (.cells #[.slice a n cp] 22))
    (hD : ∀ b, D b → b < w.heap.size) (eg : ∀ args w, (callFunc g args).run Tryd.prog w = .ok (.enter g args) w) (hseq : TellsD Tryd.prog D c g lb encT xs w) (ho : StrsD D w (.slice a n cp) own) :
    TellsD Tryd.prog (fun b => D b ∨ b = w.heap.size ∨ b = w.heap.size + 1) (4 + c) 65 #[.pointer (some ⟨w.heap.size + 1, 0, none⟩), .pointer (some ⟨w.heap.size, 0, none⟩)] encT (mrg xs own) w2 := by
  have hlt : ∀ b, b < w.heap.size → w2.heap[b]? = w.heap[b]? := fun b hb => by
    rw [hw2, Below.heap_alloc _ _ _ (by simp; omega), Below.heap_alloc _ _ _ hb]
  have k0 : w2.heap[w.heap.size]? = some (.cells #[.func (.func g) #[] lb] 54 (0, 0)) := by
    rw [hw2, Below.heap_alloc _ _ _ (by simp)]; exact World.alloc_heap_new w _
  have k1 : w2.heap[w.heap.size + 1]? = some (.cells #[.slice a n cp] 22 (0, 0)) := by
    rw [hw2]
    have := World.alloc_heap_new (w.alloc (.cells #[.func (.func g) #[] lb] 54)) (.cells #[.slice a n cp] 22)
    rwa [World.size_alloc] at this
  refine both_tells _ c g lb xs own (w.heap.size + 1) w.heap.size (.slice a n cp) w2 (.inr (.inr rfl)) (.inr (.inl rfl)) (by rw [Lib.cell_of_heap k1]; rfl) ((ho.same fun b hb => hlt b (hD b hb)).mono fun b hb => .inl hb) (by rw [Lib.cell_of_heap k0]; rfl) eg
    (tells_mono hseq (fun b hb => .inl hb) fun b hb => hlt b (hD b hb))
end Go.Proofs.YthggoohchjifnaaDoor.Sc
