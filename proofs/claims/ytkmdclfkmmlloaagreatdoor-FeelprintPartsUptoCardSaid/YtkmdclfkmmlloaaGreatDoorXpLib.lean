/- Layer 10: what rows, rows that are owned and cells have in common (of the texts of layers 4 and 5, without what their packages name). Over any program. -/
import Derived.Test.YtkmdclfkmmlloaaGreatDoorRow
import Derived.Test.YtkmdclfkmmlloaaGreatDoorApp
import Derived.Laws.OwnMore
import Derived.Deep.Fields
import Derived.Test.YtkmdclfkmmlloaaGreatDoorOpen
import Derived.Test.YtkmdclfkmmlloaaGreatDoorRows
set_option linter.unusedVariables false
set_option linter.unusedSimpArgs false
namespace Go.Proofs.YtkmdclfkmmlloaaGreatDoor.Xp
open Go Go.Proofs.YtkmdclfkmmlloaaGreatDoor Go.ChangeShapes Go.WideShapes Go.ChangeAt Go.RowKit Go.Deep
set_option maxRecDepth 100000
/-- Pieces of the same length, one behind the other. -/
theorem flat_get {α β : Type} (k : Nat) (f : α → List β) (hf : ∀ x, (f x).length = k) (l : List α) (i j : Nat) (hj : j < k) : (l.flatMap f)[i * k + j]? = (l[i]?).bind fun x => (f x)[j]? := by
  induction l generalizing i with
  | nil => simp
  | cons x l ih =>
    rw [List.flatMap_cons]
    cases i with
    | zero => rw [Nat.zero_mul, Nat.zero_add, List.getElem?_append_left (by rw [hf]; exact hj)]; rfl
    | succ i =>
      rw [List.getElem?_append_right (by rw [hf, Nat.succ_mul]; omega), hf, show (i + 1) * k + j - k = i * k + j from by rw [Nat.succ_mul]; omega, ih]
      rfl
theorem flat_len {α β : Type} (k : Nat) (f : α → List β) (hf : ∀ x, (f x).length = k) (l : List α) : (l.flatMap f).length = l.length * k := by
  induction l with
  | nil => simp
  | cons x l ih => rw [List.flatMap_cons, List.length_append, hf, ih, List.length_cons, Nat.succ_mul]; omega
/-- A row, piece by piece. -/
theorem Row.flat {α : Type} {k : Nat} (hk : 0 < k) {f : α → List Value} (hf : ∀ x, (f x).length = k) {w : World} {l : List α} {a : Addr} {c : Nat} (h1 : l.length ≤ c) (h2 : c ≤ maxLen) (h3 : l.length ≤ 281474976710656)
    (hc : ∀ (i j : Nat) x, l[i]? = some x → j < k → w.cell? (a.add (i * k + j)) = (f x)[j]?) : Row k w (.slice (some a) l.length c) l.length (l.flatMap f) := by
  refine ⟨⟨some a, c, rfl, h1, h2, h3, (fun e => by cases e), fun hx => ?_⟩, flat_len k f hf l⟩
  rw [flat_len k f hf] at hx
  obtain ⟨b, off, spot⟩ := a
  cases l with
  | nil => simp at hx
  | cons y l =>
    have h0 := hc 0 0 y rfl hk
    have hy : 0 < (f y).length := by rw [hf]; exact hk
    rw [List.getElem?_eq_getElem hy] at h0
    have hspot : spot = none := by simpa [Addr.add] using World.cell?_spot h0
    subst hspot
    refine ⟨b, off, rfl, fun n u hu => ?_⟩
    have hn : n = n / k * k + n % k := by rw [Nat.mul_comm]; exact (Nat.div_add_mod n k).symm
    have hr : n % k < k := Nat.mod_lt _ hk
    rw [hn, flat_get k f hf _ _ _ hr] at hu
    obtain ⟨x, hx1, hx2⟩ := Option.bind_eq_some_iff.1 hu
    have := hc _ _ x hx1 hr
    rw [Addr.add_lit, ← hn] at this
    rw [this]; exact hx2

theorem bulk_all {H α : Type} (f : α → DataW H) (g : α → Nat) (l : List α) (h : ∀ x ∈ l, g x ≤ Rows.uptoBulk (f x)) : (l.map g).sum ≤ Rows.uptoBulkAll (l.map f) := by
  induction l with
  | nil => simp
  | cons x l ih =>
    simp only [List.map_cons, List.sum_cons, Rows.uptoBulkAll]
    have := h x (by simp)
    have := ih (fun y hy => h y (by simp [hy]))
    omega
theorem Row.same {sz : Nat} {w w' : World} {v : Value} {n : Nat} {xs : List Value} (hs : 0 < sz) (h : Row sz w v n xs) (hb : 0 < n → ∀ b, v.ownBlock = some b → b < w.heap.size → w'.heap[b]? = w.heap[b]?) : Row sz w' v n xs := by
  obtain ⟨⟨a, c, rfl, h1, h2, h0, hz, h3⟩, h4⟩ := h
  refine ⟨⟨a, c, rfl, h1, h2, h0, hz, fun hx => ?_⟩, h4⟩
  obtain ⟨b, off, rfl, h9⟩ := h3 hx
  refine ⟨b, off, rfl, fun j u hj => ?_⟩
  have hc := h9 j u hj
  have hn : 0 < n := by
    rcases Nat.eq_zero_or_pos n with e | e
    · rw [h4, e, Nat.zero_mul] at hx; omega
    · exact e
  rw [World.cell?_of_block (a := ⟨b, off + j, none⟩) (hb hn b rfl (World.block_lt_of_cell? _ _ hc))]
  exact hc
/-- The block of a row that isn't empty is there. -/
theorem Row.blk {sz : Nat} {w : World} {v : Value} {n : Nat} {xs : List Value} (hs : 0 < sz) (h : Row sz w v n xs) (hn : 0 < n) {b : Nat} (hb : v.ownBlock = some b) : b < w.heap.size := by
  obtain ⟨⟨a, c, rfl, h1, h2, h0, hz, h3⟩, h4⟩ := h
  have hx : 0 < xs.length := by rw [h4]; exact Nat.mul_pos hn hs
  obtain ⟨b', off, rfl, h9⟩ := h3 hx
  have e : b' = b := by simpa [Value.ownBlock] using hb
  subst e
  have hc := h9 0 _ (List.getElem?_eq_getElem hx)
  exact World.block_lt_of_cell? _ _ hc
theorem lt_of_some {w : World} {k : Nat} {o : Obj} (h : w.heap[k]? = some o) : k < w.heap.size := by
  rcases Nat.lt_or_ge k w.heap.size with h' | h'
  · exact h'
  · simp [Array.getElem?_eq_none h'] at h
theorem own_same {w w' : World} {B : Nat} {e : TypeId} {sz : Nat} {v : Value} {n : Nat} {xs : List Value} (h : w.ownsRow B e sz v n xs) (hb : ∀ b, v.ownBlock = some b → w'.heap[b]? = w.heap[b]?) : w'.ownsRow B e sz v n xs := by
  obtain ⟨h1, h2⟩ := h
  refine ⟨h1, ?_⟩
  rcases h2 with h2 | ⟨g, cap, cur, hv, hg, hh, q⟩
  · exact .inl h2
  · exact .inr ⟨g, cap, cur, hv, hg, by rw [hb g (by rw [hv]; rfl)]; exact hh, q⟩
/-- The length of an owned row. -/
theorem own_len {P : Program} {w : World} {B : Nat} {e : TypeId} {sz : Nat} {v : Value} {n : Nat} {xs : List Value} (h : w.ownsRow B e sz v n xs) (t ty : TypeId) (ht : P.underlying t = some (.slice e)) (X : World) : (Builtin.len_ #[t] ty #[v]).run P X = .ok (.int .i64 n) X := by
  rcases h.2 with ⟨rfl, rfl⟩ | ⟨g, cap, cur, rfl, _⟩ <;> simp [Builtin.len_, run_underlying ht, goInt]
theorem own_at {P : Program} {t e : TypeId} {sz : Nat} (ht : P.underlying t = some (.slice e)) (hs : ∀ W, (sizeOf e).run P W = .ok sz W) (g n cap i : Nat) (hi : i < n) (X : World) : (Instr.indexAt t (.slice (some ⟨g, 0, none⟩) n cap) (.int .i64 i)).run P X = .ok (.pointer (some ⟨g, i * sz, none⟩)) X := by
  simp [Instr.indexAt, asIntOf, run_underlying ht, hs, Addr.add_lit]
  intro hh; omega
theorem snoc_cases {α : Type} (l : List α) : l = [] ∨ ∃ a x, l = a ++ [x] := by
  rcases List.eq_nil_or_concat l with h | ⟨a, x, h⟩
  · exact .inl h
  · exact .inr ⟨a, x, by rw [h, List.concat_eq_append]⟩
theorem cut_run {P : Program} {t e : TypeId} {sz : Nat} (ht : P.underlying t = some (.slice e)) (hs : ∀ W, (sizeOf e).run P W = .ok sz W) (g n cap k : Nat) (hk : k ≤ cap) (hc : 0 < cap) (X : World) :
    (Instr.slice t (.slice (some ⟨g, 0, none⟩) n cap) none (some (.int .i64 k)) none).run P X = .ok (.slice (some ⟨g, 0, none⟩) k cap) X := by
  have h1 : (k : Int) ≤ (cap : Int) := by omega
  have h2 : cap ≠ 0 := by omega
  simp [Instr.slice, run_underlying ht, Instr.sliceBounds, run_sliceBound, sliced, hs, h1, h2, Addr.add_lit]
theorem own_cut {w : World} {B : Nat} {e : TypeId} {sz g n cap k : Nat} {xs : List Value} (h : w.ownsRow B e sz (.slice (some ⟨g, 0, none⟩) n cap) n xs) (hk : k ≤ n) :
    w.ownsRow B e sz (.slice (some ⟨g, 0, none⟩) k cap) k (xs.take (k * sz)) := by
  obtain ⟨h1, h2⟩ := h
  have hle : k * sz ≤ n * sz := Nat.mul_le_mul_right _ hk
  rcases h2 with ⟨h2, _⟩ | ⟨g', cap', cur, hv, hb, hg, hn, hm, hsz, ht⟩
  · cases h2
  · injection hv with a1 a2 a3
    injection a1 with a1
    injection a1 with a1
    subst a1 a3
    refine ⟨by rw [List.length_take, h1]; omega, .inr ⟨g, cap, cur, rfl, hb, hg, by omega, hm, hsz, ?_⟩⟩
    rw [← ht, List.take_take, Nat.min_eq_left hle]
theorem new_cells (w : World) (cs : Array Value) (e : TypeId) (B : Nat) (hB : B = w.heap.size) : ∀ j u, cs.toList[j]? = some u → (w.alloc (.cells cs e)).cell? ((⟨B, 0, none⟩ : Addr).add j) = some u := by
  intro j u hj
  subst hB
  have hn := heap_alloc_new w (.cells cs e)
  rw [Addr.add_lit]
  simp only [World.cell?, hn]
  simpa using hj

end Go.Proofs.YtkmdclfkmmlloaaGreatDoor.Xp
