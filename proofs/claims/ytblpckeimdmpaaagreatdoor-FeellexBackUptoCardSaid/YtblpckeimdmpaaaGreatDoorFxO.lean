/- Layer 8: rows of FEEL's tokens as arguments. -/
import Derived.Test.YtblpckeimdmpaaaGreatDoorFxY
import Derived.Test.YtblpckeimdmpaaaGreatDoorOpen
import Derived.Test.YtblpckeimdmpaaaGreatDoorRows
import Derived.Deep.Fields
set_option linter.unusedVariables false
set_option linter.unusedSimpArgs false
namespace Go.Proofs.YtblpckeimdmpaaaGreatDoor.Fx
open Go Go.Proofs.YtblpckeimdmpaaaGreatDoor Go.ChangeShapes Go.WideShapes Go.ChangeAt Go.RowKit Go.Deep

theorem flat_len {α β : Type} (k : Nat) (f : α → List β) (hf : ∀ x, (f x).length = k) (l : List α) : (l.flatMap f).length = l.length * k := by
  induction l with
  | nil => simp
  | cons x l ih => rw [List.flatMap_cons, List.length_append, hf, ih, List.length_cons, Nat.succ_mul]; omega
/-- A row, piece by piece. -/
theorem row_flat {α : Type} {k : Nat} (hk : 0 < k) {f : α → List Value} (hf : ∀ x, (f x).length = k) {w : World} {l : List α} {a : Addr} {c : Nat} (h1 : l.length ≤ c) (h2 : c ≤ maxLen) (h3 : l.length ≤ 281474976710656)
    (hc : ∀ (i j : Nat) x, l[i]? = some x → j < k → w.cell? (a.add (i * k + j)) = (f x)[j]?) : Row k w (.slice (some a) l.length c) l.length (l.flatMap f) := by
  refine ⟨⟨some a, c, rfl, h1, h2, h3, (fun e => by cases e), fun hx => ?_⟩, flat_len k f hf l⟩
  rw [flat_len k f hf] at hx
  obtain ⟨b, off, spot⟩ := a
  cases l with
  | nil => simp at hx
  | cons y l =>
    have h0 := hc 0 0 y rfl hk
    have hy : 0 < (f y).length := by rw [hf]; exact hk
    rw [List.getElem?_eq_getElem hy] at h0
    have hspot : spot = none := by simpa [Addr.add] using World.cell?_spot h0
    subst hspot
    refine ⟨b, off, rfl, fun n u hu => ?_⟩
    have hn : n = n / k * k + n % k := by rw [Nat.mul_comm]; exact (Nat.div_add_mod n k).symm
    have hr : n % k < k := Nat.mod_lt _ hk
    rw [hn, flat_get k f hf _ _ _ hr] at hu
    obtain ⟨x, hx1, hx2⟩ := Option.bind_eq_some_iff.1 hu
    have := hc _ _ x hx1 hr
    rw [Addr.add_lit, ← hn] at this
    rw [this]; exact hx2

def lexMass (p : Lz) : Nat := 1 + p.s.length
def lexsMass (l : List Lz) : Nat := (l.map lexMass).sum
def lexFit (p : Lz) : Prop := (Lit.int .i64 p.kind).wf = true ∧ (Lit.int .i64 p.place).wf = true
theorem sum_len {α : Type} (f : α → Nat) (h : ∀ x, 1 ≤ f x) (l : List α) : l.length ≤ (l.map f).sum := by
  induction l with
  | nil => simp
  | cons x l ih => simp only [List.map_cons, List.sum_cons, List.length_cons]; have := h x; omega
theorem bulk_all {H α : Type} (f : α → DataW H) (g : α → Nat) (l : List α) (h : ∀ x ∈ l, g x ≤ Rows.uptoBulk (f x)) : (l.map g).sum ≤ Rows.uptoBulkAll (l.map f) := by
  induction l with
  | nil => simp
  | cons x l ih =>
    simp only [List.map_cons, List.sum_cons, Rows.uptoBulkAll]
    have := h x (by simp)
    have := ih (fun y hy => h y (by simp [hy]))
    omega
theorem lexs_len (l : List Lz) : l.length ≤ lexsMass l := sum_len _ (fun p => by unfold lexMass; omega) l
section
variable {H : Type} {enc : TypeId × Value → H} {P : Program} {w : World} {base : Nat} {spare : Nat → Bool} {held : Bool}

theorem text_back (s : ByteArray) : text s.data.toList = s := by simp [text]

/-- One field's cells of a struct whose fields are a cell each. -/
theorem field_cell {fs : Array Field} (hone : oneCellFields P fs = true) {cs : List Value} {j : Nat} {f : Field} (hj : fs[j]? = some f) {n : Nat} {y : Option (DataW H × List MemPlace)} (hl : j < cs.length)
    (h : DataW.trod enc P w base spare held n f.type ((cs.drop f.offset).take (P.cellsOf f.type)) = y) : DataW.trod enc P w base spare held n f.type [cs[j]] = y := by
  obtain ⟨o, k⟩ := hone_of hone j f hj
  rw [o, k, take1_drop cs j undef hl] at h
  simpa [List.getD, List.getElem?_eq_getElem hl] using h

instance : Inhabited Lz := ⟨⟨0, 0, []⟩⟩

/-- Tokens of FEEL that are read. -/
theorem open_lexs {t e : TypeId} {f0 f1 f2 : Field} (ht : P.underlying t = some (.slice e)) (he : P.underlying e = some (.struct #[f0, f1, f2])) (hone : oneCellFields P #[f0, f1, f2] = true) (hC : P.cellsOf e = 3)
    (t0 : P.underlying f0.type = some (.int .i64)) (t1 : P.underlying f1.type = some (.int .i64)) (t2 : P.underlying f2.type = some .string) {fuel : Nat} {v : Value} {x : DataW H × List MemPlace}
    (h : DataW.trod enc P w base spare held fuel t [v] = some x) (hs : Rows.uptoBulk x.1 ≤ 281474976710656) : ∃ l : List Lz, Lexs w v l ∧ lexsMass l ≤ Rows.uptoBulk x.1 ∧ ∀ p ∈ l, lexFit p := by
  rcases open_slice ht h with ⟨hv, _⟩ | ⟨a, len, cap, m, n, D, Pl, hv, hb, hl, hm, hmm, rfl, hx⟩
  · obtain rfl : v = .slice none 0 0 := by simpa using hv
    exact ⟨[], Lexs.nil w, by simp [lexsMass], by simp⟩
  obtain rfl : v = .slice (some a) len cap := by simpa using hv
  have hlm : len ≤ m := by rw [hmm]; split <;> omega
  have each : ∀ i, i < len → ∃ p : Lz, (∀ j, j < 3 → w.cell? (a.add (i * 3 + j)) = (lzCells p)[j]?) ∧ D i = .agg [.lit (.int .i64 p.kind), .lit (.int .i64 p.place), .lit (.string p.s)] ∧ lexFit p := by
    intro i hi
    obtain ⟨cs', h1, h2⟩ := hx i (by omega)
    rw [hC] at h1
    obtain ⟨_, hlen, hcell⟩ := World.cells?_some h1
    obtain ⟨ys, k, _, hy, _, hyl, hf⟩ := DataW.trod_struct he h2
    match ys, hyl, cs', hlen with
    | [y0, y1, y2], _, [v0, v1, v2], _ =>
      obtain ⟨n0, e0, d0, w0⟩ := DataW.trod_int t0 (field_cell (cs := [v0, v1, v2]) hone (j := 0) rfl (by simp) (hf 0 f0 rfl))
      obtain ⟨n1, e1, d1, w1⟩ := DataW.trod_int t1 (field_cell (cs := [v0, v1, v2]) hone (j := 1) rfl (by simp) (hf 1 f1 rfl))
      obtain ⟨s2, e2, d2, _⟩ := DataW.trod_string t2 (field_cell (cs := [v0, v1, v2]) hone (j := 2) rfl (by simp) (hf 2 f2 rfl))
      simp only [List.getElem_cons_zero, List.getElem_cons_succ, List.cons.injEq, and_true] at e0 e1 e2
      subst e0 e1 e2 d0 d1 d2
      refine ⟨⟨n0, n1, s2.data.toList⟩, fun j hj => ?_, by simpa using congrArg Prod.fst hy, w0, w1⟩
      have := hcell j hj
      rw [add_add] at this
      rw [this]
      simp [lzCells, text_back]
  obtain ⟨p, hp⟩ := choose_lt each
  have hlen : ((List.range len).map p).length = len := by simp
  have hbulk : lexsMass ((List.range len).map p) ≤ Rows.uptoBulkAll ((List.range len).map D) := by
    unfold lexsMass
    rw [List.map_map]
    refine bulk_all D (lexMass ∘ p) _ fun i hi => ?_
    rw [(hp i (List.mem_range.1 hi)).2.1]
    simp [Rows.uptoBulk, Rows.uptoBulkAll, lexMass]
    omega
  have hle : Rows.uptoBulkAll ((List.range len).map D) ≤ Rows.uptoBulk (.slice ((List.range len).map D) ((List.range (m - len)).map fun j => D (len + j))) := by
    simp only [Rows.uptoBulk]; omega
  refine ⟨(List.range len).map p, ?_, Nat.le_trans hbulk hle, fun q hq => ?_⟩
  · unfold Lexs
    have := row_flat (k := 3) (by omega) (f := lzCells) (fun _ => rfl) (w := w) (l := (List.range len).map p) (a := a) (c := cap) (by omega) hm
      (by have := lexs_len ((List.range len).map p); simp only at hs; omega)
      (fun i j q hq hj => by
        have hi : i < len := by have := (List.getElem?_eq_some_iff.1 hq).1; rwa [hlen] at this
        have : q = p i := by simpa [hi] using hq.symm
        subst this
        exact (hp i hi).1 j hj)
    rw [hlen] at this
    rw [hlen]
    exact this
  · obtain ⟨i, hi, rfl⟩ := List.mem_map.1 hq
    exact (hp i (List.mem_range.1 hi)).2.2


/-- Tokens that came in. -/
theorem arg_lexs {t e : TypeId} {f0 f1 f2 : Field} {b0 : Nat} {v : Value} {d : DataW H} {ps : List MemPlace} (ht : P.underlying t = some (.slice e)) (he : P.underlying e = some (.struct #[f0, f1, f2])) (hone : oneCellFields P #[f0, f1, f2] = true) (hC : P.cellsOf e = 3)
    (t0 : P.underlying f0.type = some (.int .i64)) (t1 : P.underlying f1.type = some (.int .i64)) (t2 : P.underlying f2.type = some .string)
    (hval : Value.okWide P w .any b0 t v) (h : DataW.Trod enc P w 0 (fun _ => true) true t v d ps) (hs : Rows.uptoBulk d ≤ 281474976710656) : ∃ l : List Lz, Lexs w v l ∧ lexsMass l ≤ Rows.uptoBulk d ∧ ∀ p ∈ l, lexFit p := by
  obtain ⟨a, n, c, rfl⟩ := okWide_slice ht hval
  obtain ⟨fuel, hf⟩ := h
  exact open_lexs ht he hone hC t0 t1 t2 (x := (d, ps)) (by simpa [Value.cells] using hf) hs
end
end Go.Proofs.YtblpckeimdmpaaaGreatDoor.Fx
