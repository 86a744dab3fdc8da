/- Layer 14: rows of rows of numbers as arguments. -/
import Derived.Test.YtkpmkabddhpojaaOrMem
import Derived.Test.YtkpmkabddhpojaaOpen
import Derived.Test.YtkpmkabddhpojaaRows
import Derived.Deep.Fields
import Derived.SliceStrings
set_option linter.unusedVariables false
set_option linter.unusedSimpArgs false
namespace Go.Proofs.Ytkpmkabddhpojaa.Or
open Go Go.Proofs.Ytkpmkabddhpojaa Go.ChangeShapes Go.WideShapes Go.ChangeAt Go.RowKit Go.Deep

section
variable {H : Type} {enc : TypeId × Value → H} {P : Program} {w : World} {base : Nat} {spare : Nat → Bool} {held : Bool}
theorem bulk_lits (k : IntKind) : ∀ l : List Int, Rows.uptoBulkAll (lits k l : List (DataW H)) = l.length
  | [] => rfl
  | x :: l => by
    have := bulk_lits k l
    simp only [lits, List.map_cons, Rows.uptoBulkAll, Rows.uptoBulk, List.length_cons] at this ⊢
    omega
theorem bulk_sum {α : Type} (f : α → DataW H) (g : α → Nat) : ∀ (l : List α), (∀ x ∈ l, g x ≤ Rows.uptoBulk (f x)) → (l.map g).sum ≤ Rows.uptoBulkAll (l.map f)
  | [], _ => by simp [Rows.uptoBulkAll]
  | x :: l, h => by
    have h1 := bulk_sum f g l fun y hy => h y (List.mem_cons_of_mem _ hy)
    have h2 := h x (by simp)
    simp only [List.map_cons, List.sum_cons, Rows.uptoBulkAll]; omega
theorem open_ints_row {t e : TypeId} (ht : P.underlying t = some (.slice e)) (he : P.underlying e = some (.int .i64)) (hc : P.cellsOf e = 1) {fuel : Nat} {v : Value} {x : DataW H × List MemPlace}
    (h : DataW.trod enc P w base spare held fuel t [v] = some x) (hb : Rows.uptoBulk x.1 ≤ 281474976710656) : ∃ l : List Int, Row 1 w v l.length (l.map encI) ∧ l.length + 1 ≤ Rows.uptoBulk x.1 ∧ ∀ n ∈ l, (Lit.int .i64 n).wf = true := by
  rcases open_ints ht he hc h with ⟨hv, hx⟩ | ⟨a, len, cap, zs, hv, hbs, hl, hm, hlen, hx, hcell, hwf⟩
  · obtain rfl : v = .slice none 0 0 := by simpa using hv
    exact ⟨[], Row.nil 1 w, by rw [hx]; simp [Rows.uptoBulk], by simp⟩
  obtain rfl : v = .slice (some a) len cap := by simpa using hv
  have hsl : len ≤ zs.length := by rw [hlen]; split <;> omega
  have hll : (zs.take len).length = len := by simp; omega
  have hbk : len + 1 ≤ Rows.uptoBulk x.1 := by
    rw [hx]
    simp only [Rows.uptoBulk, bulk_lits, hll]; omega
  refine ⟨zs.take len, ?_, by rw [hll]; exact hbk, fun n hn => hwf n (List.mem_of_mem_take hn)⟩
  rw [hll]
  refine ⟨⟨some a, cap, rfl, hl, hm, by omega, (fun e => by cases e), fun h0 => ?_⟩, by rw [List.length_map, hll]; omega⟩
  rw [List.length_map, hll] at h0
  obtain ⟨b, off, spot⟩ := a
  have h1 := hcell 0 (by omega)
  have hspot : spot = none := by simpa [Addr.add] using World.cell?_spot h1
  subst hspot
  refine ⟨b, off, rfl, fun j u hj => ?_⟩
  have hjl : j < len := by
    have := (List.getElem?_eq_some_iff.1 hj).1
    rw [List.length_map, hll] at this; exact this
  have h2 := hcell j (by omega)
  rw [Addr.add_lit] at h2
  rw [h2]
  have hjs : j < zs.length := by omega
  have : ((zs.take len).map encI)[j]? = some (encI zs[j]) := by simp [hjl, hjs]
  rw [this] at hj
  rw [← hj]
  simp [hjs, encI]
theorem choose_row {n : Nat} {Q : Nat → List Int × Value → Prop} (h : ∀ i, i < n → ∃ p, Q i p) : ∃ f : Nat → List Int × Value, ∀ i, i < n → Q i (f i) :=
  ⟨fun i => if hi : i < n then (h i hi).choose else ([], .nilIface), fun i hi => by simp only [dif_pos hi]; exact (h i hi).choose_spec⟩
/-- Rows of numbers that came in. -/
theorem arg_needs {t e ei : TypeId} {b0 : Nat} {v : Value} {d : DataW H} {ps : List MemPlace} (ht : P.underlying t = some (.slice e)) (he : P.underlying e = some (.slice ei)) (hei : P.underlying ei = some (.int .i64)) (hC : P.cellsOf e = 1) (hCi : P.cellsOf ei = 1)
    (hval : Value.okWide P w .any b0 t v) (h : DataW.Trod enc P w 0 (fun _ => true) true t v d ps) (hs : Rows.uptoBulk d ≤ 281474976710656) :
    ∃ M : List (List Int), Nd encI (fun _ => True) w v M ∧ M.length + (M.map List.length).sum ≤ Rows.uptoBulk d := by
  obtain ⟨a, n, c, rfl⟩ := okWide_slice ht hval
  obtain ⟨fuel, hf⟩ := h
  rcases open_slice ht (x := (d, ps)) (by simpa [Value.cells] using hf) with ⟨hv, _⟩ | ⟨a', len, cap, m, k0, Dt, Pl, hv, hb, hl, hm, hmm, hd, hx⟩
  · obtain ⟨rfl, rfl, rfl⟩ : a = none ∧ n = 0 ∧ c = 0 := by simpa using hv
    exact ⟨[], ⟨[], RowD.of (Row.nil 1 w), fun i hi => by simp at hi⟩, by simp⟩
  obtain ⟨ha, rfl, rfl⟩ : a = some a' ∧ n = len ∧ c = cap := by simpa using hv
  subst ha
  have hd1 : d = .slice ((List.range n).map Dt) ((List.range (m - n)).map fun j => Dt (n + j)) := congrArg Prod.fst hd
  subst hd1
  have hlm : n ≤ m := by rw [hmm]; split <;> omega
  have hle : Rows.uptoBulkAll ((List.range n).map Dt) ≤ Rows.uptoBulk (.slice ((List.range n).map Dt) ((List.range (m - n)).map fun j => Dt (n + j))) := by
    simp only [Rows.uptoBulk]; omega
  have hone' : ∀ i, i < n → Rows.uptoBulk (Dt i) ≤ Rows.uptoBulkAll ((List.range n).map Dt) := fun i hi => by
    have : ∀ l : List Nat, i ∈ l → Rows.uptoBulk (Dt i) ≤ Rows.uptoBulkAll (l.map Dt) := by
      intro l
      induction l with
      | nil => simp
      | cons y l ih =>
        intro hm
        simp only [List.map_cons, Rows.uptoBulkAll]
        rcases List.mem_cons.1 hm with rfl | hm
        · omega
        · have := ih hm; omega
    exact this _ (List.mem_range.2 hi)
  have each : ∀ i, i < n → ∃ p : List Int × Value, w.cell? (a'.add i) = some p.2 ∧ Row 1 w p.2 p.1.length (p.1.map encI) ∧ p.1.length + 1 ≤ Rows.uptoBulk (Dt i) := by
    intro i hi
    obtain ⟨cs', h1, h2⟩ := hx i (by omega)
    rw [hC] at h1
    obtain ⟨_, hlen, hcell⟩ := World.cells?_some h1
    match cs', hlen with
    | [v0], _ =>
      obtain ⟨l, q1, q2, _⟩ := open_ints_row he hei hCi h2 (by have := hone' i hi; simp only at hs ⊢; omega)
      refine ⟨(l, v0), ?_, q1, q2⟩
      have := hcell 0 (by omega)
      simpa [Addr.add] using this
  obtain ⟨p, hp⟩ := choose_row each
  have hlen : ((List.range n).map fun i => (p i).1).length = n := by simp
  refine ⟨(List.range n).map fun i => (p i).1, ⟨(List.range n).map fun i => (p i).2, RowD.of ?_, fun i hi => ?_⟩, ?_⟩
  · rw [hlen]
    refine ⟨⟨some a', c, rfl, hl, hm, ?_, (fun e => by cases e), fun h0 => ?_⟩, by simp⟩
    · have : n ≤ Rows.uptoBulkAll ((List.range n).map Dt) := by
        have := bulk_sum Dt (fun _ => 1) (List.range n) (fun i hi => by have := (hp i (List.mem_range.1 hi)).2.2; omega)
        rw [show ((List.range n).map fun _ => 1).sum = n from by
          have : ∀ l : List Nat, (l.map fun _ => 1).sum = l.length := fun l => by
            induction l with
            | nil => rfl
            | cons y l ih => simp only [List.map_cons, List.sum_cons, ih, List.length_cons]; omega
          rw [this]; simp] at this
        exact this
      omega
    · have hn0 : 0 < n := by simpa using h0
      obtain ⟨b, off, spot⟩ := a'
      have h1 := (hp 0 hn0).1
      have hspot : spot = none := by simpa [Addr.add] using World.cell?_spot h1
      subst hspot
      refine ⟨b, off, rfl, fun j u hj => ?_⟩
      have hjn : j < n := by
        have := (List.getElem?_eq_some_iff.1 hj).1
        simpa using this
      have h2 := (hp j hjn).1
      rw [Addr.add_lit] at h2
      rw [h2]
      simpa [hjn] using hj
  · have hin : i < n := by rw [hlen] at hi; exact hi
    refine ⟨(p i).2, by simp [hin], ?_⟩
    have e1 : ((List.range n).map fun i => (p i).1)[i] = (p i).1 := by simp
    rw [e1]
    exact RowD.of (hp i hin).2.1
  · have h1 := bulk_sum Dt (fun i => (p i).1.length + 1) (List.range n) (fun i hi => (hp i (List.mem_range.1 hi)).2.2)
    have h2 : ((List.range n).map fun i => (p i).1.length + 1).sum = n + (((List.range n).map fun i => (p i).1).map List.length).sum := by
      rw [List.map_map]
      have : ∀ l : List Nat, (l.map fun i => (p i).1.length + 1).sum = l.length + (l.map (List.length ∘ fun i => (p i).1)).sum := by
        intro l
        induction l with
        | nil => rfl
        | cons y l ih => simp only [List.map_cons, List.sum_cons, ih, List.length_cons, Function.comp_apply]; omega
      rw [this]; simp
    rw [hlen]
    omega
theorem bulk_texts : ∀ ss : List ByteArray, ss.length ≤ Rows.uptoBulkAll (strs ss : List (DataW H))
  | [] => by simp
  | s :: ss => by
    have := bulk_texts ss
    simp only [strs, List.map_cons, Rows.uptoBulkAll, Rows.uptoBulk, List.length_cons] at this ⊢
    omega
/-- Names that came in. -/
theorem arg_names {t e : TypeId} {b0 : Nat} {v : Value} {d : DataW H} {ps : List MemPlace} (ht : P.underlying t = some (.slice e)) (he : P.underlying e = some .string) (hc : P.cellsOf e = 1)
    (hval : Value.okWide P w .any b0 t v) (h : DataW.Trod enc P w 0 (fun _ => true) true t v d ps) (hs : Rows.uptoBulk d ≤ 281474976710656) : ∃ l : List (List UInt8), Strs w v l ∧ l.length ≤ Rows.uptoBulk d := by
  obtain ⟨a, n, c, rfl⟩ := okWide_slice ht hval
  obtain ⟨fuel, hf⟩ := h
  rcases open_strings ht he hc (x := (d, ps)) (by simpa [Value.cells] using hf) with ⟨hv, hx⟩ | ⟨x, len, cap, ss, hv, hbs, hl, hm, hlen, hx, hcell, hmax⟩
  · obtain ⟨rfl, rfl, rfl⟩ : a = none ∧ n = 0 ∧ c = 0 := by simpa using hv
    exact ⟨[], Row.nil 1 w, by simp⟩
  obtain ⟨ha, rfl, rfl⟩ : a = some x ∧ n = len ∧ c = cap := by simpa using hv
  subst ha
  have hd : d = .slice (strs (ss.take n)) (strs (ss.drop n)) := congrArg Prod.fst hx
  subst hd
  have hsl : n ≤ ss.length := by rw [hlen]; split <;> omega
  have hll : ((ss.take n).map fun s => s.data.toList).length = n := by simp; omega
  have hbk : n ≤ Rows.uptoBulk (.slice (strs (ss.take n)) (strs (ss.drop n)) : DataW H) := by
    have := bulk_texts (H := H) (ss.take n)
    rw [List.length_take, Nat.min_eq_left hsl] at this
    simp only [Rows.uptoBulk]; omega
  refine ⟨(ss.take n).map fun s => s.data.toList, ?_, by rw [hll]; exact hbk⟩
  unfold Strs
  rw [hll]
  refine ⟨⟨some x, c, rfl, hl, hm, by omega, (fun e => by cases e), fun h0 => ?_⟩, by rw [strsOf_length, hll]; omega⟩
  rw [strsOf_length, hll] at h0
  obtain ⟨b, off, spot⟩ := x
  have h1 := hcell 0 (by omega)
  have hspot : spot = none := by simpa [Addr.add] using World.cell?_spot h1
  subst hspot
  refine ⟨b, off, rfl, fun j u hj => ?_⟩
  have hjl : j < n := by
    have := (List.getElem?_eq_some_iff.1 hj).1
    rw [strsOf_length, hll] at this; exact this
  have h2 := hcell j (by omega)
  rw [Addr.add_lit] at h2
  rw [h2]
  have hjs : j < ss.length := by omega
  have : (strsOf ((ss.take n).map fun s => s.data.toList))[j]? = some (.string ss[j]) := by
    simp [strsOf, hjl, hjs, List.getElem_take, text]
  rw [this] at hj
  rw [← hj]
  simp [hjs]
end
end Go.Proofs.Ytkpmkabddhpojaa.Or
