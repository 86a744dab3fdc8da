/- Layer 10: a way through an expression (trail) in memory; contracts of begin, deep. -/
import Derived.Test.YtkmdclfkmmlloaaGreatDoorXpMem
import Derived.Lib.Builder
import Derived.Deep.AppendLies
import Derived.Deep.RegionLaw
import Derived.Deep.LoopGhost
import Derived.Deep.QuietTactic
import Derived.BigQuiet
set_option linter.unusedVariables false
set_option linter.unusedSimpArgs false
namespace Go.Proofs.YtkmdclfkmmlloaaGreatDoor.Xp
open Go Go.Proofs.YtkmdclfkmmlloaaGreatDoor Go.RowKit
set_option maxRecDepth 100000

theorem undR : Tryz.prog.underlying 134 = some (.slice 23) := Tryz.underlying134
theorem sizR (W : World) : (sizeOf 23).run Tryz.prog W = .ok 1 W := Tryz.sizeOf23 W
theorem infoR : (Tryz.prog.info? 23).map (fun i => (i.zero, i.size, i.bytes)) = some (some (.slice none 0 0), 1, 24) := by kernel_rfl
/-- All old blocks but those of A are as they were. -/
structure Keep (A : Nat → Prop) (w w' : World) : Prop where
  os : w'.os = w.os
  tape : w'.tape = w.tape
  output : w'.output = w.output
  size : w.heap.size ≤ w'.heap.size
  block : ∀ b, b < w.heap.size → ¬ A b → w'.heap[b]? = w.heap[b]?
theorem Keep.refl (A : Nat → Prop) (w : World) : Keep A w w := ⟨rfl, rfl, rfl, Nat.le_refl _, fun _ _ _ => rfl⟩
theorem Keep.of_below {A : Nat → Prop} {w w' : World} (h : Below w.heap.size w w') : Keep A w w' := ⟨h.os, h.tape, h.output, h.size, fun b hb _ => h.block b hb⟩
theorem Keep.of_grown {A : Nat → Prop} {w w' : World} {o : Option Nat} (h : w.grownBy w' o) (ho : ∀ b, o = some b → A b) : Keep A w w' := ⟨h.os, h.tape, h.output, h.size, fun b hb hA => h.block b hb (fun e => hA (ho b e.symm))⟩
theorem Keep.trans {A A' : Nat → Prop} {w w1 w2 : World} (h : Keep A w w1) (k : Keep A' w1 w2) (hA : ∀ b, b < w.heap.size → A' b → A b) : Keep A w w2 :=
  ⟨k.os.trans h.os, k.tape.trans h.tape, k.output.trans h.output, Nat.le_trans h.size k.size, fun b hb hn => (k.block b (Nat.lt_of_lt_of_le hb h.size) (fun e => hn (hA b hb e))).trans (h.block b hb hn)⟩
theorem Keep.set {A : Nat → Prop} (w : World) (r i : Nat) (v : Value) (hr : A r) : Keep A w (w.setCell ⟨r, i, none⟩ v) :=
  ⟨rfl, rfl, rfl, by simp [World.setCell], fun b _ hA => Below.heap_setCell w ⟨r, i, none⟩ v b (fun e => hA (by rw [e]; exact hr))⟩
theorem Keep.alloc {A : Nat → Prop} (w : World) (o : Obj) : Keep A w (w.alloc o) := Keep.of_below (ba (b0 w) o)
theorem Keep.drew {A : Nat → Prop} {w w' : World} (h : Keep A w w') (n : Nat) : Keep A w (w'.drewN n) := ⟨h.os, h.tape, h.output, h.size, h.block⟩
theorem Keep.below {A : Nat → Prop} {W w w' : World} (hb : Below W.heap.size W w) (h : Keep A w w') (hA : ∀ b, A b → W.heap.size ≤ b) : Below W.heap.size W w' :=
  ⟨h.os.trans hb.os, h.tape.trans hb.tape, h.output.trans hb.output, Nat.le_trans hb.size h.size, fun b hl => (h.block b (Nat.lt_of_lt_of_le hl hb.size) (fun e => by have := hA b e; omega)).trans (hb.block b hl)⟩
theorem Keep.cell {A : Nat → Prop} {w w' : World} (h : Keep A w w') {b : Nat} {x : Obj} (hx : w.heap[b]? = some x) (hA : ¬ A b) : w'.heap[b]? = some x :=
  (h.block b (lt_of_some hx) hA).trans hx
/-- What a way may change. -/
def Act (tb : Nat) (v : Value) (b : Nat) : Prop := b = tb ∨ v.ownBlock = some b
/-- Expressions in a row that lies in an older world, or in a block of its own; what is within them lies in the older world. -/
def Ent (V : World) (s1 : Nat) (w : World) (v : Value) (l : List Ex) : Prop :=
  ∃ r : List (Ex × Value × Value), r.map (·.1) = l ∧ Row 4 w v r.length (r.flatMap ecells) ∧ (∀ x ∈ r, IsE V x.1 x.2.1 x.2.2) ∧ (0 < r.length → ∀ b, v.ownBlock = some b → b < V.heap.size ∨ b = s1)
theorem Ent.keep {V w w' : World} {s1 : Nat} {A : Nat → Prop} {v : Value} {l : List Ex} (h : Ent V s1 w v l) (hw : Keep A w w') (hA : ∀ b, A b → V.heap.size ≤ b ∧ b ≠ s1) : Ent V s1 w' v l := by
  obtain ⟨r, h1, h2, h3, h4⟩ := h
  refine ⟨r, h1, Row.same (by omega) h2 (fun hn b hb hl => hw.block b hl (fun e => ?_)), h3, h4⟩
  have := hA b e
  rcases h4 hn b hb with g | g
  · omega
  · exact this.2 g
theorem Ent.of {V w : World} {s1 : Nat} {v : Value} {l : List Ex} (h : Exs V v l) (hb : Below V.heap.size V w) : Ent V s1 w v l := by
  obtain ⟨r, h1, h2, h3⟩ := h
  exact ⟨r, h1, h2.below hb (Nat.le_refl _), h3, fun hn b hc => .inl (Row.blk (by omega) h2 hn hc)⟩
theorem Ent.one {V w : World} {s1 : Nat} {v : Value} {l : List Ex} (h : Ent V s1 w v l) : v.oneCell' = true := by
  obtain ⟨r, _, ⟨⟨a, c, rfl, _⟩, _⟩, _⟩ := h
  rfl
theorem Ent.len {V w : World} {s1 : Nat} {v : Value} {l : List Ex} (h : Ent V s1 w v l) (ty : TypeId) (W : World) : (Builtin.len_ #[23] ty #[v]).run Tryz.prog W = .ok (.int .i64 l.length) W := by
  obtain ⟨r, rfl, h2, _⟩ := h
  rw [List.length_map]
  exact Row.len h2 23 ty 25 undE W
theorem Ent.form {V w : World} {s1 : Nat} {v : Value} {l : List Ex} (h : Ent V s1 w v l) : ∃ o n c, v = .slice o n c := by
  obtain ⟨r, _, ⟨⟨a, c, h1, _⟩, _⟩, _⟩ := h
  exact ⟨_, _, _, h1⟩
/-- A row cut lies where it lay. -/
theorem cut_own {w : World} {v v' : Value} {n : Nat} {xs : List Value} (h : Row 4 w v n xs) (hn : 0 < n) (hrun : ∀ W, (Instr.slice 23 v (some (.int .i64 1)) none none).run Tryz.prog W = .ok v' W) {c : Nat} (hc : v'.ownBlock = some c) : v.ownBlock = some c := by
  obtain ⟨⟨a, cp, hv, h1, h2, h3, h4, h5⟩, h6⟩ := h
  obtain ⟨b', off, rfl, h9⟩ := h5 (by rw [h6]; omega)
  subst hv
  have h7 := hrun w
  have h8 : (1 : Int) ≤ (n : Int) := by omega
  have h10 : ¬ (n : Int) < 1 := by omega
  simp [Instr.slice, run_underlying undE, Instr.sliceBounds, run_sliceBound, sliced, sizE, h8, h10] at h7
  subst h7
  by_cases hcp : cp = 1
  · simp [hcp, Value.ownBlock] at hc ⊢
    exact hc
  · simp [hcp, Value.ownBlock, Addr.add_lit] at hc ⊢
    exact hc
/-- The first one, and the others. -/
theorem Ent.cons {V w : World} {s1 : Nat} {v : Value} {x : Ex} {xs : List Ex} (h : Ent V s1 w v (x :: xs)) :
    ∃ v' b o nv pv, (∀ W, (Instr.slice 23 v (some (.int .i64 1)) none none).run Tryz.prog W = .ok v' W) ∧ (∀ W, (Instr.indexAt 23 v (.int .i64 0)).run Tryz.prog W = .ok (.pointer (some ⟨b, o, none⟩)) W) ∧
      (∀ j, j < 4 → w.cell? ⟨b, o + j, none⟩ = (ecells (x, nv, pv))[j]?) ∧ IsE V x nv pv ∧ (b < V.heap.size ∨ b = s1) ∧ Ent V s1 w v' xs := by
  obtain ⟨r, h1, h2, h3, h4⟩ := h
  cases r with
  | nil => simp at h1
  | cons y r =>
    simp only [List.map_cons, List.cons.injEq] at h1
    obtain ⟨rfl, rfl⟩ := h1
    obtain ⟨v', _, hrun, _, hrow⟩ := Row.sub h2 1 (y :: r).length (by simp) (Nat.le_refl _) 23 25 undE sizE
    obtain ⟨b, o, a1, a2⟩ := Row.at h2 (by omega) 0 (by simp) 23 25 undE sizE
    have e1 : (((y :: r).flatMap ecells).drop (1 * 4)).take (((y :: r).length - 1) * 4) = r.flatMap ecells := by
      have h6 := flat_len 4 ecells (fun _ => rfl) r
      rw [List.flatMap_cons, show 1 * 4 = (ecells y).length from rfl, List.drop_left]
      rw [List.length_cons, Nat.add_sub_cancel, ← h6, List.take_length]
    rw [e1, List.length_cons, Nat.add_sub_cancel] at hrow
    have hrun' : ∀ W, (Instr.slice 23 v (some (.int .i64 1)) none none).run Tryz.prog W = .ok v' W := fun W => by simpa using hrun rfl .i64 W
    have hb : v.ownBlock = some b := by
      obtain ⟨⟨a, cp, hv, h5⟩, h6⟩ := h2
      obtain ⟨b', off, rfl, h9⟩ := h5.2.2.2.2 (by rw [h6]; simp)
      have h7 := a1 .i64 w
      subst hv
      simp [Instr.indexAt, asIntOf, run_underlying undE, sizE, Addr.add_lit] at h7
      rw [← h7.1]; rfl
    refine ⟨v', b, o, y.2.1, y.2.2, hrun', fun W => by simpa using a1 .i64 W, fun j hj => ?_, h3 y (by simp), h4 (by simp) b hb, r, rfl, hrow, fun z hz => h3 z (by simp [hz]), fun hr c hc => h4 (by simp) c (cut_own h2 (by simp) hrun' hc)⟩
    have g : ((y :: r).flatMap ecells)[0 * 4 + j]? = (ecells y)[j]? := by
      rw [flat_get 4 ecells (fun _ => rfl) (y :: r) 0 j hj]; rfl
    have hlt : j < (ecells y).length := hj
    rw [List.getElem?_eq_getElem hlt] at g
    rw [a2 j _ hj g]
    exact (List.getElem?_eq_getElem hlt).symm
/-- A way through an expression: rows of parts that are left, the innermost first. -/
structure Trail (V : World) (s1 tb : Nat) (v : Value) (r : List (List Ex)) (w : World) : Prop where
  old : Below V.heap.size V w
  low : V.heap.size ≤ tb
  top : V.heap.size ≤ s1 ∧ s1 < w.heap.size ∧ ¬ Act tb v s1
  cur : w.heap[tb]? = some (.cells #[v] 136 (0, 0))
  ne : v.ownBlock ≠ some tb
  has : ∃ st : List (List Ex × Value), st.map (·.1) = r.reverse ∧ w.ownsRow V.heap.size 23 1 v st.length (st.map (·.2)) ∧ ∀ x ∈ st, Ent V s1 w x.2 x.1
section
variable {V w w' : World} {s1 tb : Nat} {v : Value} {r : List (List Ex)}
theorem Trail.lt (h : Trail V s1 tb v r w) : tb < w.heap.size := lt_of_some h.cur
theorem Trail.own (h : Trail V s1 tb v r w) {b : Nat} (hb : v.ownBlock = some b) : V.heap.size ≤ b ∧ b < w.heap.size := by
  obtain ⟨st, _, h2, _⟩ := h.has
  exact h2.lt b hb
theorem Trail.act (h : Trail V s1 tb v r w) {b : Nat} (hb : Act tb v b) : V.heap.size ≤ b ∧ b < w.heap.size ∧ b ≠ s1 := by
  have hne : b ≠ s1 := fun e => h.top.2.2 (e ▸ hb)
  rcases hb with rfl | hb
  · exact ⟨h.low, h.lt, hne⟩
  · exact ⟨(h.own hb).1, (h.own hb).2, hne⟩
theorem Trail.keep {A : Nat → Prop} (h : Trail V s1 tb v r w) (hk : Keep A w w') (hA : ∀ b, A b → V.heap.size ≤ b ∧ b ≠ s1 ∧ ¬ Act tb v b) : Trail V s1 tb v r w' := by
  obtain ⟨st, h1, h2, h3⟩ := h.has
  refine ⟨hk.below h.old (fun b hb => (hA b hb).1), h.low, ⟨h.top.1, Nat.lt_of_lt_of_le h.top.2.1 hk.size, h.top.2.2⟩, hk.cell h.cur (fun c => (hA _ c).2.2 (.inl rfl)), h.ne, st, h1, own_same h2 (fun b hb => hk.block b (h2.lt b hb).2 (fun c => (hA b c).2.2 (.inr hb))), fun x hx => (h3 x hx).keep hk (fun b hb => ⟨(hA b hb).1, (hA b hb).2.1⟩)⟩
theorem Trail.later (h : Trail V s1 tb v r w) (hb : Below w.heap.size w w') : Trail V s1 tb v r w' :=
  h.keep (A := fun _ => False) (Keep.of_below hb) (fun _ c => c.elim)
theorem Trail.drew (h : Trail V s1 tb v r w) (n : Nat) : Trail V s1 tb v r (w.drewN n) := h.later ⟨rfl, rfl, rfl, Nat.le_refl _, fun _ _ => rfl⟩
end
set_option maxHeartbeats 1000000 in
theorem begin_any (V : World) (e : Ex) (ao : Option Addr) (an ac : Nat) (po : Option Addr) (pn pc : Nat) (w : World) (h : IsE V e (.slice ao an ac) (.slice po pn pc)) (hV : Below V.heap.size V w) :
    Calls Tryz.prog 86 #[exV e (.slice ao an ac) (.slice po pn pc)] w fun r w' => ∃ s1 tb v, r = .returned (.pointer (some ⟨tb, 0, none⟩)) ∧ Trail V s1 tb v [[e]] w' ∧ Below w.heap.size w w' ∧ ∀ c, c = s1 ∨ Act tb v c → w.heap.size ≤ c := by
  obtain ⟨w1, hw1⟩ : ∃ w1, w.alloc (.cells #[.int .i64 e.kind, .string (text e.s), .slice ao an ac, .slice po pn pc] 25) = w1 := ⟨_, rfl⟩
  have B1 : Below w.heap.size w w1 := by rw [← hw1]; exact ba (b0 w) _
  have z1 : w1.heap.size = w.heap.size + 1 := by rw [← hw1]; simp
  obtain ⟨w2, hw2⟩ : ∃ w2, w1.alloc (.cells #[.int .i64 e.kind, .string (text e.s), .slice ao an ac, .slice po pn pc] 25) = w2 := ⟨_, rfl⟩
  have hx := Row.ofBuild (sz := 4) w1 #[.int .i64 e.kind, .string (text e.s), .slice ao an ac, .slice po pn pc] 25 1 rfl (by omega)
  rw [hw2, z1] at hx
  have B2 : Below w1.heap.size w1 w2 := by rw [← hw2]; exact ba (b0 w1) _
  have z2 : w2.heap.size = w.heap.size + 2 := by rw [← hw2]; simp [z1]
  have hvw := hV.size
  have hT : Trail V (w.heap.size + 1) (w.heap.size + 3) (.slice (some ⟨w.heap.size + 2, 0, none⟩) 1 1) [[e]] ((w2.alloc (.cells #[.slice (some ⟨w.heap.size + 1, 0, none⟩) 1 1] 23)).alloc (.cells #[.slice (some ⟨w.heap.size + 2, 0, none⟩) 1 1] 136)) := by
    have B3 := ba (ba (b0 w2) (.cells #[.slice (some ⟨w.heap.size + 1, 0, none⟩) 1 1] 23)) (.cells #[.slice (some ⟨w.heap.size + 2, 0, none⟩) 1 1] 136)
    have BV : Below V.heap.size V w2 := hV.trans ((bt B1 B2).mono hvw)
    refine ⟨BV.trans (B3.mono BV.size), by omega, ⟨by omega, by simp; omega, ?_⟩, ?_, by simp [Value.ownBlock], [([e], .slice (some ⟨w.heap.size + 1, 0, none⟩) 1 1)], rfl, ?_, ?_⟩
    · rintro (c | c)
      · omega
      · simp [Value.ownBlock] at c
    · have := heap_alloc_new (w2.alloc (.cells #[.slice (some ⟨w.heap.size + 1, 0, none⟩) 1 1] 23)) (.cells #[.slice (some ⟨w.heap.size + 2, 0, none⟩) 1 1] 136)
      rw [World.size_alloc, z2] at this
      exact this
    · have := World.ownsRow_lit (size := 1) (base := V.heap.size) (e := 23) w2 #[.slice (some ⟨w.heap.size + 1, 0, none⟩) 1 1] 1 (by omega) (by unfold maxLen; omega) rfl
      rw [z2] at this
      exact owns_later this (ba (b0 _) _)
    · intro x hx'
      rw [List.mem_singleton] at hx'
      subst hx'
      refine ⟨[(e, .slice ao an ac, .slice po pn pc)], rfl, hx.below B3 (Nat.le_refl _), fun x hx => by rw [List.mem_singleton] at hx; subst hx; exact h, fun _ b hb => .inr (by simpa [Value.ownBlock] using hb.symm)⟩
  have HT := hid hT
  have HB := hid (bt (bt B1 B2) (ba (ba (b0 w2) (.cells #[.slice (some ⟨w.heap.size + 1, 0, none⟩) 1 1] 23)) (.cells #[.slice (some ⟨w.heap.size + 2, 0, none⟩) 1 1] 136)))
  have HW := hid (hw2)
  have HW1 := hid (hw1)
  have HF := hid (show ∀ c, c = w.heap.size + 1 ∨ Act (w.heap.size + 3) (.slice (some ⟨w.heap.size + 2, 0, none⟩) 1 1) c → w.heap.size ≤ c from fun c hc => by
    rcases hc with hc | hc | hc
    · omega
    · omega
    · have : w.heap.size + 2 = c := by simpa [Value.ownBlock] using hc
      omega)
  clear h hx hT B1 B2 hw1 hw2 z1 z2 hV hvw
  unfold exV
  go_enter Tryz.func86, Tryz.ntmps86
  go_wp2
  go_ret
  have hT' := HT.out
  have hB' := HB.out
  rw [← HW.out, ← HW1.out] at hT' hB'
  exact ⟨_, _, _, rfl, hT', hB', HF.out⟩
theorem deep_any {V : World} {s1 tb : Nat} {v : Value} {r : List (List Ex)} (w : World) (h : Trail V s1 tb v r w) (hr : r.length ≤ 1000000000) :
    Calls Tryz.prog 88 #[.pointer (some ⟨tb, 0, none⟩)] w fun e w' => e = .returned (.int .i64 ((r.length : Int) - 1)) ∧ w' = w := by
  obtain ⟨st, h1, h2, h3⟩ := h.has
  have hl : st.length = r.length := by have := congrArg List.length h1; simpa using this
  have olen := own_len (P := Tryz.prog) h2 134 3 undR
  have c0 : w.cell? ⟨tb, 0, none⟩ = some v := by rw [Lib.cell_of_heap h.cur]; rfl
  rw [hl] at olen
  have hw : wrap64 ((r.length : Int) - 1) = (r.length : Int) - 1 := IntWalk.wrap64_in _ ⟨by omega, by omega⟩
  clear h h1 h2 h3 hl
  go_enter Tryz.func88, Tryz.ntmps88
  go_wp2
  go_ret
  exact ⟨rfl, rfl⟩
end Go.Proofs.YtkmdclfkmmlloaaGreatDoor.Xp
