/- Layer 14: numbers, and rows of rows of numbers, in memory; what stays when certain blocks change. -/
import Derived.Test.YtkpmkabddhpojaaOrMath
import Derived.Test.YtkpmkabddhpojaaApp
import Derived.Maps.AppendAt
import Derived.Laws.OwnMore
set_option linter.unusedVariables false
set_option linter.unusedSimpArgs false
namespace Go.Proofs.Ytkpmkabddhpojaa.Or
open Go Go.Proofs.Ytkpmkabddhpojaa Go.RowKit
set_option maxRecDepth 100000

def encI (k : Int) : Value := .int .i64 k
def encN (k : Nat) : Value := .int .i64 (k : Int)
abbrev nums (l : List Nat) : List Value := l.map encN
abbrev bools (l : List Bool) : List Value := l.map Value.bool
theorem nums_int (l : List Nat) : (l.map fun k : Nat => (k : Int)).map encI = nums l := by simp [encI, encN, Function.comp_def]

theorem lt_of_at {w : World} {b : Nat} {x : Obj} (h : w.heap[b]? = some x) : b < w.heap.size := (Array.getElem?_eq_some_iff.1 h).1

/-- A row in those blocks. -/
def RowD (D : Nat → Prop) (w : World) (v : Value) (n : Nat) (xs : List Value) : Prop := Row 1 w v n xs ∧ ∀ b o k c, v = .slice (some ⟨b, o, none⟩) k c → 0 < k → D b
section
variable {D D' : Nat → Prop} {w w' : World} {n : Nat} {v : Value} {xs : List Value}
theorem RowD.same (h : RowD D w v n xs) (hs : ∀ b, D b → b < w.heap.size → w'.heap[b]? = w.heap[b]?) : RowD D w' v n xs := by
  obtain ⟨⟨⟨a, c, rfl, h1, h2, h0, hn, h3⟩, h4⟩, h5⟩ := h
  refine ⟨⟨⟨a, c, rfl, h1, h2, h0, hn, fun hx => ?_⟩, h4⟩, h5⟩
  obtain ⟨b, off, rfl, h9⟩ := h3 hx
  have hD := h5 b off n c rfl (by omega)
  refine ⟨b, off, rfl, fun j u hj => ?_⟩
  have := h9 j u hj
  have hl := World.block_lt_of_cell? _ _ this
  rw [← this]
  simp only [World.cell?, hs b hD hl]
theorem RowD.mono (h : RowD D w v n xs) (hD : ∀ b, D b → D' b) : RowD D' w v n xs := ⟨h.1, fun b o k c e hk => hD b (h.2 b o k c e hk)⟩
theorem RowD.lt (h : RowD D w v n xs) : RowD (fun b => D b ∧ b < w.heap.size) w v n xs := by
  refine ⟨h.1, fun b o k c e hk => ⟨h.2 b o k c e hk, ?_⟩⟩
  obtain ⟨⟨⟨a, c', e', h1, h2, h0, hn, h3⟩, h4⟩, h5⟩ := h
  rw [e] at e'
  injection e' with e1 e2 e3
  subst e1 e2 e3
  have hl : 0 < xs.length := by omega
  obtain ⟨b', off, e1, h9⟩ := h3 hl
  injection e1 with e1
  injection e1 with e1 e2
  subst e1 e2
  have := h9 0 _ (List.getElem?_eq_getElem hl)
  exact World.block_lt_of_cell? _ _ this
theorem RowD.of (h : Row 1 w v n xs) : RowD (fun _ => True) w v n xs := ⟨h, fun _ _ _ _ _ _ => trivial⟩
/-- A row that the call owns. -/
theorem RowD.owns {B : Nat} {e : TypeId} (h : w.ownsRow B e 1 v n xs) (hn : n ≤ 281474976710656) : RowD (fun b => v.ownBlock = some b) w v n xs :=
  ⟨Row.ofOwns h hn, fun b o k c e hk => by rw [e]; rfl⟩
end

/-- Rows of rows. -/
def Nd {α : Type} (enc : α → Value) (D : Nat → Prop) (w : World) (v : Value) (N : List (List α)) : Prop :=
  ∃ vs : List Value, RowD D w v N.length vs ∧ ∀ i (h : i < N.length), ∃ x, vs[i]? = some x ∧ RowD D w x N[i].length (N[i].map enc)
section
variable {α : Type} {enc : α → Value} {D D' : Nat → Prop} {w w' : World} {v : Value} {N : List (List α)}
theorem Nd.same (h : Nd enc D w v N) (hs : ∀ b, D b → b < w.heap.size → w'.heap[b]? = w.heap[b]?) : Nd enc D w' v N := by
  obtain ⟨vs, h1, h2⟩ := h
  exact ⟨vs, h1.same hs, fun i hi => by obtain ⟨x, a, b⟩ := h2 i hi; exact ⟨x, a, b.same hs⟩⟩
theorem Nd.later (h : Nd enc D w v N) (hb : Below w.heap.size w w') : Nd enc D w' v N := h.same fun b _ hl => hb.block b hl
theorem Nd.mono (h : Nd enc D w v N) (hD : ∀ b, D b → D' b) : Nd enc D' w v N := by
  obtain ⟨vs, h1, h2⟩ := h
  exact ⟨vs, h1.mono hD, fun i hi => by obtain ⟨x, a, b⟩ := h2 i hi; exact ⟨x, a, b.mono hD⟩⟩
theorem Nd.lt (h : Nd enc D w v N) : Nd enc (fun b => D b ∧ b < w.heap.size) w v N := by
  obtain ⟨vs, h1, h2⟩ := h
  exact ⟨vs, h1.lt, fun i hi => by obtain ⟨x, a, b⟩ := h2 i hi; exact ⟨x, a, b.lt⟩⟩
theorem Nd.len {P : Program} (h : Nd enc D w v N) (t ty e : TypeId) (ht : P.underlying t = some (.slice e)) (W : World) : (Builtin.len_ #[t] ty #[v]).run P W = .ok (.int .i64 N.length) W := by
  obtain ⟨vs, h1, h2⟩ := h
  exact h1.1.len t ty e ht W
theorem Nd.le (h : Nd enc D w v N) : N.length ≤ 281474976710656 := by
  obtain ⟨vs, h1, h2⟩ := h
  exact h1.1.le
/-- One of the rows. -/
theorem Nd.at {P : Program} (h : Nd enc D w v N) (i : Nat) (hi : i < N.length) (t e : TypeId) (ht : P.underlying t = some (.slice e)) (hs : ∀ W, (sizeOf e).run P W = .ok 1 W) :
    ∃ b o x, (∀ k W, (Instr.indexAt t v (.int k i)).run P W = .ok (.pointer (some ⟨b, o, none⟩)) W) ∧ w.cell? ⟨b, o, none⟩ = some x ∧ RowD D w x N[i].length (N[i].map enc) := by
  obtain ⟨vs, h1, h2⟩ := h
  obtain ⟨x, hx, hr⟩ := h2 i hi
  obtain ⟨b, o, a1, a2⟩ := h1.1.at (P := P) (by omega) i hi t e ht hs
  exact ⟨b, o, x, a1, by simpa using a2 0 x (by omega) (by simpa using hx), hr⟩
end
section
variable {α : Type} {enc : α → Value} {w : World} {v : Value} {l : List α}
/-- One of a row. -/
theorem row_at {P : Program} (h : Row 1 w v l.length (l.map enc)) (i : Nat) (hi : i < l.length) (t e : TypeId) (ht : P.underlying t = some (.slice e)) (hs : ∀ W, (sizeOf e).run P W = .ok 1 W) :
    ∃ b o, (∀ k W, (Instr.indexAt t v (.int k i)).run P W = .ok (.pointer (some ⟨b, o, none⟩)) W) ∧ w.cell? ⟨b, o, none⟩ = some (enc l[i]) := by
  obtain ⟨b, o, a1, a2⟩ := h.at (P := P) (by omega) i hi t e ht hs
  exact ⟨b, o, a1, by simpa using a2 0 (enc l[i]) (by omega) (by simp [hi])⟩
end

/-- All blocks but those of S are as they were. -/
structure Kx (S : Nat → Prop) (w w' : World) : Prop where
  os : w'.os = w.os
  tape : w'.tape = w.tape
  output : w'.output = w.output
  size : w.heap.size ≤ w'.heap.size
  block : ∀ b, b < w.heap.size → ¬ S b → w'.heap[b]? = w.heap[b]?
section
variable {S S' : Nat → Prop} {w w1 w2 w' : World}
theorem Kx.refl (S : Nat → Prop) (w : World) : Kx S w w := ⟨rfl, rfl, rfl, Nat.le_refl _, fun _ _ _ => rfl⟩
theorem Kx.of_below (h : Below w.heap.size w w') : Kx S w w' := ⟨h.os, h.tape, h.output, h.size, fun b hb _ => h.block b hb⟩
theorem Kx.tr (h : Kx S w w1) (k : Kx S w1 w2) : Kx S w w2 :=
  ⟨k.os.trans h.os, k.tape.trans h.tape, k.output.trans h.output, Nat.le_trans h.size k.size, fun b hb hn => (k.block b (Nat.lt_of_lt_of_le hb h.size) hn).trans (h.block b hb hn)⟩
/-- One behind the other; what the second changes may be new. -/
theorem Kx.tr' (h : Kx S w w1) (k : Kx S' w1 w2) (hs : ∀ b, b < w.heap.size → S' b → S b) : Kx S w w2 :=
  ⟨k.os.trans h.os, k.tape.trans h.tape, k.output.trans h.output, Nat.le_trans h.size k.size, fun b hb hn => (k.block b (Nat.lt_of_lt_of_le hb h.size) (fun e => hn (hs b hb e))).trans (h.block b hb hn)⟩
theorem Kx.mono (h : Kx S w w') (hs : ∀ b, b < w.heap.size → S b → S' b) : Kx S' w w' := ⟨h.os, h.tape, h.output, h.size, fun b hb hn => h.block b hb fun e => hn (hs b hb e)⟩
theorem Kx.set (w : World) (B i : Nat) (v : Value) (hS : S B) : Kx S w (w.setCell ⟨B, i, none⟩ v) :=
  ⟨rfl, rfl, rfl, by simp [World.setCell], fun b _ hA => Below.heap_setCell w ⟨B, i, none⟩ v b (fun e => hA (by have e' : b = B := e; rw [e']; exact hS))⟩
theorem Kx.drew (h : Kx S w w') : Kx S w w'.drew := ⟨h.os, h.tape, h.output, h.size, h.block⟩
theorem Kx.alloc (w : World) (o : Obj) : Kx S w (w.alloc o) := Kx.of_below (ba (b0 w) o)
theorem Kx.grown {r : Option Nat} (h : w.grownBy w' r) (hS : ∀ b, r = some b → S b) : Kx S w w' := ⟨h.os, h.tape, h.output, h.size, fun b hb hn => h.block b hb fun e => hn (hS b e.symm)⟩
theorem Kx.below {W : World} (hb : Below W.heap.size W w) (h : Kx S w w') (hS : ∀ b, S b → W.heap.size ≤ b) : Below W.heap.size W w' :=
  ⟨h.os.trans hb.os, h.tape.trans hb.tape, h.output.trans hb.output, Nat.le_trans hb.size h.size, fun b hl => (h.block b (Nat.lt_of_lt_of_le hl hb.size) (fun e => by have := hS b e; omega)).trans (hb.block b hl)⟩
theorem Kx.grows (h : Kx S w w') {r : Option Nat} (hS : ∀ b, b < w.heap.size → S b → r = some b) : w.grownBy w' r := ⟨h.os, h.tape, h.output, h.size, fun b hb hn => h.block b hb fun e => hn (hS b hb e).symm⟩
theorem owns_kx {B : Nat} {e : TypeId} {sz : Nat} {v : Value} {n : Nat} {xs : List Value} (h : w.ownsRow B e sz v n xs) (k : Kx S w w') (hS : ∀ b, v.ownBlock = some b → ¬ S b) : w'.ownsRow B e sz v n xs := by
  obtain ⟨h1, h2⟩ := h
  refine ⟨h1, ?_⟩
  rcases h2 with h2 | ⟨g, cap, cur, hv, hg, hh, r⟩
  · exact .inl h2
  · exact .inr ⟨g, cap, cur, hv, hg, by rw [k.block g (lt_of_at hh) (hS g (by rw [hv]; rfl))]; exact hh, r⟩
end
theorem owns_base {B C : Nat} {w : World} {e : TypeId} {sz : Nat} {v : Value} {n : Nat} {xs : List Value} (h : w.ownsRow B e sz v n xs) (hc : C ≤ B) : w.ownsRow C e sz v n xs := by
  obtain ⟨h1, h2⟩ := h
  refine ⟨h1, ?_⟩
  rcases h2 with h2 | ⟨g, cap, cur, e, hB, r⟩
  · exact .inl h2
  · exact .inr ⟨g, cap, cur, e, Nat.le_trans hc hB, r⟩
/-- An element of what is owned: its place; it may be written. -/
theorem own_at {α : Type} {enc : α → Value} {P : Program} {w : World} {B : Nat} {e : TypeId} {v : Value} {l : List α} (h : w.ownsRow B e 1 v l.length (l.map enc)) (i : Nat) (hi : i < l.length) (t : TypeId) (ht : P.underlying t = some (.slice e)) (hs : ∀ W, (sizeOf e).run P W = .ok 1 W) :
    ∃ b, v.ownBlock = some b ∧ (∀ k W, (Instr.indexAt t v (.int k i)).run P W = .ok (.pointer (some ⟨b, i, none⟩)) W) ∧ w.cell? ⟨b, i, none⟩ = some (enc l[i]) ∧ w.frozen? ⟨b, i, none⟩ = false ∧ B ≤ b ∧ b < w.heap.size ∧
      ∀ x, (w.setCell ⟨b, i, none⟩ (enc x)).ownsRow B e 1 v (l.set i x).length ((l.set i x).map enc) := by
  have hob : ∃ b, v.ownBlock = some b := by
    rcases h.2 with ⟨_, h0⟩ | ⟨g, cap, cur, rfl, _⟩
    · omega
    · exact ⟨g, rfl⟩
  obtain ⟨g, hg⟩ := hob
  obtain ⟨b, a1, a2, a3, a4, a5, a6⟩ := owns_at (P := P) h i hi t ht hs
  obtain rfl : g = b := by
    rcases h.2 with ⟨_, h0⟩ | ⟨g', cap, cur, rfl, _⟩
    · omega
    · have h1 := a1 .i64 w
      simp [Instr.indexAt, asIntOf, run_underlying ht, hs, Addr.add_lit] at h1
      injection hg with hg
      simp_all
  refine ⟨g, hg, a1, a2 _ (by simp [hi]), a3, a4, a5, fun x => ?_⟩
  have := a6 (enc x)
  rwa [List.length_set, List.map_set]
theorem own_len {α : Type} {enc : α → Value} {P : Program} {w : World} {B : Nat} {e : TypeId} {v : Value} {l : List α} (h : w.ownsRow B e 1 v l.length (l.map enc)) (t ty : TypeId) (ht : P.underlying t = some (.slice e)) (W : World) : (Builtin.len_ #[t] ty #[v]).run P W = .ok (.int .i64 l.length) W := by
  obtain ⟨h1, h2⟩ := h
  rcases h2 with ⟨rfl, h0⟩ | ⟨g, cap, cur, rfl, hB, hg, r⟩
  · simp [Builtin.len_, run_underlying ht, goInt, h0]
  · simp [Builtin.len_, run_underlying ht, goInt]
end Go.Proofs.Ytkpmkabddhpojaa.Or
