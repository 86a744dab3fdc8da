/- A range over an iterator that writes blocks of its own, laid at its beginning (it may range over another iterator itself): the caller's law. Over any program, at the wide fence. -/
import Derived.Test.YtkmdclfkmmlloaaGreatDoorRange
import Derived.Deep.Draws
set_option linter.unusedVariables false
set_option linter.unusedSimpArgs false
namespace Go.Proofs.YtkmdclfkmmlloaaGreatDoor
open Go Go.RowKit

/-- What lies outside the blocks from lo on, ahead of hi, lies still. -/
structure Steps (lo hi : Nat) (A B : World) : Prop where
  os : B.os = A.os
  tape : B.tape = A.tape
  output : B.output = A.output
  size : A.heap.size ≤ B.heap.size
  same : ∀ b, b < A.heap.size → ¬ (lo ≤ b ∧ b < hi) → B.heap[b]? = A.heap[b]?
theorem Steps.refl (lo hi : Nat) (A : World) : Steps lo hi A A := ⟨rfl, rfl, rfl, Nat.le_refl _, fun _ _ _ => rfl⟩
theorem Steps.trans {lo hi : Nat} {A B C : World} (h : Steps lo hi A B) (k : Steps lo hi B C) : Steps lo hi A C :=
  ⟨k.os.trans h.os, k.tape.trans h.tape, k.output.trans h.output, Nat.le_trans h.size k.size, fun b hb hn => (k.same b (Nat.lt_of_lt_of_le hb h.size) hn).trans (h.same b hb hn)⟩
theorem Steps.mono {lo hi lo' hi' : Nat} {A B : World} (h : Steps lo hi A B) (h1 : lo' ≤ lo) (h2 : hi ≤ hi') : Steps lo' hi' A B :=
  ⟨h.os, h.tape, h.output, h.size, fun b hb hn => h.same b hb fun k => hn ⟨Nat.le_trans h1 k.1, Nat.lt_of_lt_of_le k.2 h2⟩⟩
theorem Steps.alloc (lo hi : Nat) (A : World) (o : Obj) : Steps lo hi A (A.alloc o) := ⟨rfl, rfl, rfl, by simp, fun b hb _ => Below.heap_alloc A o b hb⟩
theorem Steps.drewN (lo hi : Nat) (A : World) (q : Nat) : Steps lo hi A (A.drewN q) := ⟨rfl, rfl, rfl, Nat.le_refl _, fun _ _ _ => rfl⟩
theorem Steps.setCell (lo hi : Nat) (A : World) (p : Addr) (v : Value) (h1 : lo ≤ p.block) (h2 : p.block < hi) : Steps lo hi A (A.setCell p v) :=
  have hb := (Below.refl 0 A).setCell (p := p) (Nat.zero_le _) v
  ⟨hb.os, hb.tape, hb.output, hb.size, fun b hb hn => Below.heap_setCell A p v b (fun e => hn (by subst e; exact ⟨h1, h2⟩))⟩
theorem Steps.putObj (lo hi : Nat) (A : World) (b : Nat) (o : Obj) (h1 : lo ≤ b) (h2 : b < hi) : Steps lo hi A (A.putObj b o) :=
  ⟨rfl, rfl, rfl, by simp [World.putObj], fun k hk hn => World.putObj_heap_other (fun e => hn (by subst e; exact ⟨h1, h2⟩))⟩
theorem Steps.below {lo hi n : Nat} {w A B : World} (h : Steps lo hi A B) (hb : Below n w A) (h1 : n ≤ lo) (h2 : n ≤ A.heap.size) : Below n w B :=
  hb.trans ⟨h.os, h.tape, h.output, h.size, fun k hk => h.same k (by omega) (fun c => by omega)⟩

/-- What lies in the blocks D lies there still. -/
def Lies (D : Nat → Prop) (w W : World) : Prop := ∀ b, D b → W.heap[b]? = w.heap[b]?
theorem Lies.trans {D : Nat → Prop} {a b c : World} (h : Lies D a b) (k : Lies D b c) : Lies D a c := fun x hx => (k x hx).trans (h x hx)
theorem Lies.mono {D E : Nat → Prop} {w W : World} (h : Lies D w W) (he : ∀ b, E b → D b) : Lies E w W := fun b hb => h b (he b hb)

section
variable {n : Nat} {P : Program}
end
end Go.Proofs.YtkmdclfkmmlloaaGreatDoor
