/- Layer 5: the document's inside: what it has in memory. -/
import Derived.Test.YthodmdfbahkflaaGreatDoorPk6
import Derived.Test.YthodmdfbahkflaaGreatDoorTrW
set_option linter.unusedVariables false
set_option linter.unusedSimpArgs false
namespace Go.Proofs.YthodmdfbahkflaaGreatDoor.Tree
open Go Go.Proofs.YthodmdfbahkflaaGreatDoor Go.Proofs.YthodmdfbahkflaaGreatDoor.Utf Go.Proofs.YthodmdfbahkflaaGreatDoor.Names Go.Proofs.YthodmdfbahkflaaGreatDoor.Ent Go.Proofs.YthodmdfbahkflaaGreatDoor.Tok Go.RowKit
set_option maxRecDepth 100000
/-- Blocks that a node within may not lie in. -/
def InA (w : World) (kv : Value) (b : Nat) : Prop := b < w.heap.size ∨ kv.ownBlock = some b
/-- Within an element: the node's children are l. -/
structure InsS (w : World) (B Nb : Nat) (tv : Value) (j : Nat) (en a e : Int) (c0 c1 c2 c3 kv : Value) (r : List (Node × Value × Value)) (X : World) : Prop where
  keep : Keep (fun b => b = B ∨ b = Nb) w X
  rb : RB X B tv j en a e
  nod : X.heap[Nb]? = some (.cells #[c0, c1, c2, c3, kv, .string ⟨#[]⟩] 32 (0, 0))
  own : X.ownsRow w.heap.size 32 6 kv r.length (r.flatMap ncells)
  kid : ∀ x ∈ r, IsN X (InA w kv) x.1 x.2.1 x.2.2
  lowB : B < w.heap.size
  lowN : Nb < w.heap.size
  ne : Nb ≠ B
section
variable {w X Y : World} {B Nb j : Nat} {tv : Value} {en a e : Int} {c0 c1 c2 c3 kv : Value} {r : List (Node × Value × Value)}
theorem InsS.later (h : InsS w B Nb tv j en a e c0 c1 c2 c3 kv r X) (hb : Below X.heap.size X Y) : InsS w B Nb tv j en a e c0 c1 c2 c3 kv r Y :=
  ⟨h.keep.tr (Keep.of_below hb), h.rb.same (hb.block _ h.rb.lt), (hb.block _ (lt_of_some h.nod)).trans h.nod, owns_later h.own hb, fun x hx => (h.kid x hx).to (fun _ _ q => q) (Keep.of_below hb), h.lowB, h.lowN, h.ne⟩
theorem InsS.rbs {j' : Nat} {a' e' : Int} (h : InsS w B Nb tv j en a e c0 c1 c2 c3 kv r X) (hr : RB Y B tv j' en a' e') (hk : Keep (fun b => b = B) X Y) : InsS w B Nb tv j' en a' e' c0 c1 c2 c3 kv r Y :=
  ⟨h.keep.tr (hk.mono fun b q => .inl q), hr, (hk.block _ (lt_of_some h.nod) h.ne).trans h.nod, own_same h.own (fun b hb => hk.block b (h.own.lt b hb).2 (by have := (h.own.lt b hb).1; have := h.lowB; omega)), fun x hx => (h.kid x hx).to (fun _ _ q => q) (hk.mono fun b q => .inl (by rw [q]; exact h.lowB)), h.lowB, h.lowN, h.ne⟩
theorem InsS.next (h : InsS w B Nb tv j en a e c0 c1 c2 c3 kv r X) : InsS w B Nb tv (j + 1) en a e c0 c1 c2 c3 kv r (X.setCell ⟨B, 1, none⟩ (.int .i64 ((j : Int) + 1))) := h.rbs (h.rb.set1 (j + 1)) (keep_set X B 1 _)
theorem InsS.size (h : InsS w B Nb tv j en a e c0 c1 c2 c3 kv r X) : w.heap.size ≤ X.heap.size := h.keep.size
theorem InsS.kcell (h : InsS w B Nb tv j en a e c0 c1 c2 c3 kv r X) : X.cell? ⟨Nb, 4, none⟩ = some kv ∧ X.frozen? ⟨Nb, 4, none⟩ = false := ⟨by rw [Lib.cell_of_heap h.nod]; rfl, Lib.frozen_of_heap h.nod 4⟩
theorem InsS.kids (h : InsS w B Nb tv j en a e c0 c1 c2 c3 kv r X) (hn : r.length ≤ 281474976710656) : Kids X (fun b => b < w.heap.size) kv (r.map (·.1)) :=
  ⟨r, rfl, Row.ofOwns h.own hn, fun _ b hb q => by have := (h.own.lt b hb).1; omega, fun x hx => (h.kid x hx).to (fun b _ q => .inl q) (Keep.refl _ _)⟩
/-- One child more: behind the append, six stores and the store of the row. -/
theorem InsS.add {g cap : Nat} {n : Node} {av kv' : Value} {w1 : World} (h : InsS w B Nb tv j en a e c0 c1 c2 c3 kv r X) (hn : IsN X (InA w kv) n av kv')
    (hown1 : w1.ownsRow w.heap.size 32 6 (.slice (some ⟨g, 0, none⟩) (r.length + 1) cap) (r.length + 1) (r.flatMap ncells ++ zero6)) (hg : X.grownBy w1 kv.ownBlock) (hgg : kv.ownBlock = some g ∨ X.heap.size ≤ g) :
    InsS w B Nb tv j en a e c0 c1 c2 c3 (.slice (some ⟨g, 0, none⟩) (r.length + 1) cap) (r ++ [(n, av, kv')])
      (((((((w1.setCell ⟨g, r.length * 6, none⟩ (.int .i64 n.place)).setCell ⟨g, r.length * 6 + 1, none⟩ (.string (text n.nm.1))).setCell ⟨g, r.length * 6 + 2, none⟩ (.string (text n.nm.2))).setCell ⟨g, r.length * 6 + 3, none⟩ av).setCell ⟨g, r.length * 6 + 4, none⟩ kv').setCell ⟨g, r.length * 6 + 5, none⟩ (.string (text n.text))).setCell ⟨Nb, 4, none⟩ (.slice (some ⟨g, 0, none⟩) (r.length + 1) cap)) := by
  obtain ⟨s1, k1⟩ := hown1.stored (r.length * 6) (.int .i64 n.place)
  obtain ⟨s2, k2⟩ := s1.stored (r.length * 6 + 1) (.string (text n.nm.1))
  obtain ⟨s3, k3⟩ := s2.stored (r.length * 6 + 2) (.string (text n.nm.2))
  obtain ⟨s4, k4⟩ := s3.stored (r.length * 6 + 3) av
  obtain ⟨s5, k5⟩ := s4.stored (r.length * 6 + 4) kv'
  obtain ⟨s6, k6⟩ := s5.stored (r.length * 6 + 5) (.string (text n.text))
  have k16 := Kept.trans (Kept.trans (Kept.trans (Kept.trans (Kept.trans k1 k2) k3) k4) k5) k6
  have hfl := flat_len 6 ncells (fun _ => rfl) r
  have hcells : ((((((r.flatMap ncells ++ zero6).set (r.length * 6) (.int .i64 n.place)).set (r.length * 6 + 1) (.string (text n.nm.1))).set (r.length * 6 + 2) (.string (text n.nm.2))).set (r.length * 6 + 3) av).set (r.length * 6 + 4) kv').set (r.length * 6 + 5) (.string (text n.text)) = (r ++ [(n, av, kv')]).flatMap ncells := by
    rw [List.set_append_right _ _ (by omega), List.set_append_right _ _ (by omega), List.set_append_right _ _ (by omega), List.set_append_right _ _ (by omega), List.set_append_right _ _ (by omega), List.set_append_right _ _ (by omega)]
    rw [hfl, Nat.sub_self, Nat.add_sub_cancel_left, Nat.add_sub_cancel_left, Nat.add_sub_cancel_left, Nat.add_sub_cancel_left, Nat.add_sub_cancel_left, List.flatMap_append, List.flatMap_singleton]
    rfl
  rw [hcells] at s6
  generalize hw2 : (((((w1.setCell ⟨g, r.length * 6, none⟩ (.int .i64 n.place)).setCell ⟨g, r.length * 6 + 1, none⟩ (.string (text n.nm.1))).setCell ⟨g, r.length * 6 + 2, none⟩ (.string (text n.nm.2))).setCell ⟨g, r.length * 6 + 3, none⟩ av).setCell ⟨g, r.length * 6 + 4, none⟩ kv').setCell ⟨g, r.length * 6 + 5, none⟩ (.string (text n.text)) = w2 at *
  have hgl : w.heap.size ≤ g := (hown1.lt g rfl).1
  have hne : ∀ b, b < X.heap.size → kv.ownBlock ≠ some b → b ≠ g := by
    intro b hb h1 e
    subst e
    rcases hgg with h2 | h2
    · exact h1 h2
    · omega
  have hs2 : ∀ b, b < X.heap.size → kv.ownBlock ≠ some b → w2.heap[b]? = X.heap[b]? := fun b hb h1 => (k16.block b (Nat.lt_of_lt_of_le hb hg.size) (fun e => by injection e with e; exact hne b hb h1 e)).trans (hg.block b hb (fun q => h1 q.symm))
  have hlowB := h.lowB
  have hlowN := h.lowN
  have hsz := h.size
  have hold : ∀ b, b < w.heap.size → w2.heap[b]? = X.heap[b]? := fun b hb => hs2 b (by omega) (fun q => by have := (h.own.lt b q).1; omega)
  have hN2 : w2.heap[Nb]? = some (.cells #[c0, c1, c2, c3, kv, .string ⟨#[]⟩] 32 (0, 0)) := (hold Nb hlowN).trans h.nod
  have hkeep : Keep (fun b => b = B ∨ b = Nb) w (w2.setCell ⟨Nb, 4, none⟩ (.slice (some ⟨g, 0, none⟩) (r.length + 1) cap)) := by
    refine ⟨?_, ?_, ?_, ?_, ?_⟩
    · exact (k16.os.trans hg.os).trans h.keep.os
    · exact (k16.tape.trans hg.tape).trans h.keep.tape
    · exact (k16.output.trans hg.output).trans h.keep.output
    · rw [set_size]; exact Nat.le_trans hsz (Nat.le_trans hg.size k16.size)
    · intro b hb hA
      rw [set_other _ _ _ _ _ (fun q => hA (.inr q)), hold b hb]
      exact h.keep.block b hb hA
  have hk2 : Keep (InA w kv) X (w2.setCell ⟨Nb, 4, none⟩ (.slice (some ⟨g, 0, none⟩) (r.length + 1) cap)) := by
    refine ⟨?_, ?_, ?_, ?_, ?_⟩
    · exact k16.os.trans hg.os
    · exact k16.tape.trans hg.tape
    · exact k16.output.trans hg.output
    · rw [set_size]; exact Nat.le_trans hg.size k16.size
    · intro b hb hA
      rw [set_other _ _ _ _ _ (fun q => hA (.inl (by rw [q]; exact hlowN)))]
      exact hs2 b hb (fun q => hA (.inr q))
  have hA : ∀ b, b < X.heap.size → InA w (.slice (some ⟨g, 0, none⟩) (r.length + 1) cap) b → InA w kv b := by
    intro b hb q
    rcases q with q | q
    · exact .inl q
    · have e : g = b := by simpa [Value.ownBlock] using q
      subst e
      rcases hgg with h2 | h2
      · exact .inr h2
      · omega
  refine ⟨hkeep, ?_, ?_, ?_, ?_, hlowB, hlowN, h.ne⟩
  · exact h.rb.same ((set_other _ _ _ _ _ (fun q => h.ne q.symm)).trans (hold B hlowB))
  · simp [World.setCell, Array.getElem?_modify, hN2]
  · rw [List.length_append, List.length_singleton]
    refine own_same s6 (fun b hb => set_other _ _ _ _ _ ?_)
    have e : g = b := by simpa [Value.ownBlock] using hb
    omega
  · intro x hx
    rcases List.mem_append.1 hx with hx | hx
    · exact (h.kid x hx).to hA hk2
    · obtain rfl := by simpa using hx
      exact hn.to hA hk2
/-- The last child's text. -/
theorem InsS.retext {g cap : Nat} {r0 : List (Node × Value × Value)} {p : Int} {nm : Nm} {al : List Att} {ks : List Node} {tx tx' : List UInt8} {av kv' : Value} (h : InsS w B Nb tv j en a e c0 c1 c2 c3 (.slice (some ⟨g, 0, none⟩) (r0.length + 1) cap) (r0 ++ [(.mk p nm al ks tx, av, kv')]) X) :
    InsS w B Nb tv j en a e c0 c1 c2 c3 (.slice (some ⟨g, 0, none⟩) (r0.length + 1) cap) (r0 ++ [(.mk p nm al ks tx', av, kv')]) (X.setCell ⟨g, r0.length * 6 + 5, none⟩ (.string (text tx'))) := by
  have hown := h.own
  rw [List.length_append, List.length_singleton] at hown
  obtain ⟨s1, k1⟩ := hown.stored (r0.length * 6 + 5) (.string (text tx'))
  have hfl := flat_len 6 ncells (fun _ => rfl) r0
  have hcells : ((r0 ++ [((.mk p nm al ks tx, av, kv') : Node × Value × Value)]).flatMap ncells).set (r0.length * 6 + 5) (.string (text tx')) = (r0 ++ [((.mk p nm al ks tx', av, kv') : Node × Value × Value)]).flatMap ncells := by
    rw [List.flatMap_append, List.flatMap_append, List.flatMap_singleton, List.flatMap_singleton, List.set_append_right _ _ (by omega), hfl, Nat.add_sub_cancel_left]
    rfl
  rw [hcells] at s1
  have hgl := (h.own.lt g rfl)
  have hlowB := h.lowB
  have hlowN := h.lowN
  have hk2 : Keep (InA w (.slice (some ⟨g, 0, none⟩) (r0.length + 1) cap)) X (X.setCell ⟨g, r0.length * 6 + 5, none⟩ (.string (text tx'))) := Keep.set X g _ _ (.inr rfl)
  refine ⟨⟨h.keep.os, h.keep.tape, h.keep.output, by rw [set_size]; exact h.keep.size, fun b hb hA => (set_other _ _ _ _ _ (by omega)).trans (h.keep.block b hb hA)⟩, h.rb.same (set_other _ _ _ _ _ (by omega)), (set_other _ _ _ _ _ (by omega)).trans h.nod, ?_, ?_, hlowB, hlowN, h.ne⟩
  · rw [List.length_append, List.length_singleton]
    exact s1
  · intro x hx
    rcases List.mem_append.1 hx with hx | hx
    · exact (h.kid x (List.mem_append_left _ hx)).to (fun _ _ q => q) hk2
    · obtain rfl := by simpa using hx
      have := (h.kid (.mk p nm al ks tx, av, kv') (by simp)).parts
      exact (IsN.of this.1 this.2).to (fun _ _ q => q) hk2
end
end Go.Proofs.YthodmdfbahkflaaGreatDoor.Tree
