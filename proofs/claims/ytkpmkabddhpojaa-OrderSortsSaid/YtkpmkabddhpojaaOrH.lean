/- Layer 14: contract of lay. -/
import Derived.Test.YtkpmkabddhpojaaOrF
import Derived.Test.YtkpmkabddhpojaaOrG
set_option linter.unusedVariables false
set_option linter.unusedSimpArgs false
namespace Go.Proofs.Ytkpmkabddhpojaa.Or
open Go Go.Proofs.Ytkpmkabddhpojaa Go.RowKit
set_option maxRecDepth 100000

theorem own_ne_box {B R : Nat} {X : World} {e T : TypeId} {v : Value} {n : Nat} {xs : List Value} {cs : Array Value} {m : Nat × Nat} (h : X.ownsRow B e 1 v n xs) (hb : X.heap[R]? = some (.cells cs T m)) (hne : e ≠ T) : ∀ b, v.ownBlock = some b → b ≠ R := by
  intro b hb1 e1
  subst e1
  rcases h.2 with ⟨rfl, _⟩ | ⟨g, cap, cur, rfl, _, hh, _⟩
  · cases hb1
  · obtain rfl : g = b := by injection hb1
    rw [hb] at hh
    injection hh with hh
    injection hh with _ hh
    exact hne hh.symm
theorem Ty.kx {S : Nat → Prop} {B n : Nat} {X w' : World} {mv uv : Value} {ms : List Nat} {p : List (Nat × Nat)} {vs : List Value} (h : Ty B n X mv uv ms p vs) (k : Kx S X w') (hm : ∀ b, mv.ownBlock = some b → ¬ S b) (hu : ∀ b, uv.ownBlock = some b → ¬ S b) (he : ∀ k, k < n → ∀ b, (vs.getD k .nilIface).ownBlock = some b → ¬ S b) : Ty B n w' mv uv ms p vs :=
  ⟨owns_kx h.m k hm, h.ml, owns_kx h.u k hu, h.ul, fun j hj => owns_kx (h.el j hj) k (he j hj), h.d, h.dm⟩

/-- lay under way: the places in line, what is missing, who needs what, the heap, what is laid. -/
structure Ls (B : Nat) (N : List (List Nat)) (line : List Nat) (X : World) (pv mv uv : Value) (R : Nat) (hv lv : Value) (ms H L : List Nat) (vs : List Value) : Prop where
  pl : X.ownsRow B 3 1 pv (placed N.length line N.length).length (nums (placed N.length line N.length))
  ty : Ty B N.length X mv uv ms (prs N N.length) vs
  hp : Hp B R X hv H
  heap : Heap H
  lo : X.ownsRow B 3 1 lv L.length (nums L)
  rb : B ≤ R
  pd : ∀ b, pv.ownBlock = some b → mv.ownBlock ≠ some b ∧ ∀ k, k < N.length → (vs.getD k .nilIface).ownBlock ≠ some b
  hd : ∀ b, hv.ownBlock = some b → pv.ownBlock ≠ some b ∧ mv.ownBlock ≠ some b ∧ ∀ k, k < N.length → (vs.getD k .nilIface).ownBlock ≠ some b
  ld : ∀ b, lv.ownBlock = some b → pv.ownBlock ≠ some b ∧ mv.ownBlock ≠ some b ∧ (∀ k, k < N.length → (vs.getD k .nilIface).ownBlock ≠ some b) ∧ hv.ownBlock ≠ some b
section
variable {B R : Nat} {N : List (List Nat)} {line : List Nat} {X w' : World} {pv mv uv hv lv : Value} {ms H L : List Nat} {vs : List Value}
theorem Ls.later (h : Ls B N line X pv mv uv R hv lv ms H L vs) (hb : Below X.heap.size X w') : Ls B N line w' pv mv uv R hv lv ms H L vs :=
  ⟨owns_later h.pl hb, h.ty.kx (S := fun _ => False) (Kx.of_below hb) (fun _ _ q => q) (fun _ _ q => q) (fun _ _ _ _ q => q), h.hp.later hb, h.heap, owns_later h.lo hb, h.rb, h.pd, h.hd, h.ld⟩
/-- The heap changes. -/
theorem Ls.heaped {hv' : Value} {H' : List Nat} (h : Ls B N line X pv mv uv R hv lv ms H L vs) (k : Kx (fun b => b = R ∨ hv.ownBlock = some b) X w') (hn : hv'.ownBlock = hv.ownBlock ∨ ∃ b, X.heap.size ≤ b ∧ hv'.ownBlock = some b) (hp : Hp B R w' hv' H') (hh : Heap H') :
    Ls B N line w' pv mv uv R hv' lv ms H' L vs ∧ Kx (fun b => B ≤ b) X w' := by
  have nR : ∀ {v : Value} {n : Nat} {xs : List Value}, X.ownsRow B 3 1 v n xs → ∀ b, v.ownBlock = some b → b ≠ R := fun ho => own_ne_box ho h.hp.box (by decide)
  refine ⟨⟨owns_kx h.pl k fun b hb q => ?_, h.ty.kx k (fun b hb q => ?_) (fun b hb q => ?_) (fun j hj b hb q => ?_), hp, hh, owns_kx h.lo k fun b hb q => ?_, h.rb, h.pd, fun b hb => ?_, fun b hb => ?_⟩, k.mono fun b _ q => ?_⟩
  · rcases q with q | q
    · exact nR h.pl b hb q
    · exact (h.hd b q).1 hb
  · rcases q with q | q
    · exact nR h.ty.m b hb q
    · exact (h.hd b q).2.1 hb
  · rcases q with q | q
    · exact own_ne_box h.ty.u h.hp.box (by decide) b hb q
    · exact apart_mu h.hp.own h.ty.u q hb
  · rcases q with q | q
    · exact nR (h.ty.el j hj) b hb q
    · exact (h.hd b q).2.2 j hj hb
  · rcases q with q | q
    · exact nR h.lo b hb q
    · exact (h.ld b hb).2.2.2 q
  · rcases hn with q | ⟨c, hc, q⟩
    · exact h.hd b (by rw [← q]; exact hb)
    · rw [q] at hb
      obtain rfl : c = b := by injection hb
      exact ⟨fun r => by have := (World.ownsRow.lt h.pl _ r).2; omega, fun r => by have := (World.ownsRow.lt h.ty.m _ r).2; omega, fun j hj r => by have := (World.ownsRow.lt (h.ty.el j hj) _ r).2; omega⟩
  · obtain ⟨l1, l2, l3, l4⟩ := h.ld b hb
    refine ⟨l1, l2, l3, fun r => ?_⟩
    rcases hn with q | ⟨c, hc, q⟩
    · exact l4 (by rw [← q]; exact r)
    · rw [q] at r
      obtain rfl : c = b := by injection r
      have := (World.ownsRow.lt h.lo _ hb).2; omega
  · rcases q with q | q
    · rw [q]; exact h.rb
    · exact (World.ownsRow.lt h.hp.own _ q).1
/-- One more is laid. -/
theorem Ls.snoc {Y : World} {lv' : Value} {L' : List Nat} (h : Ls B N line X pv mv uv R hv lv ms H L vs) (BY : Below X.heap.size X Y) (ho : w'.ownsRow B 3 1 lv' L'.length (nums L')) (hg : Y.grownBy w' lv.ownBlock) (hn : lv'.ownBlock = lv.ownBlock ∨ lv'.ownBlock = some Y.heap.size) :
    Ls B N line w' pv mv uv R hv lv' ms H L' vs ∧ Kx (fun b => B ≤ b) X w' := by
  have k : Kx (fun b => lv.ownBlock = some b) X w' := (Kx.of_below BY).tr (Kx.grown hg fun b e => e)
  have hR : ∀ b, lv.ownBlock = some b → b ≠ R := own_ne_box h.lo h.hp.box (by decide)
  have hs := BY.size
  refine ⟨⟨owns_kx h.pl k fun b hb q => (h.ld b q).1 hb, h.ty.kx k (fun b hb q => (h.ld b q).2.1 hb) (fun b hb q => apart_mu h.lo h.ty.u q hb) (fun j hj b hb q => (h.ld b q).2.2.1 j hj hb), h.hp.kx k (fun q => hR R q rfl) (fun b hb q => (h.ld b q).2.2.2 hb), h.heap, ho, h.rb, h.pd, h.hd, fun b hb => ?_⟩, k.mono fun b _ q => (World.ownsRow.lt h.lo _ q).1⟩
  rcases hn with q | q
  · exact h.ld b (by rw [← q]; exact hb)
  · rw [q] at hb
    obtain rfl : Y.heap.size = b := by injection hb
    exact ⟨fun r => by have := (World.ownsRow.lt h.pl _ r).2; omega, fun r => by have := (World.ownsRow.lt h.ty.m _ r).2; omega, fun j hj r => by have := (World.ownsRow.lt (h.ty.el j hj) _ r).2; omega, fun r => by have := (World.ownsRow.lt h.hp.own _ r).2; omega⟩
/-- One is counted down. -/
theorem Ls.down {i k mb : Nat} (h : Ls B N line X pv mv uv R hv lv ms H L vs) (hi : i < N.length) (hmb : mv.ownBlock = some mb) :
    Ls B N line (X.setCell ⟨mb, i, none⟩ (encN k)) pv mv uv R hv lv (ms.set i k) H L vs ∧ Kx (fun b => B ≤ b) X (X.setCell ⟨mb, i, none⟩ (encN k)) := by
  obtain ⟨t1, k1⟩ := h.ty.count (i := i) (k := k) hi hmb
  have kS : Kx (fun c => c = mb) X (X.setCell ⟨mb, i, none⟩ (encN k)) := Kx.set X mb i _ rfl
  have hR : mb ≠ R := own_ne_box h.ty.m h.hp.box (by decide) mb hmb
  exact ⟨⟨owns_kx h.pl kS fun b hb q => (h.pd b hb).1 (by rw [q]; exact hmb), t1, h.hp.kx kS (fun q => hR q.symm) (fun b hb q => (h.hd b hb).2.1 (by rw [q]; exact hmb)), h.heap, owns_kx h.lo kS fun b hb q => (h.ld b hb).2.1 (by rw [q]; exact hmb), h.rb, h.pd, h.hd, h.ld⟩, k1⟩
end
end Go.Proofs.Ytkpmkabddhpojaa.Or
