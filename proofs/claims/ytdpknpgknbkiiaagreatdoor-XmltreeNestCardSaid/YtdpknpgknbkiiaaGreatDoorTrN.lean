/- A range over an iterator that takes steps of its own between two rounds (it writes a variable that it has captured): the caller's law. Over any program. | A range over an iterator that tells several values a round. Over any program. | (*strings.Builder).String: its text; below the builder, and whatever is no cells, the world is as it was. | Layer 5: the iterator of slices.Backward over children. | Layer 5: a builder's WriteString, and what it lets be; slices.Backward. | Layer 5: what Text holds in memory: the text so far, and the nodes that are left. | Layer 5: contract of Text. | Layer 5: contract of Find. | Plain mathematics of layer 5: how great what is read may be; it has a name. | Layer 5: contract of Text; the walk of the statement XmltreeNest. -/
import Derived.RangeFuncNested
import Derived.RangeFuncBound
import Derived.RangeFuncCalls
import Derived.RangeFuncLeaves
import Derived.RangeFuncFrom
import Derived.WalkKit
import Derived.Test.YtdpknpgknbkiiaaGreatDoorEntB
import Derived.RangeFuncOwn
import Derived.Test.YtdpknpgknbkiiaaGreatDoorTrW
import Derived.RangeFuncBox
import Derived.RangeFuncWrites
import Derived.Shelf.Abstract
import Derived.Shelf.AbstractIn
import Derived.OwnWalkIn
import Derived.TacticsInMore
import Derived.LoopNIn
import Derived.LoopIn
import Derived.Stop.RegionWithIn
import Derived.Maps.OwnIn
import Derived.Maps.AppendAt
import Derived.Shelf.RegionOpen
import Derived.Deep.RegionHeld3
set_option linter.unusedVariables false
set_option linter.unusedSimpArgs false
namespace Go.Proofs.YtdpknpgknbkiiaaGreatDoor
open Go Go.RowKit

/-- The iterator's value tells the elements xs, one by one, in whatever later world; between two rounds it takes steps T; of a round that goes on it asks Kp. -/
def Tells {α : Type} (F : Fence) (n : Nat) (P : Program) (g : Nat) (lb : Array Value) (enc : α → Value) (T Kp : World → World → Prop) (xs : List α) (w : World) : Prop :=
  ∀ (l : Nat) (J Jx : Nat → World → Prop) (W : World), Below w.heap.size w W →
    (∀ k A B, J k A → T A B → J k B) → (∀ k A B, Jx k A → T A B → Jx k B) →
    (∀ k x W1, xs[k]? = some x → J k W1 → YieldAt F (n - 1) P l #[enc x] W1 fun e W' =>
      (e = .returned (.bool true) ∧ J (k + 1) W' ∧ Kp W1 W') ∨ (e = .returned (.bool false) ∧ Jx (k + 1) W')) →
    J 0 W →
    CallsIn F n P g (#[.func (.yield l) #[] #[]] ++ lb) W fun e W' => (∃ v, e = .returned v) ∧ (J xs.length W' ∨ ∃ k, k ≤ xs.length ∧ Jx k W')

/-- How a round's body may be left. -/
def LeftBy (Kp : World → World → Prop) (I : Nat → World → Prop) (Ix : Code → Nat → World → Prop) (k : Nat) (W : World) : Exit → Act → World → Prop
  | .normal, _, W' => KeepsOthers W W' ∧ Kp W W' ∧ I (k + 1) W'
  | .ret, _, W' => KeepsOthers W W' ∧ Ix .ret (k + 1) W'
  | .exit id, _, W' => KeepsOthers W W' ∧ Ix (.exit id) (k + 1) W'
  | _, _, _ => False

/-- Whatever lay stays: so what is no cells stays. -/
theorem others_of_below {W W' : World} (h : Below W.heap.size W W') : KeepsOthers W W' :=
  ⟨h.size, fun k o hk _ => (h.block k (Array.getElem?_eq_some_iff.1 hk).1).trans hk⟩

section
variable {F : Fence} {n : Nat} {P : Program}

theorem range_tells {α : Type} {g : Operand} {ps : Array Tmp} {assign body : Code} {Q : Exit → Act → World → Prop} {a : Act} {w : World}
    (hro : F.round = none) (h1 : 1 ≤ n) {gf : Nat} {lb : Array Value} (hg : a.eval g = .func (.func gf) #[] lb) (hFg : F.fn gf) (eg : ∀ args w, (callFunc gf args).run P w = .ok (.enter gf args) w)
    {enc : α → Value} {T Kp : World → World → Prop} {xs : List α} {w0 : World} (hT : ∀ A B, T A B → KeepsOthers A B) (hseq : Tells F (n - 1) P gf lb enc T Kp xs w0)
    (hKt : ∀ {A B C : World}, Kp A B → Kp B C → Kp A C) (hKb : ∀ (W : World) (l : Nat) (o o' : Obj), w.heap.size ≤ l → W.heap[l]? = some o → o.isCells = false → o.isWalk = false → Kp W (W.putObj l o')) (hb0 : Below w0.heap.size w0 w) (hps : ps.size = 1)
    (I : Nat → World → Prop) (Ix : Code → Nat → World → Prop) (hI : OwnFrom w.heap.size I) (hIx : ∀ c, OwnFrom w.heap.size (Ix c))
    (hIT : ∀ k A B, I k A → T A B → I k B) (hIxT : ∀ c k A B, Ix c k A → T A B → Ix c k B) (h0 : I 0 w) (a₁ : α → Act)
    (hassign : ∀ (l : Nat) (x : α) (W : World) (K : Act → World → Prop), K (a₁ x) W →
      assign.wpIn (F.inRound l) (n - 1 - 1) P (Exit.then K (fun _ _ _ => False)) { tmps := (ps.zip #[enc x]).foldl (fun t (p, v) => t.setIfInBounds p v) a.tmps, defers := [] } W)
    (hbody : ∀ (l : Nat) (k : Nat) (x : α) (W : World), xs[k]? = some x → I k W → body.wpIn (F.inRound l) (n - 1 - 1) P (LeftBy Kp I Ix k W) (a₁ x) W)
    (hdone : ∀ (D : Nat) (W : World), w.heap.size ≤ D → I xs.length W → W.heap[D]? = some (.deferred (some [])) → Q .normal { a with defers := { target := .collected D, args := #[] } :: a.defers } W)
    (hstop : ∀ (D : Nat) (c : Code) (k : Nat) (W : World), w.heap.size ≤ D → k ≤ xs.length → Ix c k W → W.heap[D]? = some (.deferred (some [])) → c.wpIn F n P Q { a with defers := { target := .collected D, args := #[] } :: a.defers } W) :
    (Code.rangeFunc g ps assign body).wpIn F n P Q a w := by
  refine wpIn_rangeFunc fun fn hfn => ?_
  rw [hro]
  let D := w.heap.size
  let R : Nat := D + 1
  let rec' : LoopState → Option Code → Obj := fun s j => .loop { state := s, pending := j, fn, tmps := a.tmps, params := ps, assign, body, defers := D }
  have hD : D = w.heap.size := rfl
  have hR : R = D + 1 := rfl
  generalize hw1 : (w.alloc (.deferred (some []))).alloc (rec' .ready none) = W1
  have hs1 : W1.heap.size = D + 2 := by rw [← hw1]; simp [hD]
  have hl1 : W1.heap[R]? = some (rec' .ready none) := by
    rw [← hw1, show R = (w.alloc (.deferred (some []))).heap.size from by simp [hR, hD]]
    exact World.alloc_heap_new _ _
  have hd1 : W1.heap[D]? = some (.deferred (some [])) := by
    rw [← hw1]; exact (Below.heap_alloc _ _ _ (by simp [hD])).trans (World.alloc_heap_new w _)
  have hi1 : I 0 W1 := by rw [← hw1]; exact hI.alloc _ (hI.alloc _ h0)
  have hbw : Below w0.heap.size w0 W1 := by
    rw [← hw1]; exact hb0.trans ((((Below.refl _ w).alloc (Nat.le_refl _) _).alloc (by simp) _).mono hb0.size)
  refine ⟨R, [{ target := .collected D, args := #[] }], W1, { target := .fn (.func gf) lb, args := #[.func (.yield R) #[] #[]] }, W1, gf, #[.func (.yield R) #[] #[]] ++ lb, W1, ?_, ?_, ?_, ?_, fun _ => h1, ?_⟩
  · rw [← hw1]; exact run_enterLoop_outer _ _ _ _ _
  · simp only [resolve, hg]; simp [go_sem]
  · intro f' hf'; simp [Target.leads] at hf'; subst hf'; exact hFg
  · simp [invoke, go_sem, eg]
  -- the record and the block of the rounds' deferred calls, through a turn of the record
  have turn : ∀ (W : World) (o : Obj), W.heap[R]? = some o → W.heap[D]? = some (.deferred (some [])) → ∀ s j,
      (W.putObj R (rec' s j)).heap[R]? = some (rec' s j) ∧ (W.putObj R (rec' s j)).heap[D]? = some (.deferred (some [])) := fun W o ho hd s j =>
    ⟨World.putObj_heap_same (Array.getElem?_eq_some_iff.1 ho).1, (World.putObj_heap_other (by omega)).trans hd⟩
  refine (hseq R (fun k W => I k W ∧ W.heap[R]? = some (rec' .ready none) ∧ W.heap[D]? = some (.deferred (some [])))
      (fun k W => ∃ c, Ix c k W ∧ W.heap[R]? = some (rec' .done (some c)) ∧ W.heap[D]? = some (.deferred (some []))) W1 hbw ?_ ?_ ?_ ⟨hi1, hl1, hd1⟩).mono ?_
  · rintro k A B ⟨hi, hl, hd⟩ ht
    exact ⟨hIT k A B hi ht, (hT A B ht).same _ _ hl rfl, (hT A B ht).same _ _ hd rfl⟩
  · rintro k A B ⟨c, hi, hl, hd⟩ ht
    exact ⟨c, hIxT c k A B hi ht, (hT A B ht).same _ _ hl rfl, (hT A B ht).same _ _ hd rfl⟩
  · rintro k x W hx ⟨hi, hl, hd⟩
    refine ⟨fn, _, assign, body, run_yield (P := P) (args := #[enc x]) hl (by simp [hps]), roundIn_of_wpIn hfn (hassign _ x W _ ⟨_, run_beginRound hl rfl, ?_⟩)⟩
    obtain ⟨hl2, hd2⟩ := turn W _ hl hd .busy none
    have hk2 : Kp W (W.putObj R (rec' .busy none)) := hKb _ _ _ _ (by omega) hl rfl rfl
    refine wpIn_mono (hbody R k x _ hx (hI.putObj _ hi (by omega) hl rfl)) ?_
    intro e a3 W3 hp
    cases e with
    | normal =>
      obtain ⟨hk3, hkp, hi3⟩ := hp
      have hl3 := hk3.same _ _ hl2 rfl
      have hd3 := hk3.same _ _ hd2 rfl
      obtain ⟨hl4, hd4⟩ := turn W3 _ hl3 hd3 .ready none
      exact ⟨_, _, run_endRound (P := P) none hl3, .inl ⟨rfl, ⟨hI.putObj _ hi3 (by omega) hl3 rfl, hl4, hd4⟩, hKt (hKt hk2 hkp) (hKb _ _ _ _ (by omega) hl3 rfl rfl)⟩⟩
    | ret =>
      obtain ⟨hk3, hi3⟩ := hp
      have hl3 := hk3.same _ _ hl2 rfl
      have hd3 := hk3.same _ _ hd2 rfl
      obtain ⟨hl4, hd4⟩ := turn W3 _ hl3 hd3 .done (some .ret)
      exact ⟨_, _, run_endRound (P := P) (some .ret) hl3, .inr ⟨rfl, .ret, (hIx _).putObj _ hi3 (by omega) hl3 rfl, hl4, hd4⟩⟩
    | exit id =>
      obtain ⟨hk3, hi3⟩ := hp
      have hl3 := hk3.same _ _ hl2 rfl
      have hd3 := hk3.same _ _ hd2 rfl
      obtain ⟨hl4, hd4⟩ := turn W3 _ hl3 hd3 .done (some (.exit id))
      exact ⟨_, _, run_endRound (P := P) (some (.exit id)) hl3, .inr ⟨rfl, .exit id, (hIx _).putObj _ hi3 (by omega) hl3 rfl, hl4, hd4⟩⟩
    | goto t => exact hp.elim
    | panic ch => exact hp.elim
    | outgrown => exact hp.elim
  · rintro e W2 ⟨⟨v, rfl⟩, ⟨hi, hl, hd⟩ | ⟨k, hk, c, hi, hl, hd⟩⟩
    · exact ⟨none, _, run_endLoop (P := P) hl (by simp [rec']), hdone D _ (Nat.le_refl _) (hI.putObj _ hi (by omega) hl rfl) ((World.putObj_heap_other (by omega)).trans hd)⟩
    · exact ⟨some c, _, run_endLoop (P := P) hl (by simp [rec']), hstop D c k _ (Nat.le_refl _) hk ((hIx c).putObj _ hi (by omega) hl rfl) ((World.putObj_heap_other (by omega)).trans hd)⟩
end
end Go.Proofs.YtdpknpgknbkiiaaGreatDoor
namespace Go.Proofs.YtdpknpgknbkiiaaGreatDoor
open Go Go.RowKit

/-- The iterator's value tells the elements xs, one by one, in whatever later world; between two rounds it takes steps T; of a round that goes on it asks Kp. -/
def TellsA {α : Type} (F : Fence) (n : Nat) (P : Program) (g : Nat) (lb : Array Value) (encs : α → Array Value) (T Kp : World → World → Prop) (xs : List α) (w : World) : Prop :=
  ∀ (l : Nat) (J Jx : Nat → World → Prop) (W : World), Below w.heap.size w W →
    (∀ k A B, J k A → T A B → J k B) → (∀ k A B, Jx k A → T A B → Jx k B) →
    (∀ k x W1, xs[k]? = some x → J k W1 → YieldAt F (n - 1) P l (encs x) W1 fun e W' =>
      (e = .returned (.bool true) ∧ J (k + 1) W' ∧ Kp W1 W') ∨ (e = .returned (.bool false) ∧ Jx (k + 1) W')) →
    J 0 W →
    CallsIn F n P g (#[.func (.yield l) #[] #[]] ++ lb) W fun e W' => (∃ v, e = .returned v) ∧ (J xs.length W' ∨ ∃ k, k ≤ xs.length ∧ Jx k W')

section
variable {F : Fence} {n : Nat} {P : Program}

theorem range_tellsA {α : Type} {g : Operand} {ps : Array Tmp} {assign body : Code} {Q : Exit → Act → World → Prop} {a : Act} {w : World}
    (hro : F.round = none) (h1 : 1 ≤ n) {gf : Nat} {lb : Array Value} (hg : a.eval g = .func (.func gf) #[] lb) (hFg : F.fn gf) (eg : ∀ args w, (callFunc gf args).run P w = .ok (.enter gf args) w)
    {encs : α → Array Value} {T Kp : World → World → Prop} {xs : List α} {w0 : World} (hT : ∀ A B, T A B → KeepsOthers A B) (hseq : TellsA F (n - 1) P gf lb encs T Kp xs w0)
    (hKt : ∀ {A B C : World}, Kp A B → Kp B C → Kp A C) (hKb : ∀ (W : World) (l : Nat) (o o' : Obj), w.heap.size ≤ l → W.heap[l]? = some o → o.isCells = false → o.isWalk = false → Kp W (W.putObj l o')) (hb0 : Below w0.heap.size w0 w) (hps : ∀ x, ps.size = (encs x).size)
    (I : Nat → World → Prop) (Ix : Code → Nat → World → Prop) (hI : OwnFrom w.heap.size I) (hIx : ∀ c, OwnFrom w.heap.size (Ix c))
    (hIT : ∀ k A B, I k A → T A B → I k B) (hIxT : ∀ c k A B, Ix c k A → T A B → Ix c k B) (h0 : I 0 w) (a₁ : α → Act)
    (hassign : ∀ (l : Nat) (x : α) (W : World) (K : Act → World → Prop), K (a₁ x) W →
      assign.wpIn (F.inRound l) (n - 1 - 1) P (Exit.then K (fun _ _ _ => False)) { tmps := (ps.zip (encs x)).foldl (fun t (p, v) => t.setIfInBounds p v) a.tmps, defers := [] } W)
    (hbody : ∀ (l : Nat) (k : Nat) (x : α) (W : World), xs[k]? = some x → I k W → body.wpIn (F.inRound l) (n - 1 - 1) P (LeftBy Kp I Ix k W) (a₁ x) W)
    (hdone : ∀ (D : Nat) (W : World), w.heap.size ≤ D → I xs.length W → W.heap[D]? = some (.deferred (some [])) → Q .normal { a with defers := { target := .collected D, args := #[] } :: a.defers } W)
    (hstop : ∀ (D : Nat) (c : Code) (k : Nat) (W : World), w.heap.size ≤ D → k ≤ xs.length → Ix c k W → W.heap[D]? = some (.deferred (some [])) → c.wpIn F n P Q { a with defers := { target := .collected D, args := #[] } :: a.defers } W) :
    (Code.rangeFunc g ps assign body).wpIn F n P Q a w := by
  refine wpIn_rangeFunc fun fn hfn => ?_
  rw [hro]
  let D := w.heap.size
  let R : Nat := D + 1
  let rec' : LoopState → Option Code → Obj := fun s j => .loop { state := s, pending := j, fn, tmps := a.tmps, params := ps, assign, body, defers := D }
  have hD : D = w.heap.size := rfl
  have hR : R = D + 1 := rfl
  generalize hw1 : (w.alloc (.deferred (some []))).alloc (rec' .ready none) = W1
  have hs1 : W1.heap.size = D + 2 := by rw [← hw1]; simp [hD]
  have hl1 : W1.heap[R]? = some (rec' .ready none) := by
    rw [← hw1, show R = (w.alloc (.deferred (some []))).heap.size from by simp [hR, hD]]
    exact World.alloc_heap_new _ _
  have hd1 : W1.heap[D]? = some (.deferred (some [])) := by
    rw [← hw1]; exact (Below.heap_alloc _ _ _ (by simp [hD])).trans (World.alloc_heap_new w _)
  have hi1 : I 0 W1 := by rw [← hw1]; exact hI.alloc _ (hI.alloc _ h0)
  have hbw : Below w0.heap.size w0 W1 := by
    rw [← hw1]; exact hb0.trans ((((Below.refl _ w).alloc (Nat.le_refl _) _).alloc (by simp) _).mono hb0.size)
  refine ⟨R, [{ target := .collected D, args := #[] }], W1, { target := .fn (.func gf) lb, args := #[.func (.yield R) #[] #[]] }, W1, gf, #[.func (.yield R) #[] #[]] ++ lb, W1, ?_, ?_, ?_, ?_, fun _ => h1, ?_⟩
  · rw [← hw1]; exact run_enterLoop_outer _ _ _ _ _
  · simp only [resolve, hg]; simp [go_sem]
  · intro f' hf'; simp [Target.leads] at hf'; subst hf'; exact hFg
  · simp [invoke, go_sem, eg]
  -- the record and the block of the rounds' deferred calls, through a turn of the record
  have turn : ∀ (W : World) (o : Obj), W.heap[R]? = some o → W.heap[D]? = some (.deferred (some [])) → ∀ s j,
      (W.putObj R (rec' s j)).heap[R]? = some (rec' s j) ∧ (W.putObj R (rec' s j)).heap[D]? = some (.deferred (some [])) := fun W o ho hd s j =>
    ⟨World.putObj_heap_same (Array.getElem?_eq_some_iff.1 ho).1, (World.putObj_heap_other (by omega)).trans hd⟩
  refine (hseq R (fun k W => I k W ∧ W.heap[R]? = some (rec' .ready none) ∧ W.heap[D]? = some (.deferred (some [])))
      (fun k W => ∃ c, Ix c k W ∧ W.heap[R]? = some (rec' .done (some c)) ∧ W.heap[D]? = some (.deferred (some []))) W1 hbw ?_ ?_ ?_ ⟨hi1, hl1, hd1⟩).mono ?_
  · rintro k A B ⟨hi, hl, hd⟩ ht
    exact ⟨hIT k A B hi ht, (hT A B ht).same _ _ hl rfl, (hT A B ht).same _ _ hd rfl⟩
  · rintro k A B ⟨c, hi, hl, hd⟩ ht
    exact ⟨c, hIxT c k A B hi ht, (hT A B ht).same _ _ hl rfl, (hT A B ht).same _ _ hd rfl⟩
  · rintro k x W hx ⟨hi, hl, hd⟩
    refine ⟨fn, _, assign, body, run_yield (P := P) (args := encs x) hl (by simp [hps x]), roundIn_of_wpIn hfn (hassign _ x W _ ⟨_, run_beginRound hl rfl, ?_⟩)⟩
    obtain ⟨hl2, hd2⟩ := turn W _ hl hd .busy none
    have hk2 : Kp W (W.putObj R (rec' .busy none)) := hKb _ _ _ _ (by omega) hl rfl rfl
    refine wpIn_mono (hbody R k x _ hx (hI.putObj _ hi (by omega) hl rfl)) ?_
    intro e a3 W3 hp
    cases e with
    | normal =>
      obtain ⟨hk3, hkp, hi3⟩ := hp
      have hl3 := hk3.same _ _ hl2 rfl
      have hd3 := hk3.same _ _ hd2 rfl
      obtain ⟨hl4, hd4⟩ := turn W3 _ hl3 hd3 .ready none
      exact ⟨_, _, run_endRound (P := P) none hl3, .inl ⟨rfl, ⟨hI.putObj _ hi3 (by omega) hl3 rfl, hl4, hd4⟩, hKt (hKt hk2 hkp) (hKb _ _ _ _ (by omega) hl3 rfl rfl)⟩⟩
    | ret =>
      obtain ⟨hk3, hi3⟩ := hp
      have hl3 := hk3.same _ _ hl2 rfl
      have hd3 := hk3.same _ _ hd2 rfl
      obtain ⟨hl4, hd4⟩ := turn W3 _ hl3 hd3 .done (some .ret)
      exact ⟨_, _, run_endRound (P := P) (some .ret) hl3, .inr ⟨rfl, .ret, (hIx _).putObj _ hi3 (by omega) hl3 rfl, hl4, hd4⟩⟩
    | exit id =>
      obtain ⟨hk3, hi3⟩ := hp
      have hl3 := hk3.same _ _ hl2 rfl
      have hd3 := hk3.same _ _ hd2 rfl
      obtain ⟨hl4, hd4⟩ := turn W3 _ hl3 hd3 .done (some (.exit id))
      exact ⟨_, _, run_endRound (P := P) (some (.exit id)) hl3, .inr ⟨rfl, .exit id, (hIx _).putObj _ hi3 (by omega) hl3 rfl, hl4, hd4⟩⟩
    | goto t => exact hp.elim
    | panic ch => exact hp.elim
    | outgrown => exact hp.elim
  · rintro e W2 ⟨⟨v, rfl⟩, ⟨hi, hl, hd⟩ | ⟨k, hk, c, hi, hl, hd⟩⟩
    · exact ⟨none, _, run_endLoop (P := P) hl (by simp [rec']), hdone D _ (Nat.le_refl _) (hI.putObj _ hi (by omega) hl rfl) ((World.putObj_heap_other (by omega)).trans hd)⟩
    · exact ⟨some c, _, run_endLoop (P := P) hl (by simp [rec']), hstop D c k _ (Nat.le_refl _) hk ((hIx c).putObj _ hi (by omega) hl rfl) ((World.putObj_heap_other (by omega)).trans hd)⟩
end
end Go.Proofs.YtdpknpgknbkiiaaGreatDoor
namespace Go.Proofs.YtdpknpgknbkiiaaGreatDoor.Bld
open Go Go.Proofs.YtdpknpgknbkiiaaGreatDoor Go.Proofs.YtdpknpgknbkiiaaGreatDoor.Utf Go.RowKit
set_option maxRecDepth 100000
theorem keeps_freeze (W : World) (g n : Nat) : KeepsOthers W (W.freeze ⟨g, 0, none⟩ n) := by
  unfold World.freeze
  split
  · exact KeepsOthers.refl W
  · refine ⟨by simp, fun k o hk ho => ?_⟩
    simp only [Array.getElem?_modify]
    by_cases e : g = k
    · subst e
      rw [if_pos rfl, hk]
      cases o <;> first | rfl | (simp [Obj.isCells] at ho)
    · rw [if_neg e]; exact hk
theorem ptrU8 : Tryz.prog.underlying 76 = some (.pointer 5) := by kernel_rfl
theorem oneU8 : Tryz.prog.cellsOf 5 = 1 := by kernel_rfl
set_option maxHeartbeats 2000000 in
theorem String_some (C b : Nat) (l : List UInt8) (w : World) (h : Is C b l w) (h0 : l ≠ []) :
    Calls Tryz.prog 14 #[.pointer (some ⟨b, 0, none⟩)] w fun e w' => e = .returned (.string (text l)) ∧ Below b w w' ∧ KeepsOthers w w' := by
  obtain ⟨p, hbC, v, hbk, hown⟩ : ∃ p, At C b p l w := h.elim (fun h => ⟨_, h⟩) (fun h => ⟨_, h⟩)
  have hl0 : l.length ≠ 0 := by simpa using h0
  obtain ⟨g, cap, cur, rfl, hbg, hg, hnc, hcm, hcs, htake⟩ : ∃ g cap cur, v = .slice (some ⟨g, 0, none⟩) l.length cap ∧ C ≤ g ∧ w.heap[g]? = some (.cells cur 5 (0, 0)) ∧ l.length ≤ cap ∧ cap ≤ maxLen ∧ cur.size = cap * 1 ∧ cur.toList.take (l.length * 1) = cellsOf l := by
    rcases hown.2 with ⟨_, hz⟩ | ⟨g, cap, cur, hv, r⟩
    · exact absurd hz hl0
    · exact ⟨g, cap, cur, hv, r⟩
  have c1 : w.drew.cell? ⟨b, 1, none⟩ = some (.slice (some ⟨g, 0, none⟩) l.length cap) := by
    have : w.drew.heap[b]? = some (.cells #[p, .slice (some ⟨g, 0, none⟩) l.length cap] 48 (0, 0)) := hbk
    rw [Lib.cell_of_heap this]; rfl
  have hSD : (Builtin.unsafeSliceData_ #[22] 76 #[.slice (some ⟨g, 0, none⟩) l.length cap]).run Tryz.prog w.drew = .ok (.pointer (some ⟨g, 0, none⟩)) w.drew :=
    Lib.run_unsafeSliceData_row _ _ _ _ _ _ (by omega)
  have hUS : (Builtin.unsafeString_ #[76, 3] 9 #[.pointer (some ⟨g, 0, none⟩), .int .i64 l.length]).run Tryz.prog w.drew = .ok (.string (text l)) (w.drew.freeze ⟨g, 0, none⟩ l.length) := by
    refine Lib.run_unsafeString_row w.drew 76 3 9 5 ptrU8 oneU8 g cur.size (by have hg' : w.drew.heap[g]? = some (.cells cur 5 (0, 0)) := hg; simp [World.shape?, hg']) l h0 (by omega) (by unfold maxLen at hcm; omega) ?_
    intro j x hx
    have hlt : j < l.length := (List.getElem?_eq_some_iff.1 hx).1
    have := hown.cells (g := g) rfl j (.int .u8 x.toNat) (by simp [cellsOf, hx])
    exact this
  have HB := hid (Lib.below_freeze (Below.drew (Below.refl b w)) (p := ⟨g, 0, none⟩) (show b ≤ g by omega) l.length)
  have HK := hid ((KeepsOthers.drew w).trans (keeps_freeze w.drew g l.length))
  clear hown htake hcs hnc hg hbk h h0 hl0
  go_enter Tryz.func14, Tryz.ntmps14
  go_wp2
  go_region
  all_goals (go_wp2; go_ret; exact ⟨rfl, HB.out, HK.out⟩)
set_option maxHeartbeats 2000000 in
theorem String_none (C b : Nat) (w : World) (h : Is C b [] w) :
    Calls Tryz.prog 14 #[.pointer (some ⟨b, 0, none⟩)] w fun e w' => e = .returned (.string (text [])) ∧ Below b w w' ∧ KeepsOthers w w' := by
  have hlt : b < w.heap.size := h.elim At.lt At.lt
  obtain ⟨p, hbC, v, hbk, hown⟩ : ∃ p, At C b p [] w := h.elim (fun h => ⟨_, h⟩) (fun h => ⟨_, h⟩)
  have hUS := fun (W : World) (q : Option Addr) => Lib.run_unsafeString_none (P := Tryz.prog) W 76 3 9 q
  rcases hown.2 with ⟨hv, _⟩ | ⟨g, cap, cur, hv, hbg, hg, _, _, _, _⟩
  · have hv' : v = .slice none 0 0 := hv
    subst hv'
    have c1 : w.drew.cell? ⟨b, 1, none⟩ = some (.slice none 0 0) := by
      have : w.drew.heap[b]? = some (.cells #[p, .slice none 0 0] 48 (0, 0)) := hbk
      rw [Lib.cell_of_heap this]; rfl
    have hSD : (Builtin.unsafeSliceData_ #[22] 76 #[.slice none 0 0]).run Tryz.prog w.drew = .ok (.pointer none) w.drew := rfl
    clear hown hbk h hv
    go_enter Tryz.func14, Tryz.ntmps14
    go_wp2
    go_region
    all_goals (go_wp2; go_ret; exact ⟨rfl, Below.drew (Below.refl b w), KeepsOthers.drew w⟩)
  · have hv' : v = .slice (some ⟨g, 0, none⟩) 0 cap := hv
    subst hv'
    by_cases hc0 : cap = 0
    · subst hc0
      have c1 : w.drew.cell? ⟨b, 1, none⟩ = some (.slice (some ⟨g, 0, none⟩) 0 0) := by
        have : w.drew.heap[b]? = some (.cells #[p, .slice (some ⟨g, 0, none⟩) 0 0] 48 (0, 0)) := hbk
        rw [Lib.cell_of_heap this]; rfl
      have hSD : (Builtin.unsafeSliceData_ #[22] 76 #[.slice (some ⟨g, 0, none⟩) 0 0]).run Tryz.prog w.drew = .ok (.pointer (some ⟨w.drew.heap.size, 0, none⟩)) (w.drew.alloc (.view ⟨g, 0, none⟩ 5)) :=
        Lib.run_unsafeSliceData_zero w.drew _ _ 5 ptrU8 ⟨g, 0, none⟩ 0 (5, cur.size) (by have hg' : w.drew.heap[g]? = some (.cells cur 5 (0, 0)) := hg; simp [World.shape?, hg'])
      have c2 : (w.drew.alloc (.view ⟨g, 0, none⟩ 5)).cell? ⟨b, 1, none⟩ = some (.slice (some ⟨g, 0, none⟩) 0 0) := by
        have : (w.drew.alloc (.view ⟨g, 0, none⟩ 5)).heap[b]? = _ := (Lib.alloc_old w.drew _ b hlt).trans hbk
        rw [Lib.cell_of_heap this]; rfl
      have c3 : (w.alloc (.view ⟨g, 0, none⟩ 5)).drew.cell? ⟨b, 1, none⟩ = some (.slice (some ⟨g, 0, none⟩) 0 0) := c2
      have c0 : w.cell? ⟨b, 1, none⟩ = some (.slice (some ⟨g, 0, none⟩) 0 0) := c1
      have HB := hid ((Below.drew (Below.refl b w)).alloc (Nat.le_of_lt hlt) (.view ⟨g, 0, none⟩ 5))
      have HK := hid ((KeepsOthers.drew w).trans (KeepsOthers.alloc w.drew (.view ⟨g, 0, none⟩ 5)))
      clear hown hbk h hv hg
      go_enter Tryz.func14, Tryz.ntmps14
      go_wp2
      go_region
      all_goals (go_wp2; go_ret; exact ⟨rfl, HB.out, HK.out⟩)
    · have c1 : w.drew.cell? ⟨b, 1, none⟩ = some (.slice (some ⟨g, 0, none⟩) 0 cap) := by
        have : w.drew.heap[b]? = some (.cells #[p, .slice (some ⟨g, 0, none⟩) 0 cap] 48 (0, 0)) := hbk
        rw [Lib.cell_of_heap this]; rfl
      have hSD : (Builtin.unsafeSliceData_ #[22] 76 #[.slice (some ⟨g, 0, none⟩) 0 cap]).run Tryz.prog w.drew = .ok (.pointer (some ⟨g, 0, none⟩)) w.drew :=
        Lib.run_unsafeSliceData_row _ _ _ _ _ _ hc0
      clear hc0 hown hbk h hv hg
      go_enter Tryz.func14, Tryz.ntmps14
      go_wp2
      go_region
      all_goals (go_wp2; go_ret; exact ⟨rfl, Below.drew (Below.refl b w), KeepsOthers.drew w⟩)
/-- What a builder holds, as a text; whatever is no cells stays. -/
theorem String_only (C b : Nat) (l : List UInt8) (w : World) (h : Is C b l w) :
    Calls Tryz.prog 14 #[.pointer (some ⟨b, 0, none⟩)] w fun e w' => e = .returned (.string (text l)) ∧ Below b w w' ∧ KeepsOthers w w' := by
  rcases l with _ | ⟨x, r⟩
  · exact String_none C b w h
  · exact String_some C b (x :: r) w h (by simp)
end Go.Proofs.YtdpknpgknbkiiaaGreatDoor.Bld
namespace Go.Proofs.YtdpknpgknbkiiaaGreatDoor.Tree
open Go Go.Proofs.YtdpknpgknbkiiaaGreatDoor Go.Proofs.YtdpknpgknbkiiaaGreatDoor.Utf Go.Proofs.YtdpknpgknbkiiaaGreatDoor.Names Go.Proofs.YtdpknpgknbkiiaaGreatDoor.Ent Go.Proofs.YtdpknpgknbkiiaaGreatDoor.Tok Go.RowKit
set_option maxRecDepth 100000
/-- One of a row's nodes. -/
theorem nodes_at {P : Program} {w : World} {v : Value} {r : List (Node × Value × Value)} (h2 : Row 6 w v r.length (r.flatMap ncells)) (i : Nat) (hi : i < r.length) (t e : TypeId) (ht : P.underlying t = some (.slice e)) (hs : ∀ W, (sizeOf e).run P W = .ok 6 W) :
    ∃ b o, (∀ k W, (Instr.indexAt t v (.int k i)).run P W = .ok (.pointer (some ⟨b, o, none⟩)) W) ∧
      w.cell? ⟨b, o, none⟩ = some (.int .i64 r[i].1.place) ∧ w.cell? ⟨b, o + 1, none⟩ = some (.string (text r[i].1.nm.1)) ∧ w.cell? ⟨b, o + 2, none⟩ = some (.string (text r[i].1.nm.2)) ∧
      w.cell? ⟨b, o + 3, none⟩ = some r[i].2.1 ∧ w.cell? ⟨b, o + 4, none⟩ = some r[i].2.2 ∧ w.cell? ⟨b, o + 5, none⟩ = some (.string (text r[i].1.text)) := by
  obtain ⟨b, o, a1, a2⟩ := Row.at h2 (by omega) i hi t e ht hs
  have g : ∀ j, j < 6 → (r.flatMap ncells)[i * 6 + j]? = (ncells r[i])[j]? := fun j hj => by
    rw [flat_get 6 ncells (fun _ => rfl) r i j hj, List.getElem?_eq_getElem hi]; rfl
  exact ⟨b, o, a1, by simpa using a2 0 _ (by omega) (by rw [g 0 (by omega)]; rfl), a2 1 _ (by omega) (by rw [g 1 (by omega)]; rfl), a2 2 _ (by omega) (by rw [g 2 (by omega)]; rfl), a2 3 _ (by omega) (by rw [g 3 (by omega)]; rfl), a2 4 _ (by omega) (by rw [g 4 (by omega)]; rfl), a2 5 _ (by omega) (by rw [g 5 (by omega)]; rfl)⟩
/-- What a round leaves: what lay in the beginning, but for one block and those from N on; and the iterator's box. -/
def KpB (N b : Nat) (A B : World) : Prop := (∀ j, j < N → B.heap[j]? = A.heap[j]?) ∧ B.heap[b]? = A.heap[b]?
theorem KpB.trans {N b : Nat} {A B C : World} (h : KpB N b A B) (k : KpB N b B C) : KpB N b A C := ⟨fun j hj => (k.1 j hj).trans (h.1 j hj), k.2.trans h.2⟩
theorem KpB.refl (N b : Nat) (A : World) : KpB N b A A := ⟨fun _ _ => rfl, rfl⟩
theorem KpB.put {N b : Nat} (W : World) (l : Nat) (o : Obj) (h1 : N ≤ l) (h2 : b < l) : KpB N b W (W.putObj l o) :=
  ⟨fun j hj => World.putObj_heap_other (by omega), World.putObj_heap_other (by omega)⟩
theorem KpB.cell {N b : Nat} {A B : World} (h : KpB N b A B) {p : Addr} {x : Value} (hp : p.block < N) (hc : A.cell? p = some x) : B.cell? p = some x := by
  simp only [World.cell?] at hc ⊢
  rw [h.1 _ hp]; exact hc
/-- What the iterator gives of the child i. -/
def backSnd (r : List (Node × Value × Value)) (i : Nat) : Value := match r[i]? with | some x => nodeV x.1 x.2.1 x.2.2 | none => undef
def backVal (r : List (Node × Value × Value)) (i : Nat) : Array Value := #[.int .i64 i, backSnd r i]
theorem rev_at (m k : Nat) (hk : k < m) : (List.range m).reverse[k]? = some (m - 1 - k) := by
  rw [List.getElem?_reverse (by simpa using hk), List.length_range, List.getElem?_range (by omega)]

set_option maxHeartbeats 4000000 in
theorem back_tells (n : Nat) (hn : 1 ≤ n) (w : World) (b1 N : Nat) (ko : Option Addr) (kn kc : Nat) (r : List (Node × Value × Value)) (hbx : Boxed w b1 27 (.slice ko kn kc)) (hN : N ≤ w.heap.size)
    (hrow : Row 6 w (.slice ko kn kc) r.length (r.flatMap ncells)) (hlow : 0 < r.length → ∀ b, (Value.slice ko kn kc).ownBlock = some b → b < N) (hfr : ∀ x ∈ r, (∃ o m c, x.2.1 = .slice o m c) ∧ ∃ o m c, x.2.2 = .slice o m c) (hm : r.length ≤ 1000000) :
    TellsA Fence.wide n Tryz.prog 21 #[.pointer (some ⟨b1, 0, none⟩)] (backVal r) Eq (KpB N b1) (List.range r.length).reverse w := by
  intro lp J Jx W hW hJ hJx hY h0
  refine callsIn_of_wp Tryz.func21 rfl trivial ?_ rfl
  simp only [Tryz.ntmps21, List.size_toArray, List.length_cons, List.length_nil, Nat.reduceAdd, Nat.reduceSub, Array.replicate_succ, Array.replicate_zero, List.push_toArray, List.append_toArray, List.nil_append, List.cons_append]
  have HR0 := hid hrow
  have b1w : b1 < w.heap.size := lt_of_some hbx
  have HK0 := hid (show KpB N b1 w W from ⟨fun j hj => hW.block j (by omega), hW.block b1 b1w⟩)
  have hlen := fun X => Row.len (P := Tryz.prog) hrow 27 3 29 undN X
  have hc1 : W.cell? ⟨b1, 0, none⟩ = some (.slice ko kn kc) := Boxed.cell (HK0.out.2.trans hbx)
  have H0 := hid h0
  clear h0 hW hrow
  gi_wp2
  gi_loopw [3] (fun i wr => ∃ k : Nat, i = .int .i64 ((r.length : Int) - 1 - k) ∧ k ≤ r.length ∧ J k wr ∧ KpB N b1 w wr) (fun i _ => (intOf i + 1).toNat)
  case atStart => exact ⟨0, by go_num, by omega, H0.out, HK0.out⟩
  case round =>
    obtain ⟨k, rfl, hk, hj, hkp⟩ := hrel
    have cb : wr.cell? ⟨b1, 0, none⟩ = some (.slice ko kn kc) := Boxed.cell (hkp.2.trans hbx)
    have HKP := hid hkp
    have HJ := hid hj
    by_cases hlt : k < r.length
    · have hnn : (0 : Int) ≤ (r.length : Int) - 1 - k := by omega
      have hx := rev_at r.length k hlt
      have hrr := Row.same (w' := wr) (by omega) HR0.out (fun hn b hb _ => HKP.out.1 b (hlow hn b hb))
      obtain ⟨b, o, ix, e0, e1, e2, e3, e4, e5⟩ := nodes_at (P := Tryz.prog) hrr (r.length - 1 - k) (by omega) 27 29 undN sizN
      have ix' := ix .i64
      rw [show ((r.length - 1 - k : Nat) : Int) = (r.length : Int) - 1 - k by omega] at ix'
      have hval : backVal r (r.length - 1 - k) = #[.int .i64 ((r.length : Int) - 1 - k), nodeV r[r.length - 1 - k].1 r[r.length - 1 - k].2.1 r[r.length - 1 - k].2.2] := by
        unfold backVal backSnd
        rw [List.getElem?_eq_getElem (by omega), show ((r.length - 1 - k : Nat) : Int) = (r.length : Int) - 1 - k by omega]
      obtain ⟨⟨xo, xn, xc, hx1⟩, yo, yn, yc, hy1⟩ := hfr _ (List.getElem_mem (show r.length - 1 - k < r.length by omega))
      rw [hx1] at e3 hval
      rw [hy1] at e4 hval
      obtain ⟨fn, tmps, assign, body, hy, hR⟩ := hY k _ wr hx hj
      rw [hval] at hy
      unfold nodeV at hy
      have HR := hid hR
      clear hR hx hj hkp hval hrr ix hx1 hy1
      gi_wp2
      refine HR.out.mono ?_
      rintro e W3 (⟨rfl, hJ3, hk3⟩ | ⟨rfl, hJx3⟩)
      · have HJ3 := hid hJ3
        have HK3 := hid (HKP.out.trans hk3)
        clear hJ3 hk3
        gi_wp2
        go_roundw
        case rel => exact ⟨k + 1, by go_num, by omega, HJ3.out, HK3.out⟩
        case measure => simp [intOf]; omega
      · gi_wp2
        refine bodyPost_ret (results_none rfl _ _ _) rfl ?_
        exact ⟨⟨_, rfl⟩, .inr ⟨k + 1, by rw [List.length_reverse, List.length_range]; omega, hJx3⟩⟩
    · have hke : k = r.length := by omega
      subst hke
      clear hj hkp
      gi_wp2
      go_end0
      refine ⟨⟨_, rfl⟩, .inl ?_⟩
      rw [List.length_reverse, List.length_range]
      exact HJ.out
end Go.Proofs.YtdpknpgknbkiiaaGreatDoor.Tree
namespace Go.Proofs.YtdpknpgknbkiiaaGreatDoor.Bld
open Go Go.Proofs.YtdpknpgknbkiiaaGreatDoor Go.Proofs.YtdpknpgknbkiiaaGreatDoor.Utf Go.RowKit
set_option maxRecDepth 100000
/-- Whatever lay stays, but for block b and rows of bytes. -/
def NoBytes (b : Nat) (w w' : World) : Prop := ∀ k, k < w.heap.size → k ≠ b → (∀ cs, w.heap[k]? ≠ some (.cells cs 5 (0, 0))) → w'.heap[k]? = w.heap[k]?
theorem copyCheck_only (C b : Nat) (l : List UInt8) (w : World) (h : Is C b l w) :
    Calls Tryz.prog 20 #[.pointer (some ⟨b, 0, none⟩)] w fun e w' => e = .returned (.tuple #[]) ∧ At C b (.pointer (some ⟨b, 0, none⟩)) l w' ∧ But C b w w' ∧ ∀ k, k ≠ b → w'.heap[k]? = w.heap[k]? := by
  rcases h with h | h
  · have hu := h.used (.pointer (some ⟨b, 0, none⟩))
    obtain ⟨_, v, hb, _⟩ := h
    refine (copyCheck_fresh b w (by rw [Lib.cell_of_heap hb]; rfl) (by simp [World.shape?, hb]) (Lib.frozen_of_heap hb 0)).mono ?_
    rintro e w' ⟨rfl, rfl⟩
    exact ⟨rfl, hu, But.setCell _ _ _ _ _, fun k hk => Below.heap_setCell w ⟨b, 0, none⟩ _ k hk⟩
  · have h2 := h
    obtain ⟨_, v, hb, _⟩ := h
    refine (copyCheck_used b w (by rw [Lib.cell_of_heap hb]; rfl)).mono ?_
    rintro e w' ⟨rfl, rfl⟩
    exact ⟨rfl, h2, But.refl _ _ _, fun _ _ => rfl⟩
set_option maxHeartbeats 2000000 in
theorem WriteString_only (C b : Nat) (l m : List UInt8) (w : World) (h : Is C b l w) (hlen : l.length + m.length ≤ 140737488355328) (hC : C ≤ w.heap.size) :
    Calls Tryz.prog 12 #[.pointer (some ⟨b, 0, none⟩), .string (text m)] w fun e w' => e = .returned (.tuple #[.int .i64 m.length, .nilIface]) ∧ Is C b (l ++ m) w' ∧ But C b w w' ∧ NoBytes b w w' := by
  obtain ⟨i0, hi, hz0, hz1, hz2⟩ := info_parts infoU8
  go_enter Tryz.func12, Tryz.ntmps12
  go_wp2_with fail
  refine (copyCheck_only C b l _ h).mono ?_
  rintro e w1 ⟨rfl, hA, hb1, hn1⟩
  have hlt := hA.lt
  obtain ⟨hbC, v, hbk, hown⟩ := hA
  have hz := hb1.size
  have c0 : w1.cell? ⟨b, 0, none⟩ = some (.pointer (some ⟨b, 0, none⟩)) := by rw [Lib.cell_of_heap hbk]; rfl
  have c1 : w1.cell? ⟨b, 1, none⟩ = some v := by rw [Lib.cell_of_heap hbk]; rfl
  have hsz : (text m).size = m.length := text_size m
  have HO := hid hown
  have HK := hid hbk
  have HN := hid hn1
  clear hn1
  have HS := hid hsz
  clear hown hbk hsz
  go_wp2_with (at_builtin; refine Lib.wpList_append_own_string _ rfl _ _ 22 9 rfl C 5 i0 underB under9 hi hz0 hz1 hz2 _ _ _ rfl HO.out (text m) rfl ?c3 ?c4 ?c5 ?_)
  case c3 => rw [HS.out]; unfold maxLen; omega
  case c4 => rw [HS.out]; omega
  case c5 => omega
  intro v' w2 hown' hgrow _
  rw [HS.out, strCells_text, ← cellsOf_append] at hown'
  have hne : v.ownBlock ≠ some b := fun e => by have := (HO.out.lt b e).1; omega
  have hb2 : w2.heap[b]? = some (.cells #[.pointer (some ⟨b, 0, none⟩), v] 48 (0, 0)) := by
    rw [hgrow.block b hlt (fun e => hne e.symm)]
    exact HK.out
  have d0 : w2.cell? ⟨b, 0, none⟩ = some (.pointer (some ⟨b, 0, none⟩)) := by rw [Lib.cell_of_heap hb2]; rfl
  have d1 : w2.cell? ⟨b, 1, none⟩ = some v := by rw [Lib.cell_of_heap hb2]; rfl
  have f1 : w2.frozen? ⟨b, 1, none⟩ = false := Lib.frozen_of_heap hb2 1
  obtain ⟨ao, n', cap, rfl⟩ : ∃ ao n' cap, v' = .slice ao n' cap := by
    rcases hown'.2 with ⟨hv, _⟩ | ⟨g, cap, cur, hv, _⟩
    · exact ⟨_, _, _, hv⟩
    · exact ⟨_, _, _, hv⟩
  have HB2 := hid hb2
  have HO' := hid hown'
  clear hb2 hown'
  go_wp2
  go_ret2
  refine ⟨by rw [HS.out]; rfl, .inr ?_, ?_, ?_⟩
  · exact At.put hbC HB2.out (by simpa using HO'.out)
  · exact (hb1.trans (But.grown hgrow (by omega) (fun k hk => (HO.out.lt k hk).1))).trans (But.setCell _ _ _ _ _)
  · intro k hk hkb hno
    have h1 := HN.out k hkb
    refine ((Below.heap_setCell w2 ⟨b, 1, none⟩ _ k hkb).trans (hgrow.block k (by omega) (fun e => ?_))).trans h1
    obtain ⟨_, _, cs, hcs⟩ := Tree.own_ty HO.out e.symm
    exact hno cs (by rw [← h1]; exact hcs)
end Go.Proofs.YtdpknpgknbkiiaaGreatDoor.Bld
namespace Go.Proofs.YtdpknpgknbkiiaaGreatDoor.Tree
open Go Go.Proofs.YtdpknpgknbkiiaaGreatDoor Go.Proofs.YtdpknpgknbkiiaaGreatDoor.Utf Go.Proofs.YtdpknpgknbkiiaaGreatDoor.Names Go.Proofs.YtdpknpgknbkiiaaGreatDoor.Ent Go.Proofs.YtdpknpgknbkiiaaGreatDoor.Tok Go.RowKit
set_option maxRecDepth 100000
theorem Backward_any (ko : Option Addr) (kn kc : Nat) (w : World) : Calls Tryz.prog 13 #[.slice ko kn kc] w fun e w' => e = .returned (.func (.func 21) #[] #[.pointer (some ⟨w.heap.size, 0, none⟩)]) ∧ w' = w.alloc (.cells #[.slice ko kn kc] 27) := by
  go_enter Tryz.func13, Tryz.ntmps13
  go_wp2
  go_ret
  exact ⟨rfl, rfl⟩
end Go.Proofs.YtdpknpgknbkiiaaGreatDoor.Tree
namespace Go.Proofs.YtdpknpgknbkiiaaGreatDoor.Tree
open Go Go.Proofs.YtdpknpgknbkiiaaGreatDoor Go.Proofs.YtdpknpgknbkiiaaGreatDoor.Utf Go.Proofs.YtdpknpgknbkiiaaGreatDoor.Names Go.Proofs.YtdpknpgknbkiiaaGreatDoor.Ent Go.Proofs.YtdpknpgknbkiiaaGreatDoor.Tok Go.RowKit
set_option maxRecDepth 100000
/-- The builder stands at W1's end, behind it the first row, behind that the box of the row of nodes that are left. -/
structure TxS (W1 : World) (wr : List UInt8) (ps : List Value) (lv : Value) (X : World) : Prop where
  bel : Below W1.heap.size W1 X
  bld : Bld.Is (W1.heap.size + 1) W1.heap.size wr X
  box : Boxed X (W1.heap.size + 2) 49 lv
  row : X.ownsRow (W1.heap.size + 1) 41 1 lv ps.length ps
variable {W1 X X' : World} {wr : List UInt8} {ps : List Value} {lv : Value}
theorem TxS.same (h : TxS W1 wr ps lv X) (hb : Below W1.heap.size W1 X') (hc : ∀ (k : Nat) (cs : Array Value) (e : TypeId), X.heap[k]? = some (.cells cs e (0, 0)) → X'.heap[k]? = X.heap[k]?) : TxS W1 wr ps lv X' := by
  refine ⟨hb, ?_, (hc _ _ _ h.box).trans h.box, own_same h.row (fun b hb => ?_)⟩
  · rcases h.bld with ⟨h1, v, h2, h3⟩ | ⟨h1, v, h2, h3⟩
    · exact .inl ⟨h1, v, (hc _ _ _ h2).trans h2, own_same h3 (fun b hb => by obtain ⟨_, _, cs, e⟩ := own_ty h3 hb; exact hc _ _ _ e)⟩
    · exact .inr ⟨h1, v, (hc _ _ _ h2).trans h2, own_same h3 (fun b hb => by obtain ⟨_, _, cs, e⟩ := own_ty h3 hb; exact hc _ _ _ e)⟩
  · obtain ⟨_, _, cs, e⟩ := own_ty h.row hb
    exact hc _ _ _ e
theorem TxS.later (h : TxS W1 wr ps lv X) (hb : Below X.heap.size X X') : TxS W1 wr ps lv X' :=
  h.same (h.bel.trans (hb.mono h.bel.size)) (fun k cs e hk => hb.block k (lt_of_some hk))
theorem TxS.turn (h : TxS W1 wr ps lv X) {row : Option Nat} (hg : X.grownBy X' row) (hr : ∀ b, row = some b → W1.heap.size ≤ b ∧ ∃ o : Obj, X.heap[b]? = some o ∧ o.isCells = false) : TxS W1 wr ps lv X' :=
  h.same (h.bel.grown hg h.bel.size (fun k e => (hr k e).1)) (fun k cs e hk => hg.block k (lt_of_some hk) (fun e' => by
    obtain ⟨_, o, h1, h2⟩ := hr k e'.symm
    rw [hk] at h1
    cases h1
    cases h2))
theorem TxS.bblk (h : TxS W1 wr ps lv X) : ∃ cs, X.heap[W1.heap.size]? = some (.cells cs 48 (0, 0)) := by
  rcases h.bld with ⟨h1, v, h2, h3⟩ | ⟨h1, v, h2, h3⟩ <;> exact ⟨_, h2⟩
/-- Another row in the box. -/
theorem TxS.set (h : TxS W1 wr ps lv X) (ps' : List Value) (lv' : Value) (ho : X.ownsRow (W1.heap.size + 1) 41 1 lv' ps'.length ps') : TxS W1 wr ps' lv' (X.setCell ⟨W1.heap.size + 2, 0, none⟩ lv') := by
  have hs : ∀ b, b ≠ W1.heap.size + 2 → (X.setCell ⟨W1.heap.size + 2, 0, none⟩ lv').heap[b]? = X.heap[b]? := fun b hb => Below.heap_setCell X ⟨W1.heap.size + 2, 0, none⟩ lv' b hb
  have hbx := h.box
  refine ⟨h.bel.setCell (p := ⟨W1.heap.size + 2, 0, none⟩) (by simp) _, ?_, hbx.set lv', own_same ho (fun b hb => hs b (fun e => ?_))⟩
  · rcases h.bld with ⟨h1, v, h2, h3⟩ | ⟨h1, v, h2, h3⟩
    · exact .inl ⟨h1, v, (hs _ (by omega)).trans h2, own_same h3 (fun b hb => hs b (fun e => by
        obtain ⟨_, _, cs, hc⟩ := own_ty h3 hb
        rw [e] at hc
        have := hbx.symm.trans hc
        injection this with this; injection this with _ this; revert this; decide))⟩
    · exact .inr ⟨h1, v, (hs _ (by omega)).trans h2, own_same h3 (fun b hb => hs b (fun e => by
        obtain ⟨_, _, cs, hc⟩ := own_ty h3 hb
        rw [e] at hc
        have := hbx.symm.trans hc
        injection this with this; injection this with _ this; revert this; decide))⟩
  · obtain ⟨_, _, cs, hc⟩ := own_ty ho hb
    rw [e] at hc
    have := hbx.symm.trans hc
    injection this with this; injection this with _ this; revert this; decide
/-- The row grown, and not yet in the box. -/
theorem TxS.grow (h : TxS W1 wr ps lv X) (hg : X.grownBy X' lv.ownBlock) : Below W1.heap.size W1 X' ∧ Bld.Is (W1.heap.size + 1) W1.heap.size wr X' ∧ Boxed X' (W1.heap.size + 2) 49 lv := by
  have hs : ∀ (k : Nat) (cs : Array Value) (e : TypeId), e ≠ 41 → X.heap[k]? = some (.cells cs e (0, 0)) → X'.heap[k]? = X.heap[k]? := fun k cs e hne hk => hg.block k (lt_of_some hk) (fun e' => by
    obtain ⟨_, _, cs', hc⟩ := own_ty h.row e'.symm
    have := hk.symm.trans hc
    injection this with this; injection this with _ this; exact hne this)
  refine ⟨h.bel.grown hg h.bel.size (fun k e => by have := (own_ty h.row e).1; omega), ?_, (hs _ _ _ (by decide) h.box).trans h.box⟩
  rcases h.bld with ⟨h1, v, h2, h3⟩ | ⟨h1, v, h2, h3⟩
  · exact .inl ⟨h1, v, (hs _ _ _ (by decide) h2).trans h2, own_same h3 (fun b hb => by obtain ⟨_, _, cs, e⟩ := own_ty h3 hb; exact hs _ _ _ (by decide) e)⟩
  · exact .inr ⟨h1, v, (hs _ _ _ (by decide) h2).trans h2, own_same h3 (fun b hb => by obtain ⟨_, _, cs, e⟩ := own_ty h3 hb; exact hs _ _ _ (by decide) e)⟩
theorem TxS.push (h : TxS W1 wr ps lv X) (hg : X.grownBy X' lv.ownBlock) (ps' : List Value) (lv' : Value) (ho : X'.ownsRow (W1.heap.size + 1) 41 1 lv' ps'.length ps') : TxS W1 wr ps' lv' (X'.setCell ⟨W1.heap.size + 2, 0, none⟩ lv') := by
  obtain ⟨h1, h2, h3⟩ := h.grow hg
  have hbx := h3
  have hs : ∀ b, b ≠ W1.heap.size + 2 → (X'.setCell ⟨W1.heap.size + 2, 0, none⟩ lv').heap[b]? = X'.heap[b]? := fun b hb => Below.heap_setCell X' ⟨W1.heap.size + 2, 0, none⟩ lv' b hb
  have hno : ∀ (b : Nat) (cs : Array Value) (e : TypeId), e ≠ 49 → X'.heap[b]? = some (.cells cs e (0, 0)) → b ≠ W1.heap.size + 2 := fun b cs e hne hc hb => by
    rw [hb] at hc
    have := hbx.symm.trans hc
    injection this with this; injection this with _ this; exact hne this.symm
  refine ⟨h1.setCell (p := ⟨W1.heap.size + 2, 0, none⟩) (by simp) _, ?_, hbx.set lv', own_same ho (fun b hb => hs b ?_)⟩
  · rcases h2 with ⟨h4, v, h5, h6⟩ | ⟨h4, v, h5, h6⟩
    · exact .inl ⟨h4, v, (hs _ (by omega)).trans h5, own_same h6 (fun b hb => hs b (by obtain ⟨_, _, cs, hc⟩ := own_ty h6 hb; exact hno _ _ _ (by decide) hc))⟩
    · exact .inr ⟨h4, v, (hs _ (by omega)).trans h5, own_same h6 (fun b hb => hs b (by obtain ⟨_, _, cs, hc⟩ := own_ty h6 hb; exact hno _ _ _ (by decide) hc))⟩
  · obtain ⟨_, _, cs, hc⟩ := own_ty ho hb
    exact hno _ _ _ (by decide) hc
/-- More text. -/
theorem TxS.wrote (h : TxS W1 wr ps lv X) {wr' : List UInt8} (h1 : Bld.Is (W1.heap.size + 1) W1.heap.size wr' X') (h2 : Bld.But (W1.heap.size + 1) W1.heap.size X X') (h3 : Bld.NoBytes W1.heap.size X X') : TxS W1 wr' ps lv X' := by
  have hs : ∀ (k : Nat) (cs : Array Value) (e : TypeId), e ≠ 5 → k ≠ W1.heap.size → X.heap[k]? = some (.cells cs e (0, 0)) → X'.heap[k]? = X.heap[k]? := fun k cs e hne hkb hk => h3 k (lt_of_some hk) hkb (fun cs' hc => by
    have := hk.symm.trans hc
    injection this with this; injection this with _ this; exact hne this)
  refine ⟨h.bel.trans (h2.below (Nat.le_refl _) (by omega)), h1, (hs _ _ _ (by decide) (by omega) h.box).trans h.box, own_same h.row (fun b hb => ?_)⟩
  obtain ⟨h4, _, cs, hc⟩ := own_ty h.row hb
  exact hs _ _ _ (by decide) (by omega) hc
theorem TxS.others (h : TxS W1 wr ps lv X) (h2 : Bld.But (W1.heap.size + 1) W1.heap.size X X') (h3 : Bld.NoBytes W1.heap.size X X') : KeepsOthers X X' := by
  refine ⟨h2.size, fun k o hk ho => ?_⟩
  obtain ⟨cs, hb⟩ := h.bblk
  refine (h3 k (lt_of_some hk) (fun e => ?_) (fun cs' hc => ?_)).trans hk
  · rw [e, hb] at hk
    cases hk
    cases ho
  · rw [hk] at hc
    cases hc
    cases ho
theorem TxS.grows (h : TxS W1 wr ps lv X) (hg : X.grownBy X' lv.ownBlock) : KeepsOthers X X' := by
  refine ⟨hg.size, fun k o hk ho => (hg.block k (lt_of_some hk) (fun e => ?_)).trans hk⟩
  obtain ⟨_, _, cs, hc⟩ := own_ty h.row e.symm
  rw [hk] at hc
  cases hc
  cases ho
end Go.Proofs.YtdpknpgknbkiiaaGreatDoor.Tree
namespace Go.Proofs.YtdpknpgknbkiiaaGreatDoor.Rnd
open Go
section
variable {F : Fence} {n : Nat} {P : Program}
/-- A loop of a known number of rounds, told by a state. -/
theorem trounds_by {Q : Exit → Act → World → Prop} {c : Code} (St : Nat → Act → World → Prop) (m : Nat)
    (hstep : ∀ j a w, j < m → St j a w → ∀ K : Act → World → Prop, (∀ a' w', St (j + 1) a' w' → K a' w') → c.wpIn F n P (Exit.then K Q) a w)
    (hlast : ∀ a w, St m a w → ∀ K : Act → World → Prop, c.wpIn F n P (Exit.then K Q) a w) {a : Act} {w : World} (h0 : St 0 a w) : (Code.loop c).wpIn F n P Q a w := by
  refine wpIn_loop_rounds (m + 1) ?_
  have key : ∀ r j a w, j + r = m → St j a w → Code.roundsIn F n P c Q (r + 1) a w := by
    intro r
    induction r with
    | zero =>
      intro j a w hj hs
      rw [roundsIn_succ]
      have e : j = m := by omega
      subst e
      exact hlast a w hs _
    | succ r ih =>
      intro j a w hj hs
      rw [roundsIn_succ]
      exact hstep j a w (by omega) hs _ (fun a' w' h => ih (j + 1) a' w' (by omega) h)
  exact key m 0 a w (by omega) h0

/-- The marks on the activation's deferred calls: each leads to a block from B on, below N, that holds none. -/
def TMarks (B N : Nat) : List Deferred → World → Prop
  | [], _ => True
  | d :: r, W => (∃ D, d = { target := .collected D, args := #[] } ∧ B ≤ D ∧ D < N ∧ W.heap[D]? = some (.deferred (some [])) ∧ TMarks B D r W)
theorem TMarks.up {B N N' : Nat} {ds : List Deferred} {W : World} (h : TMarks B N ds W) (hN : N ≤ N') : TMarks B N' ds W := by
  cases ds with
  | nil => trivial
  | cons d r => obtain ⟨D, h1, h2, h3, h4, h5⟩ := h; exact ⟨D, h1, h2, by omega, h4, h5⟩
theorem TMarks.keep {B : Nat} {W W' : World} : ∀ {ds : List Deferred} {N : Nat}, TMarks B N ds W → (∀ j, j < N → W.heap[j]? = some (.deferred (some [])) → W'.heap[j]? = some (.deferred (some []))) → TMarks B N ds W'
  | [], _, _, _ => trivial
  | d :: r, N, ⟨D, h1, h2, h3, h4, h5⟩, hk => ⟨D, h1, h2, h3, hk D h3 h4, h5.keep (fun j hj => hk j (by omega))⟩
/-- At the return all of them are taken up. -/
theorem tleaves_marks {fn : Func} {tmps : Array Value} {R : Ending → World → Prop} (G : World → Prop) (B : Nat) (hG : ∀ W D o, G W → B ≤ D → W.heap[D]? = some (.deferred (some [])) → G (W.putObj D o))
    (hend : ∀ W, G W → LeavesInM F n P fn tmps R [] .returning W) : ∀ (ds : List Deferred) (N : Nat) (W : World), TMarks B N ds W → G W → LeavesInM F n P fn tmps R ds .returning W
  | [], N, W, _, hg => hend W hg
  | d :: r, N, W, ⟨D, h1, h2, h3, h4, h5⟩, hg => by
    subst h1
    refine ⟨by simp, .inl ⟨_, _, rfl, run_takeDeferred h4, ?_⟩⟩
    exact tleaves_marks G B hG hend r D _ (h5.keep (fun j hj h => (World.putObj_heap_other (by omega)).trans h)) (hG W D _ hg h2 h4)
end


end Go.Proofs.YtdpknpgknbkiiaaGreatDoor.Rnd
namespace Go.Proofs.YtdpknpgknbkiiaaGreatDoor.Tree
open Go Go.Proofs.YtdpknpgknbkiiaaGreatDoor Go.Proofs.YtdpknpgknbkiiaaGreatDoor.Utf Go.Proofs.YtdpknpgknbkiiaaGreatDoor.Names Go.Proofs.YtdpknpgknbkiiaaGreatDoor.Ent Go.Proofs.YtdpknpgknbkiiaaGreatDoor.Tok Go.Proofs.YtdpknpgknbkiiaaGreatDoor.Rnd Go.RowKit
set_option maxRecDepth 100000
attribute [local go_sem] Oper.semAt_some
attribute [-go_sem] Builtin.append_

/-- A node that is left. -/
structure Nd where
  b : Nat
  o : Nat
  n : Node
  av : Value
  kv : Value
def Nd.ptr (f : Nd) : Value := .pointer (some ⟨f.b, f.o, none⟩)
def Nd.Ok (W1 : World) (f : Nd) : Prop := NodeAt W1 f.b f.o f.n f.av f.kv
def ndTotal (st : List Nd) : Nat := sizeL (st.map Nd.n)
theorem ndTotal_snoc (st : List Nd) (f : Nd) : ndTotal (st ++ [f]) = ndTotal st + f.n.size := by simp [ndTotal, sizeL_append, sizeL]
theorem undPt : Tryz.prog.underlying 49 = some (.slice 41) := Tryz.underlying49
theorem sizPt (W : World) : (sizeOf 41).run Tryz.prog W = .ok 1 W := Tryz.sizeOf41 W
theorem infoPt : (Tryz.prog.info? 41).map (fun i => (i.zero, i.size, i.bytes)) = some (some (.pointer none), 1, 8) := by kernel_rfl
theorem sizeL_rev (l : List Node) : sizeL l.reverse = sizeL l := by
  induction l with
  | nil => rfl
  | cons n r ih => rw [List.reverse_cons, sizeL_append, ih]; simp [sizeL]; omega
def TSt (W W1 : World) (n : Node) (ao : Option Addr) (an ac : Nat) (ko : Option Addr) (kn kc : Nat) (u8 : Value) (j : Nat) (a : Go.Act) (X : World) : Prop :=
  ∃ (u5 u6 u9 u10 u11 u12 u13 u14 u15 u16 u17 u18 u19 u20 u21 u22 u23 u24 u25 u26 u27 u28 u29 u30 u31 : Value) (ds : List Deferred) (st : List Nd) (lv : Value) (wr : List UInt8), a = { tmps := #[nodeV n (.slice ao an ac) (.slice ko kn kc), .pointer (some ⟨W.heap.size, 0, none⟩), .string (text []), .pointer (some ⟨W.heap.size + 1, 0, none⟩), .pointer (some ⟨W.heap.size + 3, 0, none⟩), u5, u6, undef, u8, u9, u10, u11, u12, u13, u14, u15, u16, u17, u18, u19, u20, u21, u22, u23, u24, u25, u26, u27, u28, u29, u30, u31, undef, undef, undef, undef, undef, undef, undef, undef, undef, undef, undef, undef], defers := ds } ∧ ndTotal st + j = n.size ∧ TxS W1 wr (st.map Nd.ptr) lv X ∧ (∀ f ∈ st, f.Ok W1) ∧ wr ++ allL (st.reverse.map Nd.n) = n.all ∧ TMarks (W1.heap.size + 3) X.heap.size ds X
set_option maxHeartbeats 8000000 in
theorem Text_in {W : World} {n : Node} {ao : Option Addr} {an ac : Nat} {ko : Option Addr} {kn kc : Nat} (h : IsN W (fun _ => False) n (.slice ao an ac) (.slice ko kn kc)) (hz : n.size ≤ 1000000) (hl : n.all.length ≤ 1000000000)
    (hS : ∀ (C b : Nat) (l : List UInt8) (X : World), Bld.Is C b l X → Calls Tryz.prog 14 #[.pointer (some ⟨b, 0, none⟩)] X fun e X' => e = .returned (.string (text l)) ∧ Below b X X' ∧ KeepsOthers X X') :
    CallsIn Fence.wide 9 Tryz.prog 8 #[nodeV n (.slice ao an ac) (.slice ko kn kc)] W fun e w' => e = .returned (.string (text n.all)) ∧ Below W.heap.size W w' := by
  have g1 : Fence.wide.fn 12 := trivial
  have g2 : Fence.wide.fn 14 := trivial
  have g3 : Fence.wide.fn 13 := trivial
  obtain ⟨i0, hi0, hz0, hz1, hz2⟩ := info_parts infoPt
  obtain ⟨W1, hW1⟩ : ∃ W1, W.alloc (.cells #[.int .i64 n.place, .string (text n.nm.1), .string (text n.nm.2), .slice ao an ac, .slice ko kn kc, .string (text n.text)] 29) = W1 := ⟨_, rfl⟩
  have s1 : W1.heap.size = W.heap.size + 1 := by rw [← hW1]; simp
  have B1 : Below W.heap.size W W1 := by rw [← hW1]; exact ba (b0 W) _
  have pn : W1.heap[W.heap.size]? = some (.cells #[.int .i64 n.place, .string (text n.nm.1), .string (text n.nm.2), .slice ao an ac, .slice ko kn kc, .string (text n.text)] 29) := by rw [← hW1]; exact heap_alloc_new W _
  have hn : NodeAt W1 W.heap.size 0 n (.slice ao an ac) (.slice ko kn kc) := ⟨by rw [Lib.cell_of_heap pn]; rfl, by rw [Lib.cell_of_heap pn]; rfl, by rw [Lib.cell_of_heap pn]; rfl, by rw [Lib.cell_of_heap pn]; rfl, by rw [Lib.cell_of_heap pn]; rfl, by rw [Lib.cell_of_heap pn]; rfl, h.to (fun _ _ x => x) (Keep.of_below B1)⟩
  have HN := hid hn
  have HB1 := hid B1
  have HI := hid hi0
  clear h pn hn B1 hi0
  refine callsIn_of_wp_marks Tryz.func8 rfl trivial ?_ rfl
  unfold nodeV
  simp only [Tryz.ntmps8, List.size_toArray, List.length_cons, List.length_nil, Nat.reduceAdd, Nat.reduceSub, Array.replicate_succ, Array.replicate_zero, List.push_toArray, List.append_toArray, List.nil_append, List.cons_append]
  gi_wp2
  refine trounds_by (TSt W W1 n ao an ac ko kn kc (.slice (some ⟨W.heap.size + 2, 0, none⟩) 1 1)) n.size ?step ?last ?start
  case start =>
    have hr := World.ownsRow_lit (size := 1) (base := W1.heap.size + 1) (e := 41) (W1.alloc (.cells #[.pointer none, .slice none 0 0] 48)) #[.pointer (some ⟨W.heap.size, 0, none⟩)] 1 (by simp) (by unfold maxLen; omega) rfl
    rw [World.size_alloc, s1] at hr
    have hbx := Boxed.new ((W1.alloc (.cells #[.pointer none, .slice none 0 0] 48)).alloc (.cells #[.pointer (some ⟨W.heap.size, 0, none⟩)] 41)) 49 (.slice (some ⟨W.heap.size + 1 + 1, 0, none⟩) 1 1)
    rw [World.size_alloc, World.size_alloc] at hbx
    refine ⟨undef, undef, undef, undef, undef, undef, undef, undef, undef, undef, undef, undef, undef, undef, undef, undef, undef, undef, undef, undef, undef, undef, undef, undef, undef, [], [⟨W.heap.size, 0, n, .slice ao an ac, .slice ko kn kc⟩], _, [], rfl, by simp [ndTotal, sizeL], ⟨ba (ba (ba (b0 W1) _) _) _, ?_, hbx, ?_⟩, fun f hf => ?_, by simp [allL], trivial⟩
    · exact (Bld.Is.fresh (W1.heap.size + 1) W1 (by omega)).later (bt (ba (b0 _) _) (ba (b0 _) _))
    · rw [s1]; exact owns_later hr (ba (b0 _) _)
    · obtain rfl := by simpa using hf
      exact HN.out
  case step =>
    rintro j a X hj ⟨u5, u6, u9, u10, u11, u12, u13, u14, u15, u16, u17, u18, u19, u20, u21, u22, u23, u24, u25, u26, u27, u28, u29, u30, u31, ds, st, lv, wr, rfl, htot, hT, hok, hall, hM⟩ K hK
    have HK := hid hK
    clear hK
    rcases snoc_cases st with hst | ⟨st0, f, hst⟩
    · subst hst
      simp [ndTotal, sizeL] at htot
      omega
    · have hpl : (st.map Nd.ptr).length = st.length := by simp
      have hel : st.length = st0.length + 1 := by rw [hst]; simp
      have hstl : st.length ≤ 1000000 := by
        have := sizeL_len (st.map Nd.n)
        rw [List.length_map] at this
        unfold ndTotal at htot
        omega
      have HT := hid hT
      have hrow := hT.row
      rw [hpl] at hrow
      obtain ⟨ob, oc, rfl, hob, hobl⟩ := hrow.form (by omega)
      have hocap : st.length ≤ oc := by
        rcases hrow.2 with ⟨h1, _⟩ | ⟨g, cap, cur, h1, _, _, h2, _⟩
        · cases h1
        · injection h1 with _ _ h1; omega
      have olen := own_len (P := Tryz.prog) hrow 49 3 undPt
      have hsub : wrap64 ((st.length : Int) - 1) = (st0.length : Int) := by rw [IntWalk.wrap64_in _ ⟨by omega, by omega⟩]; omega
      have hpos : (0 : Int) < (st.length : Int) := by omega
      have oat := fun Y => own_at (P := Tryz.prog) undPt sizPt ob st.length oc st0.length (by omega) Y
      have hcut := fun Y => cut_run (P := Tryz.prog) undPt sizPt ob st.length oc st0.length (by omega) (by omega) Y
      simp only [Nat.mul_one] at oat
      have k0 : X.cell? ⟨ob, st0.length, none⟩ = some (.pointer (some ⟨f.b, f.o, none⟩)) := by
        rw [hrow.cellAt _ (by omega), hst]
        simp [Nd.ptr]
      have hf := hok f (by rw [hst]; simp)
      have bc := hT.box.cell
      have bf := hT.box.frozen
      rw [s1] at bc bf
      have hsz := hT.bel.size
      have hbl := hT.box.lt
      obtain ⟨⟨xo, xn, xc, hx1⟩, yo, yn, yc, hy1⟩ := hf.is.forms
      obtain ⟨r, hr0, hr1, hr2, hr3⟩ := hf.is.parts.2
      rw [hy1] at hr1 hr2
      obtain ⟨O, hO⟩ : ∃ O, Obj.cells #[.pointer (some ⟨f.b, f.o, none⟩)] 41 = O := ⟨_, rfl⟩
      have hT2 := hT.later (ba (b0 X) O)
      have own4 : (X.alloc O).ownsRow (W1.heap.size + 1) 41 1 (.slice (some ⟨ob, 0, none⟩) st0.length oc) (st0.map Nd.ptr).length (st0.map Nd.ptr) := by
        have := own_cut hrow (k := st0.length) (by omega)
        rw [hst, List.map_append, Nat.mul_one, List.take_left' (by simp)] at this
        rw [List.length_map]
        exact owns_later this (ba (b0 X) O)
      have hT3 := hT2.set _ _ own4
      have b2 := hT2.box
      have b3 := hT3.box
      have q2 : Boxed (X.alloc O) X.heap.size 41 (.pointer (some ⟨f.b, f.o, none⟩)) := by rw [← hO]; exact Boxed.new X _ _
      have q3 := q2.other (B' := W1.heap.size + 2) (by omega) (.slice (some ⟨ob, 0, none⟩) st0.length oc)
      have n3 := NodeAt.below hf hT3.bel
      have HRI := hid hr3
      have HFR := hid (fun x hx => (hr3 x hx).forms)
      have HM := hid hM
      have HALL := hid hall
      have hrl : r.length = f.n.kids.length := by rw [← hr0]; simp
      have hkl : r.length ≤ 1000000 := by
        have h1 := sizeL_len f.n.kids
        have h2 := size_kids f.n
        have h3 := ndTotal_snoc st0 f
        rw [← hst] at h3
        omega
      have hwl : wr.length + f.n.text.length ≤ 140737488355328 := by
        have e := congrArg List.length HALL.out
        rw [hst, List.reverse_append, List.map_append, allL_append] at e
        have e4 : f.n.all = f.n.text ++ allL f.n.kids := by cases f.n; rfl
        simp [allL, e4] at e
        omega
      have hw := Bld.WriteString_only (W1.heap.size + 1) W1.heap.size wr f.n.text _ hT3.bld hwl (by have := hT3.box.lt; omega)
      have HW := hid hw
      rw [s1] at hT3 q3
      have HT3 := hid hT3
      have HQ3 := hid q3
      have HF := hid hf
      have HY := hid hy1
      have HROW := hid hr1
      have b2c := b2.cell
      have b2f := b2.frozen
      have b3c := b3.cell
      have q2c := q2.cell
      have q3c := q3.cell
      have n3c := n3.c5
      rw [s1] at b2c b2f b3c n3c
      subst hO
      clear hrow hall hM hT2 own4 hT3 b2 b3 q2 q3 n3 hw hr1 hr2 hr3 hf hy1
      gi_wp2_with (first
        | (gi_at_call 12; rw [s1] at HW; refine (callsIn_wide.2 HW.out).mono ?_; rintro e X4 ⟨rfl, hI4, hB4, hN4⟩
           have hT4 := TxS.wrote HT3.out (X' := X4) (by rw [s1]; exact hI4) (by rw [s1]; exact hB4) (by rw [s1]; exact hN4)
           have hO4 := HT3.out.others (X' := X4) (by rw [s1]; exact hB4) (by rw [s1]; exact hN4)
           have q4 : Boxed X4 X.heap.size 41 (.pointer (some ⟨f.b, f.o, none⟩)) := (hN4 _ (lt_of_some HQ3.out) (by omega) (fun cs hc => by
             have := HQ3.out.symm.trans hc
             injection this with this; injection this with _ this; revert this; decide)).trans HQ3.out
           have q4c := q4.cell
           have n4c := (NodeAt.below HF.out hT4.bel).c4
           rw [HY.out] at n4c
           have HT4 := hid hT4
           have HO4 := hid hO4
           have HQ4 := hid q4
           clear hT4 hO4 q4 hI4 hB4 hN4)
        | (gi_at_call 13; refine (callsIn_wide.2 (Backward_any yo yn yc _)).mono ?_; rintro e X5 ⟨rfl, rfl⟩))
      obtain ⟨X5, hX5⟩ : ∃ X5, X4.alloc (.cells #[.slice yo yn yc] 27) = X5 := ⟨_, rfl⟩
      have s5 : X5.heap.size = X4.heap.size + 1 := by rw [← hX5]; simp
      have B5 : Below X4.heap.size X4 X5 := by rw [← hX5]; exact ba (b0 X4) _
      have x5 : Boxed X5 X4.heap.size 27 (.slice yo yn yc) := by rw [← hX5]; exact Boxed.new X4 _ _
      have hT5 := HT4.out.later B5
      have q5 : Boxed X5 X.heap.size 41 (.pointer (some ⟨f.b, f.o, none⟩)) := (B5.block _ (lt_of_some HQ4.out)).trans HQ4.out
      have h14 := HT4.out.bel.size
      have hXX : X.heap.size < X4.heap.size := lt_of_some HQ4.out
      have hM5 : TMarks (W1.heap.size + 3) X.heap.size ds X5 := HM.out.keep (fun i hi hd => by
        refine (others_of_below B5).same _ _ (HO4.out.same _ _ ?_ rfl) rfl
        refine (KeepsOthers.setCell _ _ _).same _ _ ?_ rfl
        exact ((ba (b0 X) _).block i hi).trans hd)
      have hrow5 : Row 6 X5 (.slice yo yn yc) r.length (r.flatMap ncells) := Row.same (by omega) HROW.out (fun hn b hb hl => hT5.bel.block b hl)
      have HX5 := hid hX5
      rw [hX5]
      clear hX5
      refine range_tellsA (F := Fence.wide) (n := 9) rfl (by omega) rfl trivial (enters_of Tryz.func21 (by kernel_rfl) rfl) (fun A B hh => by subst hh; exact KeepsOthers.refl A)
        (back_tells 8 (by omega) X5 X4.heap.size W1.heap.size yo yn yc r x5 (by omega) hrow5 (fun hn b hb => Row.blk (by omega) HROW.out hn hb) HFR.out hkl) KpB.trans (fun Y l o o' hl _ _ _ => KpB.put Y l o' (by omega) (by omega)) (b0 X5) (fun x => rfl)
        (fun k Y => ∃ (ks : List Nd) (lv' : Value), ks.length = k ∧ ks.map Nd.n = f.n.kids.reverse.take k ∧ (∀ g ∈ ks, g.Ok W1) ∧ TxS W1 (wr ++ f.n.text) ((st0 ++ ks).map Nd.ptr) lv' Y ∧ Boxed Y X.heap.size 41 (.pointer (some ⟨f.b, f.o, none⟩)) ∧ TMarks (W1.heap.size + 3) X.heap.size ds Y ∧ X5.heap.size ≤ Y.heap.size ∧ Boxed Y X4.heap.size 27 (.slice yo yn yc) ∧ ∀ c, lv'.ownBlock = some c → c ≠ X.heap.size)
        (fun _ _ _ => False) ?hI (fun _ _ _ _ _ hh _ _ => hh) (fun k A B hh e => by subst e; exact hh) (fun _ _ _ _ hh _ => hh)
        ⟨[], _, rfl, rfl, by simp, by simpa using hT5, q5, hM5, Nat.le_refl _, x5, fun c hc => by rw [← (show ob = c by simpa [Value.ownBlock] using hc)]; omega⟩
        (fun i => { tmps := #[nodeV n (.slice ao an ac) (.slice ko kn kc), .pointer (some ⟨W.heap.size, 0, none⟩), .string (text []), .pointer (some ⟨W.heap.size + 1, 0, none⟩), .pointer (some ⟨W.heap.size + 3, 0, none⟩), .int .i64 (st0.length : Int), .pointer (some ⟨X.heap.size, 0, none⟩), .int .i64 (i : Int), .slice (some ⟨W.heap.size + 2, 0, none⟩) 1 1, .slice (some ⟨ob, 0, none⟩) (st0.length + 1) oc, .int .i64 ((st0.length : Int) + 1), .bool true, .slice (some ⟨ob, 0, none⟩) (st0.length + 1) oc, .int .i64 ((st0.length : Int) + 1), .int .i64 (st0.length : Int), .slice (some ⟨ob, 0, none⟩) (st0.length + 1) oc, .int .i64 (st0.length : Int), .pointer (some ⟨ob, st0.length, none⟩), .pointer (some ⟨f.b, f.o, none⟩), .slice (some ⟨ob, 0, none⟩) (st0.length + 1) oc, .int .i64 (st0.length : Int), .slice (some ⟨ob, 0, none⟩) st0.length oc, .pointer (some ⟨f.b, f.o, none⟩), .pointer (some ⟨f.b, f.o, none⟩), .pointer (some ⟨f.b, f.o + 5, none⟩), .string (text f.n.text), .tuple #[.int .i64 (f.n.text.length : Int), .nilIface], .pointer (some ⟨f.b, f.o, none⟩), .pointer (some ⟨f.b, f.o, none⟩), .pointer (some ⟨f.b, f.o + 4, none⟩), .slice yo yn yc, .func (.func 21) #[] #[.pointer (some ⟨X4.heap.size, 0, none⟩)], .int .i64 (i : Int), backSnd r i, undef, undef, undef, undef, undef, undef, undef, undef, undef, undef], defers := [] }) ?assign ?body ?done (fun _ _ _ _ _ _ hh _ => hh.elim)
      case hI =>
        rintro k A B row ⟨ks, lv', h1, h2, h3, h4, h5, h6, h7, h8, h9⟩ hg hr
        exact ⟨ks, lv', h1, h2, h3, h4.turn hg (fun b e => ⟨by have := (hr b e).1; omega, (hr b e).2⟩), h5.kept hg (fun e => by have := (hr _ e.symm).1; omega),
          h6.keep (fun j hj h => (hg.block j (Array.getElem?_eq_some_iff.1 h).1 (fun e => by have := (hr _ e.symm).1; omega)).trans h), Nat.le_trans h7 hg.size, h8.kept hg (fun e => by have := (hr _ e.symm).1; omega), h9⟩
      case assign =>
        intro lp i Y K' hK'
        unfold backVal
        gi_wp2
        exact hK'
      case done =>
        rintro D Y hD ⟨ks, lv', h1, h2, h3, h4, h5, h6, h7, h8, h9⟩ hKD
        rw [List.length_reverse, List.length_range] at h1 h2
        rw [List.take_of_length_le (by rw [List.length_reverse]; omega)] at h2
        gi_wp2
        refine HK.out _ _ ⟨_, _, _, _, _, _, _, _, _, _, _, _, _, _, _, _, _, _, _, _, _, _, _, _, _, _, st0 ++ ks, lv', wr ++ f.n.text, rfl, ?_, h4, ?_, ?_, ⟨D, rfl, by omega, (Array.getElem?_eq_some_iff.1 hKD).1, hKD, h6.up (by omega)⟩⟩
        · have e1 : ndTotal (st0 ++ ks) = ndTotal st0 + sizeL f.n.kids := by unfold ndTotal; rw [List.map_append, sizeL_append, h2, sizeL_rev]
          have e2 := ndTotal_snoc st0 f
          rw [← hst] at e2
          have e3 := size_kids f.n
          omega
        · intro g hg
          rcases List.mem_append.1 hg with hg | hg
          · exact hok g (by rw [hst]; simp [hg])
          · exact h3 g hg
        · have e1 := HALL.out
          rw [hst] at e1
          rw [← e1, List.reverse_append, List.map_append, allL_append, List.map_reverse (l := ks), h2, List.reverse_reverse]
          have e4 : f.n.all = f.n.text ++ allL f.n.kids := by cases f.n; rfl
          simp [allL, e4]
      case body =>
        rintro lp k i Y hx ⟨ks, lv', h1, h2, h3, h4, h5, h6, h7, h8, h9⟩
        have hkr : k < r.length := by
          have := (List.getElem?_eq_some_iff.1 hx).1
          simpa using this
        rw [rev_at _ _ hkr] at hx
        obtain rfl := Option.some.inj hx
        obtain ⟨b, o, ix, e0, e1, e2, e3, e4, e5⟩ := nodes_at (P := Tryz.prog) HROW.out (r.length - 1 - k) (by omega) 27 29 undN sizN
        have hri : r.length - 1 - k < r.length := by omega
        have HND := hid (show Nd.Ok W1 ⟨b, o, r[r.length - 1 - k].1, r[r.length - 1 - k].2.1, r[r.length - 1 - k].2.2⟩ from ⟨e0, e1, e2, e3, e4, e5, HRI.out _ (List.getElem_mem hri)⟩)
        have HTK := hid (show f.n.kids.reverse.take (k + 1) = f.n.kids.reverse.take k ++ [r[r.length - 1 - k].1] from by
          rw [List.take_succ_eq_append_getElem (by rw [List.length_reverse]; omega), List.getElem_reverse]
          congr 2
          have : ∀ (l : List Node) (hl : r.map (fun x => x.1) = l) (h : l.length - 1 - k < l.length), l[l.length - 1 - k] = r[r.length - 1 - k].1 := by
            intro l hl h
            subst hl
            simp
          exact this _ hr0 _)
        generalize r[r.length - 1 - k] = nd at *
        have ix' := ix .i64
        generalize r.length - 1 - k = idx at *
        have hkk : ((st0 ++ ks).map Nd.ptr).length = st0.length + k := by simp [h1]
        obtain ⟨O, hO⟩ : ∃ O, Obj.cells #[.pointer (some ⟨b, o, none⟩)] 41 = O := ⟨_, rfl⟩
        have B6 : Below Y.heap.size Y ((Y.alloc O).drew) := (ba (b0 Y) O).drew
        have h4Z := h4.later B6
        have hrowZ := h4Z.row
        rw [hkk] at hrowZ
        have hst1 := h4.bel.size
        have hnew : (Y.alloc O).drew.heap[Y.heap.size]? = some (.cells #[.pointer (some ⟨b, o, none⟩)] 41) := by rw [hO]; exact heap_alloc_new Y O
        obtain ⟨g, cap, w9, hrun, hown9, hg9, hgg9, hgl9⟩ := run_append_lies (P := Tryz.prog) ((Y.alloc O).drew) 49 49 (W1.heap.size + 1) 41 i0 _ 1 8 undPt HI.out hz0 hz1 hz2 rfl (by decide) lv' (st0.length + k) _ hrowZ ⟨Y.heap.size, 0, none⟩ 1 1 [.pointer (some ⟨b, o, none⟩)] rfl (World.news_of_block hnew) (by simp [Value.oneCell']) (by decide) (by unfold maxLen; omega) (by omega) (by have := B6.size; omega) _ rfl
        have b9 := (h4Z.grow hg9).2.2
        have b9c := b9.cell
        have b9f := b9.frozen
        have bc := h4.box.cell
        have bf := h4.box.frozen
        have bzc := (h4.box.alloc O).cell
        have byc := h4Z.box.cell
        rw [s1] at bc bf b9c b9f bzc byc
        have qc := h5.cell
        have n4 := (NodeAt.below HF.out h4.bel).c4
        rw [HY.out] at n4
        have hown' : w9.ownsRow (W1.heap.size + 1) 41 1 (.slice (some ⟨g, 0, none⟩) (st0.length + k + 1) cap) ((st0 ++ (ks ++ [(⟨b, o, nd.1, nd.2.1, nd.2.2⟩ : Nd)])).map Nd.ptr).length ((st0 ++ (ks ++ [(⟨b, o, nd.1, nd.2.1, nd.2.2⟩ : Nd)])).map Nd.ptr) := by
          have e6 : ((st0 ++ (ks ++ [(⟨b, o, nd.1, nd.2.1, nd.2.2⟩ : Nd)])).map Nd.ptr) = (st0 ++ ks).map Nd.ptr ++ [.pointer (some ⟨b, o, none⟩)] := by simp [Nd.ptr]
          rw [e6, List.length_append, hkk]
          exact hown9
        have hT9 := h4Z.push hg9 _ _ hown'
        have hO9 := (others_of_below B6).trans ((h4Z.grows hg9).trans (KeepsOthers.setCell w9 ⟨W1.heap.size + 2, 0, none⟩ (.slice (some ⟨g, 0, none⟩) (st0.length + k + 1) cap)))
        have hsame : ∀ (j : Nat) (cs : Array Value) (e : TypeId), e ≠ 41 → j ≠ W1.heap.size + 2 → Y.heap[j]? = some (.cells cs e (0, 0)) → (w9.setCell ⟨W1.heap.size + 2, 0, none⟩ (.slice (some ⟨g, 0, none⟩) (st0.length + k + 1) cap)).heap[j]? = Y.heap[j]? := fun j cs e hne hj hc => by
          have hz := (B6.block j (lt_of_some hc))
          refine (Below.heap_setCell w9 ⟨W1.heap.size + 2, 0, none⟩ _ j hj).trans ((hg9.block j (lt_of_some (hz.trans hc)) (fun e' => ?_)).trans hz)
          obtain ⟨_, _, cs', hc'⟩ := own_ty hrowZ e'.symm
          have := (hz.trans hc).symm.trans hc'
          injection this with this; injection this with _ this; exact hne this
        have hlow : ∀ j, j < W1.heap.size → (w9.setCell ⟨W1.heap.size + 2, 0, none⟩ (.slice (some ⟨g, 0, none⟩) (st0.length + k + 1) cap)).heap[j]? = Y.heap[j]? := fun j hj =>
          (hT9.bel.block j hj).trans (h4.bel.block j hj).symm
        have hq9 : Boxed (w9.setCell ⟨W1.heap.size + 2, 0, none⟩ (.slice (some ⟨g, 0, none⟩) (st0.length + k + 1) cap)) X.heap.size 41 (.pointer (some ⟨f.b, f.o, none⟩)) := by
          have hz := B6.block _ (lt_of_some h5)
          refine (Below.heap_setCell w9 ⟨W1.heap.size + 2, 0, none⟩ _ X.heap.size (by show X.heap.size ≠ W1.heap.size + 2; omega)).trans ((hg9.block _ (lt_of_some (hz.trans h5)) (fun e' => h9 _ e'.symm rfl)).trans (hz.trans h5))
        have hgX : g ≠ X.heap.size := by
          rcases hgg9 with e | e
          · exact h9 g e
          · have := lt_of_some h5
            have := B6.size
            omega
        have hY9 : X5.heap.size ≤ (w9.setCell ⟨W1.heap.size + 2, 0, none⟩ (.slice (some ⟨g, 0, none⟩) (st0.length + k + 1) cap)).heap.size := Nat.le_trans h7 hO9.size
        have hb9 := hsame X4.heap.size _ _ (by decide) (by omega) h8
        have F1 := hid hO9
        have F2 := hid (show KpB W1.heap.size X4.heap.size Y (w9.setCell ⟨W1.heap.size + 2, 0, none⟩ (.slice (some ⟨g, 0, none⟩) (st0.length + k + 1) cap)) from ⟨hlow, hb9⟩)
        have F3 := hid hT9
        have F4 := hid hq9
        have F5 := hid (h6.keep (fun i hi hd => hO9.same _ _ hd rfl))
        have F6 := hid hY9
        have F7 := hid (hb9.trans h8)
        subst hO
        clear ix e0 e1 e2 e3 e4 e5 hx hsame hlow hq9 hb9 hY9 hT9 hO9 hown' b9 hown9 hg9 hgg9 hgl9 hrowZ h4Z B6 hnew
        gi_wp2
        gi_region
        all_goals rw [show W.heap.size + 3 = W1.heap.size + 2 by omega]
        all_goals exact ⟨F1.out, F2.out, ks ++ [(⟨b, o, nd.1, nd.2.1, nd.2.2⟩ : Nd)], _, by simp [h1], by rw [List.map_append, h2, HTK.out]; rfl, fun g' hg' => by
          rcases List.mem_append.1 hg' with hg' | hg'
          · exact h3 g' hg'
          · obtain rfl := by simpa using hg'
            exact HND.out, F3.out, F4.out, F5.out, F6.out, F7.out, fun c hc => by rw [← (show g = c by simpa [Value.ownBlock] using hc)]; exact hgX⟩
  case last =>
    rintro a X ⟨u5, u6, u9, u10, u11, u12, u13, u14, u15, u16, u17, u18, u19, u20, u21, u22, u23, u24, u25, u26, u27, u28, u29, u30, u31, ds, st, lv, wr, rfl, htot, hT, hok, hall, hM⟩ K
    have hst : st = [] := by
      rcases snoc_cases st with hst | ⟨st0, f, hst⟩
      · exact hst
      · have e2 := ndTotal_snoc st0 f
        rw [← hst] at e2
        have := f.n.size_pos
        omega
    subst hst
    have hwr : wr = n.all := by simpa [allL] using hall
    subst hwr
    have olen := own_len (P := Tryz.prog) hT.row 49 3 undPt
    simp only [List.map_nil, List.length_nil] at olen
    have bc := hT.box.cell
    have hs := hS _ _ _ _ hT.bld
    rw [s1] at bc hs
    have HS := hid hs
    have HT := hid hT
    clear hs hT hS hall hok
    gi_wp2_with (gi_at_call 14; refine (callsIn_wide.2 HS.out).mono ?_; rintro e X9 ⟨rfl, hb9, hk9⟩)
    refine tleaves_marks (fun X => Below W.heap.size W X) (W1.heap.size + 3) ?mG ?mend ds X.heap.size _ (hM.keep (fun D _ h => hk9.same D _ h rfl)) (HB1.out.trans ((HT.out.bel.mono (by omega)).trans (hb9.mono (by omega))))
    case mG =>
      intro X D o x2 hD hK
      exact x2.grown (grownBy_putObj' X D o) x2.size (fun k e => by have := Option.some.inj e; omega)
    case mend =>
      intro X x2
      exact ⟨_, results_tmp rfl _ _ _, rfl, x2⟩
end Go.Proofs.YtdpknpgknbkiiaaGreatDoor.Tree
namespace Go.Proofs.YtdpknpgknbkiiaaGreatDoor.Tree
open Go Go.Proofs.YtdpknpgknbkiiaaGreatDoor Go.Proofs.YtdpknpgknbkiiaaGreatDoor.Utf Go.Proofs.YtdpknpgknbkiiaaGreatDoor.Names Go.Proofs.YtdpknpgknbkiiaaGreatDoor.Ent Go.Proofs.YtdpknpgknbkiiaaGreatDoor.Tok Go.RowKit
set_option maxRecDepth 100000
/-- The children of a name. -/
def finds (nm : Nm) (l : List Node) : List Node := l.filter (fun k => decide (k.nm = nm))
theorem finds_take (nm : Nm) (l : List Node) (i : Nat) (h : i < l.length) : finds nm (l.take (i + 1)) = finds nm (l.take i) ++ (if l[i].nm = nm then [l[i]] else []) := by
  unfold finds
  rw [List.take_succ_eq_append_getElem h, List.filter_append]
  by_cases c : l[i].nm = nm
  · simp [c]
  · simp [c]
theorem finds_len (nm : Nm) (l : List Node) : (finds nm l).length ≤ l.length := List.length_filter_le _ _
set_option maxHeartbeats 8000000 in
theorem Find_any {W : World} {n : Node} {ao : Option Addr} {an ac : Nat} {ko : Option Addr} {kn kc : Nat} (h : IsN W (fun _ => False) n (.slice ao an ac) (.slice ko kn kc)) (hl : n.kids.length ≤ 1000000) (a b : List UInt8) (hb : b ≠ []) :
    Calls Tryz.prog 6 #[nodeV n (.slice ao an ac) (.slice ko kn kc), .agg #[.string (text a), .string (text b)]] W fun e w' => (∃ v, e = .returned v ∧ Kids w' (fun _ => False) v (finds (a, b) n.kids)) ∧ Below W.heap.size W w' := by
  obtain ⟨i0, hi0, hz0, hz1, hz2⟩ := info_parts infoN
  have hk := h.parts.2
  have klen := fun X => hk.len (P := Tryz.prog) 27 3 29 undN X
  obtain ⟨Nd, hNd⟩ : ∃ Nd, Obj.cells #[.int .i64 n.place, .string (text n.nm.1), .string (text n.nm.2), .slice ao an ac, .slice ko kn kc, .string (text n.text)] 29 = Nd := ⟨_, rfl⟩
  obtain ⟨X1, hX1⟩ : ∃ X1, W.alloc Nd = X1 := ⟨_, rfl⟩
  obtain ⟨W0, hW0⟩ : ∃ W0, X1.alloc (.cells #[.string (text a), .string (text b)] 25) = W0 := ⟨_, rfl⟩
  have s1 : X1.heap.size = W.heap.size + 1 := by rw [← hX1]; simp
  have s0 : W0.heap.size = W.heap.size + 2 := by rw [← hW0]; simp [s1]
  have B1 : Below W.heap.size W X1 := by rw [← hX1]; exact ba (b0 W) _
  have B0 : Below X1.heap.size X1 W0 := by rw [← hW0]; exact ba (b0 X1) _
  have HB := hid (bt B1 B0)
  have P0 : Hid (W0.heap[W.heap.size]? = some Nd) := hid ((B0.block _ (by omega)).trans (by rw [← hX1]; exact heap_alloc_new W _))
  have P1 : Hid (W0.heap[W.heap.size + 1]? = some (.cells #[.string (text a), .string (text b)] 25)) := hid (by rw [← s1, ← hW0]; exact heap_alloc_new X1 _)
  have q0 : W0.cell? ⟨W.heap.size, 4, none⟩ = some (.slice ko kn kc) := by rw [Lib.cell_of_heap (show W0.heap[W.heap.size]? = some (.cells #[.int .i64 n.place, .string (text n.nm.1), .string (text n.nm.2), .slice ao an ac, .slice ko kn kc, .string (text n.text)] 29) by rw [hNd]; exact P0.out)]; rfl
  have q1 : W0.cell? ⟨W.heap.size + 1, 1, none⟩ = some (.string (text b)) := by rw [Lib.cell_of_heap P1.out]; rfl
  have qb : ((text b).toList == []) = false := list_no hb
  have HK := hid (hk.to (A' := fun _ => False) (fun _ _ f => f) (Keep.of_below HB.out))
  have HI := hid hi0
  clear h hk B1 B0 hi0 hb
  unfold nodeV
  go_enter Tryz.func6, Tryz.ntmps6
  go_wp2_with fail
  go_loopg [14, 5] n.kids.length (fun gk iv fv X => ∃ (i : Nat) (r : List (Node × Value × Value)), iv = .int .i64 i ∧ i + gk = n.kids.length ∧ Hid (r.map (·.1) = finds (a, b) (n.kids.take i)) ∧ Hid (X.ownsRow (W.heap.size + 2) 29 6 fv r.length (r.flatMap ncells)) ∧ Hid (∀ x ∈ r, IsN W0 (fun _ => False) x.1 x.2.1 x.2.2) ∧ Hid (Below W0.heap.size W0 X))
  case atStart => exact ⟨0, [], rfl, by omega, hid (by simp [finds]), hid ⟨by simp, .inl ⟨rfl, rfl⟩⟩, hid (by simp), hid (Below.refl _ _)⟩
  case round =>
    rename World => X
    obtain ⟨i, r, rfl, hig, HR, HO, HRN, HX⟩ := hrel
    by_cases hi : i < n.kids.length
    · obtain ⟨b1, o1, av, kv, ix, e0, e1, e2, e3, e4, e5, is, _⟩ := HK.out.at (P := Tryz.prog) i hi 27 29 undN sizN
      have hfl := finds_len (a, b) (n.kids.take i)
      have hrl : r.length = (finds (a, b) (n.kids.take i)).length := by rw [← HR.out]; simp
      have hrl2 : r.length ≤ 1000000 := by rw [List.length_take] at hfl; omega
      clear hfl hrl
      have HFT := hid (finds_take (a, b) n.kids i hi)
      have ix' := ix .i64
      generalize n.kids[i] = k at *
      obtain ⟨⟨xo, xn, xc, hx1⟩, yo, yn, yc, hy1⟩ := is.forms
      subst hx1 hy1
      have HIS := hid is
      have hlb := World.block_lt_of_cell? _ _ e0
      have d0 := (HX.out.cell (p := ⟨b1, o1, none⟩) hlb).trans e0
      have d1 := (HX.out.cell (p := ⟨b1, o1 + 1, none⟩) hlb).trans e1
      have d2 := (HX.out.cell (p := ⟨b1, o1 + 2, none⟩) hlb).trans e2
      have d3 := (HX.out.cell (p := ⟨b1, o1 + 3, none⟩) hlb).trans e3
      have d4 := (HX.out.cell (p := ⟨b1, o1 + 4, none⟩) hlb).trans e4
      have d5 := (HX.out.cell (p := ⟨b1, o1 + 5, none⟩) hlb).trans e5
      have B2 := ba (b0 X) (.cells #[.int .i64 k.place, .string (text k.nm.1), .string (text k.nm.2), .slice xo xn xc, .slice yo yn yc, .string (text k.text)] 29)
      have HX2 := hid (HX.out.trans (B2.mono HX.out.size))
      have HO2 := hid (owns_later HO.out B2)
      have t0 : (X.alloc (.cells #[.int .i64 k.place, .string (text k.nm.1), .string (text k.nm.2), .slice xo xn xc, .slice yo yn yc, .string (text k.text)] 29)).cell? ⟨W.heap.size + 1, 0, none⟩ = some (.string (text a)) := by
        rw [Lib.cell_of_heap ((HX2.out.block _ (lt_of_some P1.out)).trans P1.out)]; rfl
      have t1 : (X.alloc (.cells #[.int .i64 k.place, .string (text k.nm.1), .string (text k.nm.2), .slice xo xn xc, .slice yo yn yc, .string (text k.text)] 29)).cell? ⟨W.heap.size + 1, 1, none⟩ = some (.string (text b)) := by
        rw [Lib.cell_of_heap ((HX2.out.block _ (lt_of_some P1.out)).trans P1.out)]; rfl
      have u1 := text_eq k.nm.1 a
      have u2 := text_eq k.nm.2 b
      by_cases hnm : k.nm = (a, b)
      · have hn1 : k.nm.1 = a := by rw [hnm]
        have hn2 : k.nm.2 = b := by rw [hnm]
        rw [decide_eq_true hn1] at u1
        rw [decide_eq_true hn2] at u2
        have HF2 := hid (HFT.out.trans (by rw [if_pos hnm]))
        have B3 := ba (b0 (X.alloc (.cells #[.int .i64 k.place, .string (text k.nm.1), .string (text k.nm.2), .slice xo xn xc, .slice yo yn yc, .string (text k.text)] 29))) (.cells #[.int .i64 k.place, .string (text k.nm.1), .string (text k.nm.2), .slice xo xn xc, .slice yo yn yc, .string (text k.text)] 29)
        have HX3 := hid (HX2.out.trans (B3.mono HX2.out.size))
        have HO3 := hid (owns_later HO2.out B3)
        have hrow := (Row.ofBuild (sz := 6) (X.alloc (.cells #[.int .i64 k.place, .string (text k.nm.1), .string (text k.nm.2), .slice xo xn xc, .slice yo yn yc, .string (text k.text)] 29)) #[.int .i64 k.place, .string (text k.nm.1), .string (text k.nm.2), .slice xo xn xc, .slice yo yn yc, .string (text k.text)] 29 1 rfl (by omega))
        rw [show (X.alloc (.cells #[.int .i64 k.place, .string (text k.nm.1), .string (text k.nm.2), .slice xo xn xc, .slice yo yn yc, .string (text k.text)] 29)).heap.size = X.heap.size + 1 from by simp] at hrow
        have HROW := hid hrow
        have hsz3 : W.heap.size + 2 ≤ X.heap.size := by have := HX.out.size; omega
        clear hrow hnm hn1 hn2 is ix B2 B3 e0 e1 e2 e3 e4 e5 HFT
        go_wp2_with (at_builtin; refine wpList_append_row rfl _ _ 27 rfl (W.heap.size + 2) 29 i0 _ 6 104 undN HI.out hz0 hz1 hz2 rfl (by decide) _ _ _ rfl HO3.out _ _ _ rfl HROW.out ?c0 ?c1 ?c2 ?c3 ?_)
        case c0 => simp [Value.oneCell']
        case c1 => omega
        case c2 => unfold maxLen; omega
        case c3 => have := HX3.out.size; omega
        intro v' w8 hown8 hg8
        have HB8 := hid (grown_below HX3.out HO3.out (by omega) hg8)
        have HO8 := hid (show w8.ownsRow (W.heap.size + 2) 29 6 v' (r ++ [((k, Value.slice xo xn xc, Value.slice yo yn yc) : Node × Value × Value)]).length ((r ++ [((k, Value.slice xo xn xc, Value.slice yo yn yc) : Node × Value × Value)]).flatMap ncells) by
          rw [List.length_append, List.flatMap_append, List.flatMap_singleton]; exact hown8)
        clear hown8 hg8
        go_wp2
        go_roundg (gk - 1)
        case measure => omega
        case rel => exact ⟨i + 1, r ++ [((k, Value.slice xo xn xc, Value.slice yo yn yc) : Node × Value × Value)], by go_num, by omega, hid (by rw [List.map_append, HR.out, HF2.out]; rfl), HO8, hid (fun x hx => by
          rcases List.mem_append.1 hx with hx | hx
          · exact HRN.out x hx
          · rw [List.mem_singleton] at hx; rw [hx]; exact HIS.out), HB8⟩
      · have HF2 := hid (HFT.out.trans (by rw [if_neg hnm, List.append_nil]))
        have hor : Hid ((k.nm.1 ≠ a) ∨ (k.nm.1 = a ∧ k.nm.2 ≠ b)) := hid (by
          by_cases c : k.nm.1 = a
          · exact .inr ⟨c, fun d => hnm (by rw [← c, ← d])⟩
          · exact .inl c)
        clear hnm is ix B2 e0 e1 e2 e3 e4 e5 HFT
        rcases hor.out with c | ⟨c, d⟩
        · rw [decide_eq_false c] at u1
          clear u2 c
          go_wp2
          go_roundg (gk - 1)
          case measure => omega
          case rel => exact ⟨i + 1, r, by go_num, by omega, hid (by rw [HR.out, HF2.out]), HO2, HRN, HX2⟩
        · rw [decide_eq_true c] at u1
          rw [decide_eq_false d] at u2
          clear c d
          go_wp2
          go_roundg (gk - 1)
          case measure => omega
          case rel => exact ⟨i + 1, r, by go_num, by omega, hid (by rw [HR.out, HF2.out]), HO2, HRN, HX2⟩
    · have hall : n.kids.take i = n.kids := List.take_of_length_le (by omega)
      have hR := HR.out
      rw [hall] at hR
      have hrl : r.length ≤ 1000000 := by
        have h1 := congrArg List.length hR
        have h2 := finds_len (a, b) n.kids
        rw [List.length_map] at h1
        omega
      have HRR := hid hR
      clear hR hall
      go_wp2
      go_ret
      refine ⟨⟨_, rfl, r, HRR.out, Row.ofOwns HO.out (by omega), fun _ _ _ f => f, fun x hx => (HRN.out x hx).to (fun _ _ f => f) (Keep.of_below HX.out)⟩, HB.out.trans (HX.out.mono (by omega))⟩
end Go.Proofs.YtdpknpgknbkiiaaGreatDoor.Tree
namespace Go.Proofs.YtdpknpgknbkiiaaGreatDoor.Tree
open Go Go.Proofs.YtdpknpgknbkiiaaGreatDoor Go.Proofs.YtdpknpgknbkiiaaGreatDoor.Utf Go.Proofs.YtdpknpgknbkiiaaGreatDoor.Names Go.Proofs.YtdpknpgknbkiiaaGreatDoor.Ent Go.Proofs.YtdpknpgknbkiiaaGreatDoor.Tok
set_option maxRecDepth 100000
mutual
/-- So much for each node, so much for each letter. -/
def Node.wt (p q : Nat) : Node → Nat
  | .mk _ _ _ ks tx => p + q * tx.length + wtL p q ks
def wtL (p q : Nat) : List Node → Nat
  | [] => 0
  | n :: r => n.wt p q + wtL p q r
end
theorem wtL_append (p q : Nat) : ∀ a b : List Node, wtL p q (a ++ b) = wtL p q a + wtL p q b
  | [], b => by simp [wtL]
  | n :: a, b => by simp only [List.cons_append, wtL, wtL_append p q a b]; omega
mutual
theorem wt_size : ∀ n : Node, n.wt 1 0 = n.size
  | .mk _ _ _ ks tx => by unfold Node.wt Node.size; rw [wtL_size ks]; omega
theorem wtL_size : ∀ l : List Node, wtL 1 0 l = sizeL l
  | [] => by simp [wtL, sizeL]
  | n :: r => by unfold wtL sizeL; rw [wt_size n, wtL_size r]
end
mutual
theorem wt_all : ∀ n : Node, n.wt 0 1 = n.all.length
  | .mk _ _ _ ks tx => by unfold Node.wt Node.all; rw [wtL_all ks, List.length_append]; omega
theorem wtL_all : ∀ l : List Node, wtL 0 1 l = (allL l).length
  | [] => by simp [wtL, allL]
  | n :: r => by unfold wtL allL; rw [wt_all n, wtL_all r, List.length_append]
end
/-- What lies in the elements that are open. -/
def wtO (p q : Nat) : List El → Nat
  | [] => 0
  | e :: r => p + wtL p q e.kids + wtO p q r
def outW (p q : Nat) : Option Node → Nat
  | none => 0
  | some n => n.wt p q
def Bs.wt (p q : Nat) (s : Bs) : Nat := wtO p q s.opn + (if s.texts = [] then 0 else p) + q * (flat s.texts).length + outW p q s.outer
theorem add_wt (p q : Nat) (s : Bs) (n : Node) : (addN s n).wt p q ≤ s.wt p q + n.wt p q := by
  unfold addN Bs.wt
  cases ho : s.opn with
  | nil => simp only [wtO, outW, ho]; omega
  | cons e r =>
    simp only [wtO, wtL_append, wtL, ho]
    omega
theorem text_wt (p q : Nat) (a : Int) (nm : Nm) (x : List UInt8) : (Node.mk a nm [] [] x).wt p q = p + q * x.length := by simp [Node.wt, wtL]
theorem add_texts (s : Bs) (n : Node) (t : List (Int × List UInt8)) : { addN s n with texts := t } = addN { s with texts := t } n := by
  unfold addN
  cases s.opn <;> rfl
theorem end_wt (p q : Nat) (s : Bs) : (endT s).wt p q ≤ s.wt p q := by
  unfold endT
  split
  · exact Nat.le_refl _
  · rename_i t r ht
    rw [add_texts]
    have h := add_wt p q { s with texts := [] } (.mk t.1 ([], []) [] [] (flat (t :: r)))
    refine Nat.le_trans h ?_
    rw [text_wt]
    unfold Bs.wt
    rw [ht]
    simp only [if_true, if_neg (show ¬ (t :: r = []) from by simp), show flat [] = [] from rfl, List.length_nil, Nat.mul_zero]
    omega
theorem begin_wt (p q : Nat) {s s' : Bs} {t : Tok} (h : beginT s t = .ok s') : s'.wt p q ≤ s.wt p q + p := by
  obtain ⟨ho, hl, g, nm, al, hb, rfl⟩ := begin_inv h
  split
  · have h := add_wt p q s (.mk t.place nm al [] [])
    have e : (Node.mk t.place nm al [] []).wt p q = p := by simp [Node.wt, wtL]
    omega
  · simp only [Bs.wt, wtO, wtL]
    omega
theorem endE_wt (p q : Nat) {s s' : Bs} {t : Tok} (h : endE s t = .ok s') : s'.wt p q ≤ s.wt p q := by
  unfold endE at h
  split at h
  · cases h
  · rename_i e r ho
    split at h
    · cases h
    · injection h with h
      subst h
      refine Nat.le_trans (add_wt p q _ _) ?_
      have e1 : e.node.wt p q = p + wtL p q e.kids := by simp [El.node, Node.wt]
      rw [e1]
      simp only [Bs.wt, ho, wtO]
      omega
theorem step_wt (p q : Nat) {s s' : Bs} {t : Tok} (h : stepB s t = .ok s') : s'.wt p q ≤ s.wt p q + (p + q * t.s.length) := by
  unfold stepB at h
  split at h
  · split at h
    · injection h with h
      subst h
      have e : flat (s.texts ++ [(t.place, t.s)]) = flat s.texts ++ t.s := by simp [flat]
      have e2 : ¬ (s.texts ++ [(t.place, t.s)] = []) := by simp
      simp only [Bs.wt, e, List.length_append, Nat.mul_add, if_neg e2]
      omega
    · split at h
      · injection h with h
        subst h
        omega
      · cases h
  · split at h
    · have := begin_wt p q h
      have := end_wt p q s
      omega
    · split at h
      · have := endE_wt p q h
        have := end_wt p q s
        omega
      · cases h
theorem build_wt (p q m : Nat) : ∀ (l : List Tok) {s s' : Bs}, buildS s l = .ok s' → (∀ t ∈ l, p + q * t.s.length ≤ m) → s'.wt p q ≤ s.wt p q + l.length * m
  | [], s, s', h, hm => by unfold buildS at h; injection h with h; subst h; omega
  | t :: r, s, s', h, hm => by
    unfold buildS at h
    cases hs : stepB s t with
    | error x => rw [hs] at h; cases h
    | ok s2 =>
      rw [hs] at h
      have h1 := step_wt p q hs
      have h2 := build_wt p q m r h (fun x hx => hm x (by simp [hx]))
      have h3 := hm t (by simp)
      rw [List.length_cons, Nat.succ_mul]
      omega
/-- Names are there. -/
structure Named (s : Bs) : Prop where
  opn : ∀ e ∈ s.opn, e.nm.2 ≠ []
  out : ∀ n, s.outer = some n → n.nm.2 ≠ []
  txt : s.texts ≠ [] → s.opn ≠ []
theorem name_ne {g : Sp} {w bare : List UInt8} {nm : Nm} (h : nameIn g w bare = .ok nm) : nm.2 ≠ [] := by
  have key : ∀ p s, splitO w = some (p, s) → s ≠ [] := by
    intro p s hs
    unfold splitO at hs
    have pn : plainB [] = false := by decide
    split at hs
    · split at hs
      · rename_i hp
        injection hs with hs
        injection hs with _ h2
        subst h2
        intro e
        rw [e, pn] at hp
        cases hp
      · cases hs
    · split at hs
      · rename_i hp
        injection hs with hs
        injection hs with _ h2
        intro e
        rw [h2, e, pn] at hp
        simp at hp
      · cases hs
  unfold nameIn at h
  cases hs : splitO w with
  | none => rw [hs] at h; cases h
  | some x =>
    obtain ⟨p, s⟩ := x
    rw [hs] at h
    dsimp only at h
    have hk := key p s hs
    split at h
    · injection h with h; subst h; exact hk
    · split at h
      · cases h
      · injection h with h; subst h; exact hk
theorem Named.add {s : Bs} (h : Named s) {n : Node} (hn : s.opn ≠ [] ∨ (n.nm.2 ≠ [] ∧ s.texts = [])) : Named (addN s n) := by
  unfold addN
  cases ho : s.opn with
  | nil =>
    rcases hn with hn | hn
    · exact absurd ho hn
    · refine ⟨fun e he => (by cases he), ?_, fun ht => absurd hn.2 ht⟩
      intro m hm
      injection hm with hm
      subst hm
      exact hn.1
  | cons e r =>
    refine ⟨?_, h.out, by simp⟩
    intro x hx
    rcases List.mem_cons.1 hx with rfl | hx
    · exact h.opn e (by rw [ho]; simp)
    · exact h.opn x (by rw [ho]; simp [hx])
theorem Named.endT {s : Bs} (h : Named s) : Named (Tree.endT s) ∧ (Tree.endT s).texts = [] := by
  unfold Tree.endT
  split
  · rename_i ht
    exact ⟨h, ht⟩
  · rename_i t r ht
    have hne : s.opn ≠ [] := h.txt (by rw [ht]; simp)
    have h1 := h.add (n := .mk t.1 ([], []) [] [] (flat (t :: r))) (.inl hne)
    exact ⟨⟨h1.opn, h1.out, by simp⟩, rfl⟩
theorem Named.begin {s s' : Bs} (h : Named s) (ht : s.texts = []) {t : Tok} (hs : beginT s t = .ok s') : Named s' := by
  obtain ⟨ho, hl, g, nm, al, hb, rfl⟩ := begin_inv hs
  have hn := name_ne hb.n
  split
  · exact h.add (.inr ⟨hn, ht⟩)
  · refine ⟨?_, h.out, by simp⟩
    intro x hx
    rcases List.mem_cons.1 hx with rfl | hx
    · exact hn
    · exact h.opn x hx
theorem Named.ends {s s' : Bs} (h : Named s) (ht : s.texts = []) {t : Tok} (hs : endE s t = .ok s') : Named s' := by
  unfold endE at hs
  split at hs
  · cases hs
  · rename_i e r ho
    split at hs
    · cases hs
    · injection hs with hs
      subst hs
      have h2 : Named { s with opn := r } := ⟨fun x hx => h.opn x (by rw [ho]; simp [hx]), h.out, fun hx => absurd ht hx⟩
      exact h2.add (.inr ⟨h.opn e (by rw [ho]; simp), ht⟩)
theorem Named.step {s s' : Bs} (h : Named s) {t : Tok} (hs : stepB s t = .ok s') : Named s' := by
  unfold stepB at hs
  split at hs
  · split at hs
    · rename_i hne
      injection hs with hs
      subst hs
      exact ⟨h.opn, h.out, fun _ => hne⟩
    · split at hs
      · injection hs with hs
        subst hs
        exact h
      · cases hs
  · split at hs
    · exact h.endT.1.begin h.endT.2 hs
    · split at hs
      · exact h.endT.1.ends h.endT.2 hs
      · cases hs
theorem Named.build : ∀ (l : List Tok) {s s' : Bs}, Named s → buildS s l = .ok s' → Named s'
  | [], s, s', hn, h => by unfold buildS at h; injection h with h; subst h; exact hn
  | t :: r, s, s', hn, h => by
    unfold buildS at h
    cases hs : stepB s t with
    | error x => rw [hs] at h; cases h
    | ok s2 => rw [hs] at h; exact Named.build r (hn.step hs) h
/-- What is read is no greater than this, and has a name. -/
theorem read_fit {b : List UInt8} {n : Node} {p : Int} (h : read b = (n, p, 0)) (hb : b.length ≤ 2000) : n.size ≤ 1000000 ∧ n.all.length ≤ 1000000000 ∧ n.kids.length ≤ 1000000 ∧ n.nm.2 ≠ [] := by
  unfold read at h
  split at h
  · rename_i c; injection h with _ h; injection h with _ h; exact absurd h c
  obtain ⟨s1, hs1, hout⟩ : ∃ s1, buildS ⟨[], [], none⟩ (tokens b).1 = .ok s1 ∧ s1.outer = some n := by
    unfold Tree.build at h
    cases hb : buildS ⟨[], [], none⟩ (tokens b).1 with
    | error x =>
      rw [hb] at h
      simp only at h
      injection h with _ h
      injection h with _ h
      exact absurd h (build_ne _ _ _ hb)
    | ok s1 =>
      rw [hb] at h
      simp only [Bs.out] at h
      cases ho : s1.outer with
      | none => rw [ho] at h; injection h with _ h; injection h with _ h; cases h
      | some n' => rw [ho] at h; injection h with h _; exact ⟨s1, rfl, by rw [ho, h]⟩
  have hf := (tokens_few b).1
  have h1 := build_wt 1 0 1 (tokens b).1 hs1 (fun t ht => by omega)
  have h2 := build_wt 0 1 8000 (tokens b).1 hs1 (fun t ht => by have := (tokens_short' t ht).1; omega)
  have e1 : (Bs.mk [] [] none).wt 1 0 = 0 := by simp [Bs.wt, wtO, flat, outW]
  have e2 : (Bs.mk [] [] none).wt 0 1 = 0 := by simp [Bs.wt, wtO, flat, outW]
  have g1 : n.wt 1 0 ≤ s1.wt 1 0 := by unfold Bs.wt; rw [hout]; simp only [outW]; omega
  have g2 : n.wt 0 1 ≤ s1.wt 0 1 := by unfold Bs.wt; rw [hout]; simp only [outW]; omega
  rw [wt_size] at g1
  rw [wt_all] at g2
  have hk : n.kids.length ≤ n.size := by have := size_kids n; have := sizeL_len n.kids; omega
  have hm : (tokens b).1.length * 8000 ≤ 2000 * 8000 := Nat.mul_le_mul_right _ (by omega)
  refine ⟨by omega, by omega, by omega, ?_⟩
  exact (Named.build _ (s := ⟨[], [], none⟩) ⟨by simp, by simp, by simp⟩ hs1).out n hout
/-- The one child of that name. -/
theorem whole_finds {n m : Node} (h : Whole n m) (hn : n.nm.2 ≠ []) : ∃ n', finds n.nm m.kids = [n'] ∧ SameN n n' ∧ n.all.length + 1 ≤ m.all.length := by
  obtain ⟨_, K, n', K2, hk, hs, h1, h2, h3⟩ := h
  have ht : ∀ K : List Node, Txs K → finds n.nm K = [] := fun K hK => by
    unfold finds
    rw [List.filter_eq_nil_iff]
    intro x hx
    have := hK x hx
    rw [this]
    simp only [decide_eq_true_eq]
    intro e
    exact hn (by rw [← e])
  refine ⟨n', ?_, hs, ?_⟩
  · rw [hk]
    have e1 : finds n.nm (K ++ n' :: K2) = finds n.nm K ++ finds n.nm (n' :: K2) := by unfold finds; exact List.filter_append ..
    have e2 : finds n.nm (n' :: K2) = n' :: finds n.nm K2 := by unfold finds; rw [List.filter_cons, if_pos (by rw [hs.nm]; simp)]
    rw [e1, e2, ht K h1, ht K2 h2]
    rfl
  · have e : m.all = m.text ++ allL m.kids := by cases m; rfl
    rw [e, hk, allL_append, List.length_append, List.length_append]
    simp only [allL, List.length_append]
    rw [← hs.all]
    omega
end Go.Proofs.YtdpknpgknbkiiaaGreatDoor.Tree
namespace Go.Proofs.YtdpknpgknbkiiaaGreatDoor.Tree
open Go Go.Proofs.YtdpknpgknbkiiaaGreatDoor Go.Proofs.YtdpknpgknbkiiaaGreatDoor.Utf Go.Proofs.YtdpknpgknbkiiaaGreatDoor.Names Go.Proofs.YtdpknpgknbkiiaaGreatDoor.Ent Go.Proofs.YtdpknpgknbkiiaaGreatDoor.Tok Go.RowKit
set_option maxRecDepth 100000
theorem Text_any {W : World} {n : Node} {ao : Option Addr} {an ac : Nat} {ko : Option Addr} {kn kc : Nat} (h : IsN W (fun _ => False) n (.slice ao an ac) (.slice ko kn kc)) (hz : n.size ≤ 1000000) (hl : n.all.length ≤ 1000000000) :
    Calls Tryz.prog 8 #[nodeV n (.slice ao an ac) (.slice ko kn kc)] W fun e w' => e = .returned (.string (text n.all)) ∧ Below W.heap.size W w' :=
  callsIn_wide.1 (Text_in h hz hl (fun C b l X hI => Bld.String_only C b l X hI))
theorem SameN.symm {a b : Node} (h : SameN a b) : SameN b a := by
  induction h with
  | mk r hr ih =>
    refine SameN.of ⟨r.map (fun x => (x.2, x.1)), by simp, by simp, ?_⟩
    intro x hx
    obtain ⟨y, hy, rfl⟩ := List.mem_map.1 hx
    exact ih y hy
theorem two_first {l : List UInt8} (h2 : 2 ≤ l.length) (q0 : l[0] = 60) (q1 : l[1] = 63) (hd : ∀ r, l ≠ 60 :: 63 :: r) : False := by
  match l, h2, q0, q1, hd with
  | a :: b :: r, _, q0, q1, hd =>
    refine hd r ?_
    have e0 : a = 60 := q0
    have e1 : b = 63 := q1
    rw [e0, e1]
theorem cell_on {X Y : World} {p : Addr} {v : Value} (h : X.cell? p = some v) (hb : Below X.heap.size X Y) : Y.cell? p = some v := (hb.cell (p := p) (World.block_lt_of_cell? X p h)).trans h
theorem Whole.small {n m n' : Node} (h : Whole n m) (hs : SameN n n') (hf : finds n.nm m.kids = [n']) : n'.size ≤ m.size := by
  have hm : n' ∈ m.kids := by
    have : n' ∈ finds n.nm m.kids := by rw [hf]; simp
    exact (List.mem_filter.1 this).1
  obtain ⟨a, b, hab⟩ := List.append_of_mem hm
  rw [size_kids m, hab, sizeL_append]
  simp only [sizeL]
  omega
set_option maxHeartbeats 16000000 in
theorem Nest_great (v : Value) (l : List UInt8) (W : World) (hb : Bytes W v l) (hw : FitM W) (h : 1500 < l.length) :
    Calls Tryz.prog 3 #[v] W fun e w' => e = .returned (.bool true) ∧ Below W.heap.size W w' := by
  have AL := hid alive_any
  have HW := hid hw
  have hlen := fun X => hb.len (P := Tryz.prog) 22 3 5 underB X
  have HB := hid hb
  clear hb hw
  have hle : (1500 : Int) < (l.length : Int) := by omega
  go_enter Tryz.func3, Tryz.ntmps3
  go_wp2_with fail
  refine (AL.out _ HW.out).mono ?_
  rintro e w1 ⟨rfl, hb1⟩
  have HB1 := hid hb1
  clear hb1
  go_wp2_with fail
  refine (AL.out _ (HW.out.below HB1.out)).mono ?_
  rintro e w2 ⟨rfl, hb2⟩
  have HB2 := hid (bt HB1.out hb2)
  go_wp2
  go_ret
  exact ⟨rfl, HB2.out⟩
set_option maxHeartbeats 16000000 in
theorem Nest_wrong (v : Value) (l : List UInt8) (W : World) (hb : Bytes W v l) (hw : FitM W) (h : l.length ≤ 1500) (n : Node) (p : Int) (er : Nat) (hr : read l = (n, p, er)) (her : er ≠ 0) :
    Calls Tryz.prog 3 #[v] W fun e w' => e = .returned (.bool true) ∧ Below W.heap.size W w' := by
  have AL := hid alive_any
  have HW := hid hw
  have hlen := fun X => hb.len (P := Tryz.prog) 22 3 5 underB X
  have HB := hid hb
  clear hb hw
  have hle : ¬ (1500 : Int) < (l.length : Int) := by omega
  have hq : ((er : Int) == 0) = false := by rw [beq_eq_false_iff_ne]; omega
  go_enter Tryz.func3, Tryz.ntmps3
  go_wp2_with fail
  refine (AL.out _ HW.out).mono ?_
  rintro e w1 ⟨rfl, hb1⟩
  have HB1 := hid hb1
  have RD := hid (Read_any (HB.out.below hb1 (Nat.le_refl _)) (HW.out.below hb1) (by omega))
  rw [hr] at RD
  clear hb1
  go_wp2_with fail
  refine RD.out.mono ?_
  rintro e w2 ⟨⟨ao, an, ac, ko, kn, kc, rfl, hN⟩, hb2⟩
  simp only [nodeV]
  have HB2 := hid (bt HB1.out hb2)
  have HB3 := hid (ba HB2.out (.cells #[.int .i64 n.place, .string (text n.nm.1), .string (text n.nm.2), .slice ao an ac, .slice ko kn kc, .string (text n.text)] 29))
  clear hN hb2
  go_wp2
  go_ret
  exact ⟨rfl, HB3.out⟩
set_option maxHeartbeats 16000000 in
theorem Nest_decl (v : Value) (l : List UInt8) (W : World) (hb : Bytes W v l) (hw : FitM W) (r : List UInt8) (hl : l = 60 :: 63 :: r) (h : l.length ≤ 1500) (n : Node) (p : Int) (hr : read l = (n, p, 0)) :
    Calls Tryz.prog 3 #[v] W fun e w' => e = .returned (.bool true) ∧ Below W.heap.size W w' := by
  have AL := hid alive_any
  have HW := hid hw
  have hlen := fun X => hb.len (P := Tryz.prog) 22 3 5 underB X
  have HB := hid hb
  clear hb hw
  have hle : ¬ (1500 : Int) < (l.length : Int) := by omega
  have h2 : 2 ≤ l.length := by rw [hl]; simp
  have hz1 : (1 : Int) < (l.length : Int) := by omega
  have q0 : l[0] = 60 := by subst hl; rfl
  have q1 : l[1] = 63 := by subst hl; rfl
  clear hl
  go_enter Tryz.func3, Tryz.ntmps3
  go_wp2_with fail
  refine (AL.out _ HW.out).mono ?_
  rintro e w1 ⟨rfl, hb1⟩
  have HB1 := hid hb1
  have RD := hid (Read_any (HB.out.below hb1 (Nat.le_refl _)) (HW.out.below hb1) (by omega))
  rw [hr] at RD
  clear hb1
  go_wp2_with fail
  refine RD.out.mono ?_
  rintro e w2 ⟨⟨ao, an, ac, ko, kn, kc, rfl, hN⟩, hb2⟩
  simp only [nodeV]
  have HB2 := hid (bt HB1.out hb2)
  have HB3 := hid (ba HB2.out (.cells #[.int .i64 n.place, .string (text n.nm.1), .string (text n.nm.2), .slice ao an ac, .slice ko kn kc, .string (text n.text)] 29))
  obtain ⟨p0, o0, ip0, c0⟩ := (HB.out.below HB3.out (Nat.le_refl _)).at (P := Tryz.prog) 0 (by omega) 22 5 underB size8
  have jp0 : ∀ Z, (Instr.indexAt 22 v (.int .i64 0)).run Tryz.prog Z = .ok (.pointer (some ⟨p0, o0, none⟩)) Z := fun Z => by simpa using ip0 .i64 Z
  obtain ⟨p1, o1, ip1, c1⟩ := (HB.out.below HB3.out (Nat.le_refl _)).at (P := Tryz.prog) 1 (by omega) 22 5 underB size8
  have jp1 : ∀ Z, (Instr.indexAt 22 v (.int .i64 1)).run Tryz.prog Z = .ok (.pointer (some ⟨p1, o1, none⟩)) Z := fun Z => by simpa using ip1 .i64 Z
  rw [q0] at c0
  rw [q1] at c1
  have c0' : (w2.alloc (.cells #[.int .i64 n.place, .string (text n.nm.1), .string (text n.nm.2), .slice ao an ac, .slice ko kn kc, .string (text n.text)] 29)).cell? ⟨p0, o0, none⟩ = some (.int .u8 60) := c0
  have c1' : (w2.alloc (.cells #[.int .i64 n.place, .string (text n.nm.1), .string (text n.nm.2), .slice ao an ac, .slice ko kn kc, .string (text n.text)] 29)).cell? ⟨p1, o1, none⟩ = some (.int .u8 63) := c1
  clear hN hb2 c0 c1 ip0 ip1
  go_wp2
  go_ret
  exact ⟨rfl, HB3.out⟩
set_option maxHeartbeats 16000000 in
theorem Nest_one (v : Value) (l : List UInt8) (W : World) (hb : Bytes W v l) (hw : FitM W) (h1 : l.length ≤ 1) (n : Node) (p : Int) (hr : read l = (n, p, 0)) (hd : ∀ r, l ≠ 60 :: 63 :: r) :
    Calls Tryz.prog 3 #[v] W fun e w' => e = .returned (.bool true) ∧ Below W.heap.size W w' := by
  have AL := hid alive_any
  have HW := hid hw
  have hlen := fun X => hb.len (P := Tryz.prog) 22 3 5 underB X
  have HB := hid hb
  clear hb hw
  have hle : ¬ (1500 : Int) < (l.length : Int) := by omega
  have hz1 : ¬ (1 : Int) < (l.length : Int) := by omega
  obtain ⟨g1, eg1⟩ : ∃ q, [60, 114, 62, 120] ++ l = q := ⟨_, rfl⟩
  have qg1 : (⟨#[60, 114, 62, 120]⟩ : ByteArray) ++ text l = text g1 := by rw [← eg1]; exact lit_add5 _ _ _ rfl
  have zg1 : (⟨#[60, 114, 62, 120]⟩ : ByteArray).size + (text l).size ≤ 9223372036854775807 := by rw [text_size]; simp [ByteArray.size]; omega
  have lg1 : g1.length ≤ 1600 := by rw [← eg1]; simp; omega
  obtain ⟨g2, eg2⟩ : ∃ q, g1 ++ [60, 47, 114, 62] = q := ⟨_, rfl⟩
  have qg2 : text g1 ++ (⟨#[60, 47, 114, 62]⟩ : ByteArray) = text g2 := by rw [← eg2]; exact add_lit5 _ _ _ rfl
  have zg2 : (text g1).size + (⟨#[60, 47, 114, 62]⟩ : ByteArray).size ≤ 9223372036854775807 := by rw [text_size]; simp [ByteArray.size]; omega
  have yg2 : ¬ 9223372036854775807 < (text g1).size + 4 := by rw [text_size]; omega
  have lg2 : g2.length ≤ 1700 := by rw [← eg2]; simp; omega
  have D := hid (show g2 = wholeOf l by rw [← eg2, ← eg1]; rfl)
  have hgl : (wholeOf l).length ≤ 1700 := by rw [← D.out]; exact lg2
  have hrw := read_nest hr (by omega) hd
  clear eg1 eg2 hd
  go_enter Tryz.func3, Tryz.ntmps3
  go_wp2_with fail
  refine (AL.out _ HW.out).mono ?_
  rintro e w1 ⟨rfl, hb1⟩
  have HB1 := hid hb1
  have RD := hid (Read_any (HB.out.below hb1 (Nat.le_refl _)) (HW.out.below hb1) (by omega))
  rw [hr] at RD
  clear hb1
  go_wp2_with fail
  refine RD.out.mono ?_
  rintro e w2 ⟨⟨ao, an, ac, ko, kn, kc, rfl, hN⟩, hb2⟩
  simp only [nodeV]
  have HB2 := hid (bt HB1.out hb2)
  have HB3 := hid (ba HB2.out (.cells #[.int .i64 n.place, .string (text n.nm.1), .string (text n.nm.2), .slice ao an ac, .slice ko kn kc, .string (text n.text)] 29))
  have HN3 := hid ((hN.to (A' := fun _ => False) (fun _ _ f => f.elim) (Keep.of_below (b0 w2))).to (A' := fun _ => False) (fun _ _ f => f) (Keep.of_below (ba (b0 w2) (.cells #[.int .i64 n.place, .string (text n.nm.1), .string (text n.nm.2), .slice ao an ac, .slice ko kn kc, .string (text n.text)] 29))))
  have P3 := hid (heap_alloc_new w2 (.cells #[.int .i64 n.place, .string (text n.nm.1), .string (text n.nm.2), .slice ao an ac, .slice ko kn kc, .string (text n.text)] 29))
  have HCV := hid ((HB.out.below HB3.out (Nat.le_refl _)).conv (P := Tryz.prog) 22 9 5 underB under8 under9)
  obtain ⟨vd, w4, hcv, hvb, hb4, _⟩ := conv_at (P := Tryz.prog) g2 (by omega) 9 22 5 under9 underB under8 (w2.alloc (.cells #[.int .i64 n.place, .string (text n.nm.1), .string (text n.nm.2), .slice ao an ac, .slice ko kn kc, .string (text n.text)] 29))
  have HB4 := hid (bt HB3.out hb4)
  have RD2 := hid (Read_any (hvb w4 rfl) (HW.out.below HB4.out) (by omega))
  have P4 := hid ((hb4.block _ (by simp)).trans P3.out)
  have HN4 := hid (HN3.out.to (A' := fun _ => False) (fun _ _ f => f) (Keep.of_below hb4))
  have hcv0 := HCV.out
  rw [D.out] at RD2
  clear hN hb2 hvb hb4
  rcases hrw with ⟨m, q, r2, hwh⟩ | ⟨q, r2⟩
  · have hm1 : text m.nm.1 = ⟨#[]⟩ := by rw [hwh.1]; rfl
    have hm2 : text m.nm.2 = ⟨#[114]⟩ := by rw [hwh.1]; rfl
    rw [r2] at RD2
    go_wp2_with fail
    refine RD2.out.mono ?_
    rintro e w5 ⟨⟨bo, bn, bc, lo, ln, lc, rfl, hM⟩, hb5⟩
    simp only [nodeV, hm1, hm2]
    have HB5 := hid (bt HB4.out hb5)
    have B6 := ba (b0 w5) (.cells #[.int .i64 m.place, .string ⟨#[]⟩, .string ⟨#[114]⟩, .slice bo bn bc, .slice lo ln lc, .string (text m.text)] 29)
    have HB6 := hid (bt HB5.out B6)
    have Q6 := hid (heap_alloc_new w5 (.cells #[.int .i64 m.place, .string ⟨#[]⟩, .string ⟨#[114]⟩, .slice bo bn bc, .slice lo ln lc, .string (text m.text)] 29))
    have P6 := hid ((B6.block _ (Nat.lt_of_lt_of_le (lt_of_some P4.out) hb5.size)).trans ((hb5.block _ (lt_of_some P4.out)).trans P4.out))
    have HN6 := hid ((HN4.out.to (A' := fun _ => False) (fun _ _ f => f) (Keep.of_below hb5)).to (A' := fun _ => False) (fun _ _ f => f) (Keep.of_below B6))
    have HM6 := hid ((show IsN w5 _ m (.slice bo bn bc) (.slice lo ln lc) from hM).to (A' := fun _ => False) (fun _ _ f => f.elim) (Keep.of_below B6))
    obtain ⟨f1, f2, f3, f4⟩ := read_fit hr (by omega)
    obtain ⟨g1', g2', g3', _⟩ := read_fit r2 (by omega)
    obtain ⟨n', hfn, hsn, hall⟩ := whole_finds hwh f4
    have hsz := hwh.small hsn hfn
    have FI := hid (Find_any HM6.out g3' n.nm.1 n.nm.2 f4)
    simp only [nodeV, hm1, hm2] at FI
    rw [show ((n.nm.1, n.nm.2) : Nm) = n.nm from rfl, hfn] at FI
    have x1 : (w5.alloc (.cells #[.int .i64 m.place, .string ⟨#[]⟩, .string ⟨#[114]⟩, .slice bo bn bc, .slice lo ln lc, .string (text m.text)] 29)).cell? ⟨w2.heap.size, 1, none⟩ = some (.string (text n.nm.1)) := by rw [Lib.cell_of_heap P6.out]; rfl
    have x2 : (w5.alloc (.cells #[.int .i64 m.place, .string ⟨#[]⟩, .string ⟨#[114]⟩, .slice bo bn bc, .slice lo ln lc, .string (text m.text)] 29)).cell? ⟨w2.heap.size, 2, none⟩ = some (.string (text n.nm.2)) := by rw [Lib.cell_of_heap P6.out]; rfl
    clear B6 hb5 hM hwh hfn r2 f4
    go_wp2_with fail
    refine FI.out.mono ?_
    rintro e w7 ⟨⟨vl, rfl, hK⟩, hb7⟩
    have HB7 := hid (bt HB6.out hb7)
    have klen := fun X => hK.len (P := Tryz.prog) 27 3 29 undN X
    obtain ⟨bk, ok, av1, kv1, i0, e0, e1, e2, e3, e4, e5, hI1, _⟩ := hK.at (P := Tryz.prog) 0 (by simp) 27 29 undN sizN
    simp only [List.getElem_cons_zero] at e0 e1 e2 e3 e4 e5 hI1
    obtain ⟨⟨co, cn, cc, hx1⟩, do_, dn, dc, hy1⟩ := hI1.forms
    subst hx1 hy1
    have j0 : ∀ Z, (Instr.indexAt 27 vl (.int .i64 0)).run Tryz.prog Z = .ok (.pointer (some ⟨bk, ok, none⟩)) Z := fun Z => by simpa using i0 .i64 Z
    have klen' : ∀ Z, (Builtin.len_ #[27] 3 #[vl]).run Tryz.prog Z = .ok (.int .i64 1) Z := klen
    have P7 := (hb7.block _ (lt_of_some P6.out)).trans P6.out
    have Q7 := (hb7.block _ (lt_of_some Q6.out)).trans Q6.out
    have N7 := HN6.out.to (A' := fun _ => False) (fun _ _ f => f) (Keep.of_below hb7)
    have M7 := HM6.out.to (A' := fun _ => False) (fun _ _ f => f) (Keep.of_below hb7)
    have HS := hid (fun (X : World) (hX : Below w7.heap.size w7 X) => (show (Below w7.heap.size w7 X ∧ X.cell? ⟨w2.heap.size, 0, none⟩ = some (.int .i64 n.place) ∧ X.cell? ⟨w2.heap.size, 1, none⟩ = some (.string (text n.nm.1)) ∧ X.cell? ⟨w2.heap.size, 2, none⟩ = some (.string (text n.nm.2)) ∧ X.cell? ⟨w2.heap.size, 3, none⟩ = some (.slice ao an ac) ∧ X.cell? ⟨w2.heap.size, 4, none⟩ = some (.slice ko kn kc) ∧ X.cell? ⟨w2.heap.size, 5, none⟩ = some (.string (text n.text)) ∧ X.cell? ⟨w5.heap.size, 0, none⟩ = some (.int .i64 m.place) ∧ X.cell? ⟨w5.heap.size, 1, none⟩ = some (.string ⟨#[]⟩) ∧ X.cell? ⟨w5.heap.size, 2, none⟩ = some (.string ⟨#[114]⟩) ∧ X.cell? ⟨w5.heap.size, 3, none⟩ = some (.slice bo bn bc) ∧ X.cell? ⟨w5.heap.size, 4, none⟩ = some (.slice lo ln lc) ∧ X.cell? ⟨w5.heap.size, 5, none⟩ = some (.string (text m.text)) ∧ X.cell? ⟨bk, ok, none⟩ = some (.int .i64 n'.place) ∧ X.cell? ⟨bk, ok + 1, none⟩ = some (.string (text n'.nm.1)) ∧ X.cell? ⟨bk, ok + 2, none⟩ = some (.string (text n'.nm.2)) ∧ X.cell? ⟨bk, ok + 3, none⟩ = some (.slice co cn cc) ∧ X.cell? ⟨bk, ok + 4, none⟩ = some (.slice do_ dn dc) ∧ X.cell? ⟨bk, ok + 5, none⟩ = some (.string (text n'.text))) from ⟨hX, by rw [Lib.cell_of_heap ((hX.block _ (lt_of_some P7)).trans P7)]; rfl, by rw [Lib.cell_of_heap ((hX.block _ (lt_of_some P7)).trans P7)]; rfl, by rw [Lib.cell_of_heap ((hX.block _ (lt_of_some P7)).trans P7)]; rfl, by rw [Lib.cell_of_heap ((hX.block _ (lt_of_some P7)).trans P7)]; rfl, by rw [Lib.cell_of_heap ((hX.block _ (lt_of_some P7)).trans P7)]; rfl, by rw [Lib.cell_of_heap ((hX.block _ (lt_of_some P7)).trans P7)]; rfl, by rw [Lib.cell_of_heap ((hX.block _ (lt_of_some Q7)).trans Q7)]; rfl, by rw [Lib.cell_of_heap ((hX.block _ (lt_of_some Q7)).trans Q7)]; rfl, by rw [Lib.cell_of_heap ((hX.block _ (lt_of_some Q7)).trans Q7)]; rfl, by rw [Lib.cell_of_heap ((hX.block _ (lt_of_some Q7)).trans Q7)]; rfl, by rw [Lib.cell_of_heap ((hX.block _ (lt_of_some Q7)).trans Q7)]; rfl, by rw [Lib.cell_of_heap ((hX.block _ (lt_of_some Q7)).trans Q7)]; rfl, cell_on e0 hX, cell_on e1 hX, cell_on e2 hX, cell_on e3 hX, cell_on e4 hX, cell_on e5 hX⟩))
    have SM := hid (fun (X : World) (hX : Below w7.heap.size w7 X) => Same_any (hI1.to (A' := fun _ => False) (fun _ _ f => f) (Keep.of_below hX)) (N7.to (A' := fun _ => False) (fun _ _ f => f) (Keep.of_below hX)) hsn.symm (by omega))
    have TM := hid (fun (X : World) (hX : Below w7.heap.size w7 X) => Text_any (M7.to (A' := fun _ => False) (fun _ _ f => f) (Keep.of_below hX)) g1' g2')
    have TN := hid (fun (X : World) (hX : Below w7.heap.size w7 X) => Text_any (N7.to (A' := fun _ => False) (fun _ _ f => f) (Keep.of_below hX)) f1 f2)
    simp only [nodeV, hm1, hm2] at SM TM TN
    have s1 : (text n.all).size = n.all.length := text_size _
    have s2 : (text m.all).size = m.all.length := text_size _
    generalize text n.all = tn at *
    generalize text m.all = tm at *
    have hwr : IntKind.i64.wrap (1 + (tn.size : Int)) = 1 + (tn.size : Int) := IntWalk.i64_in _ (by omega)
    have hge : 1 + (tn.size : Int) ≤ (tm.size : Int) := by omega
    have HS0 := HS.out w7.drew (below_drewN (b0 w7) 1)
    clear klen i0 e0 e1 e2 e3 e4 e5 hI1 hK P7 Q7 N7 M7 hb7 s1 s2 x1 x2 f1 f2 f3 g1' g2' g3' hsz hall hsn
    go_wp2_with fail
    go_region_held3 (fun X => (Below w7.heap.size w7 X ∧ X.cell? ⟨w2.heap.size, 0, none⟩ = some (.int .i64 n.place) ∧ X.cell? ⟨w2.heap.size, 1, none⟩ = some (.string (text n.nm.1)) ∧ X.cell? ⟨w2.heap.size, 2, none⟩ = some (.string (text n.nm.2)) ∧ X.cell? ⟨w2.heap.size, 3, none⟩ = some (.slice ao an ac) ∧ X.cell? ⟨w2.heap.size, 4, none⟩ = some (.slice ko kn kc) ∧ X.cell? ⟨w2.heap.size, 5, none⟩ = some (.string (text n.text)) ∧ X.cell? ⟨w5.heap.size, 0, none⟩ = some (.int .i64 m.place) ∧ X.cell? ⟨w5.heap.size, 1, none⟩ = some (.string ⟨#[]⟩) ∧ X.cell? ⟨w5.heap.size, 2, none⟩ = some (.string ⟨#[114]⟩) ∧ X.cell? ⟨w5.heap.size, 3, none⟩ = some (.slice bo bn bc) ∧ X.cell? ⟨w5.heap.size, 4, none⟩ = some (.slice lo ln lc) ∧ X.cell? ⟨w5.heap.size, 5, none⟩ = some (.string (text m.text)) ∧ X.cell? ⟨bk, ok, none⟩ = some (.int .i64 n'.place) ∧ X.cell? ⟨bk, ok + 1, none⟩ = some (.string (text n'.nm.1)) ∧ X.cell? ⟨bk, ok + 2, none⟩ = some (.string (text n'.nm.2)) ∧ X.cell? ⟨bk, ok + 3, none⟩ = some (.slice co cn cc) ∧ X.cell? ⟨bk, ok + 4, none⟩ = some (.slice do_ dn dc) ∧ X.cell? ⟨bk, ok + 5, none⟩ = some (.string (text n'.text)))) (first | exact HSx | exact HS0) (first
      | (go_at_call 7
         refine (SM.out _ ?_).mono ?_
         (first | exact HSx.1 | exact HS0.1)
         rintro ev wx ⟨rfl, hb⟩
         first | have HSx := HS.out _ (bt HSx.1 hb) | have HSx := HS.out _ (bt HS0.1 hb))
      | (go_at_call 8
         with_reducible refine (TM.out _ ?_).mono ?_
         (first | exact HSx.1 | exact HS0.1)
         rintro ev wx ⟨rfl, hb⟩
         first | have HSx := HS.out _ (bt HSx.1 hb) | have HSx := HS.out _ (bt HS0.1 hb))
      | (go_at_call 8
         refine (TN.out _ ?_).mono ?_
         (first | exact HSx.1 | exact HS0.1)
         rintro ev wx ⟨rfl, hb⟩
         first | have HSx := HS.out _ (bt HSx.1 hb) | have HSx := HS.out _ (bt HS0.1 hb)))
    all_goals
      go_wp2
      go_ret
      exact ⟨rfl, bt HB7.out HSx.1⟩
  · rw [r2] at RD2
    go_wp2_with fail
    refine RD2.out.mono ?_
    rintro e w5 ⟨⟨bo, bn, bc, lo, ln, lc, rfl, _⟩, hb5⟩
    simp only [nodeV]
    have HB6 := hid (ba (bt HB4.out hb5) (.cells #[.int .i64 noNode.place, .string (text noNode.nm.1), .string (text noNode.nm.2), .slice bo bn bc, .slice lo ln lc, .string (text noNode.text)] 29))
    clear hb5
    go_wp2
    go_ret
    exact ⟨rfl, HB6.out⟩
set_option maxHeartbeats 16000000 in
theorem Nest_other (v : Value) (l : List UInt8) (W : World) (hb : Bytes W v l) (hw : FitM W) (h2 : 2 ≤ l.length) (h : l.length ≤ 1500) (q0 : l[0] ≠ 60) (n : Node) (p : Int) (hr : read l = (n, p, 0)) (hd : ∀ r, l ≠ 60 :: 63 :: r) :
    Calls Tryz.prog 3 #[v] W fun e w' => e = .returned (.bool true) ∧ Below W.heap.size W w' := by
  have AL := hid alive_any
  have HW := hid hw
  have hlen := fun X => hb.len (P := Tryz.prog) 22 3 5 underB X
  have HB := hid hb
  clear hb hw
  have hle : ¬ (1500 : Int) < (l.length : Int) := by omega
  have hz1 : (1 : Int) < (l.length : Int) := by omega
  have e0 : ((l[0].toNat : Int) == 60) = false := by
    rw [beq_eq_false_iff_ne]
    intro e
    exact q0 (UInt8.toNat_inj.1 (by have : (60 : UInt8).toNat = 60 := rfl; omega))
  obtain ⟨g1, eg1⟩ : ∃ q, [60, 114, 62, 120] ++ l = q := ⟨_, rfl⟩
  have qg1 : (⟨#[60, 114, 62, 120]⟩ : ByteArray) ++ text l = text g1 := by rw [← eg1]; exact lit_add5 _ _ _ rfl
  have zg1 : (⟨#[60, 114, 62, 120]⟩ : ByteArray).size + (text l).size ≤ 9223372036854775807 := by rw [text_size]; simp [ByteArray.size]; omega
  have lg1 : g1.length ≤ 1600 := by rw [← eg1]; simp; omega
  obtain ⟨g2, eg2⟩ : ∃ q, g1 ++ [60, 47, 114, 62] = q := ⟨_, rfl⟩
  have qg2 : text g1 ++ (⟨#[60, 47, 114, 62]⟩ : ByteArray) = text g2 := by rw [← eg2]; exact add_lit5 _ _ _ rfl
  have zg2 : (text g1).size + (⟨#[60, 47, 114, 62]⟩ : ByteArray).size ≤ 9223372036854775807 := by rw [text_size]; simp [ByteArray.size]; omega
  have yg2 : ¬ 9223372036854775807 < (text g1).size + 4 := by rw [text_size]; omega
  have lg2 : g2.length ≤ 1700 := by rw [← eg2]; simp; omega
  have D := hid (show g2 = wholeOf l by rw [← eg2, ← eg1]; rfl)
  have hgl : (wholeOf l).length ≤ 1700 := by rw [← D.out]; exact lg2
  have hrw := read_nest hr (by omega) hd
  clear eg1 eg2 hd
  go_enter Tryz.func3, Tryz.ntmps3
  go_wp2_with fail
  refine (AL.out _ HW.out).mono ?_
  rintro e w1 ⟨rfl, hb1⟩
  have HB1 := hid hb1
  have RD := hid (Read_any (HB.out.below hb1 (Nat.le_refl _)) (HW.out.below hb1) (by omega))
  rw [hr] at RD
  clear hb1
  go_wp2_with fail
  refine RD.out.mono ?_
  rintro e w2 ⟨⟨ao, an, ac, ko, kn, kc, rfl, hN⟩, hb2⟩
  simp only [nodeV]
  have HB2 := hid (bt HB1.out hb2)
  have HB3 := hid (ba HB2.out (.cells #[.int .i64 n.place, .string (text n.nm.1), .string (text n.nm.2), .slice ao an ac, .slice ko kn kc, .string (text n.text)] 29))
  obtain ⟨p0, o0, ip0, c0⟩ := (HB.out.below HB3.out (Nat.le_refl _)).at (P := Tryz.prog) 0 (by omega) 22 5 underB size8
  have jp0 : ∀ Z, (Instr.indexAt 22 v (.int .i64 0)).run Tryz.prog Z = .ok (.pointer (some ⟨p0, o0, none⟩)) Z := fun Z => by simpa using ip0 .i64 Z
  clear ip0
  have HN3 := hid ((hN.to (A' := fun _ => False) (fun _ _ f => f.elim) (Keep.of_below (b0 w2))).to (A' := fun _ => False) (fun _ _ f => f) (Keep.of_below (ba (b0 w2) (.cells #[.int .i64 n.place, .string (text n.nm.1), .string (text n.nm.2), .slice ao an ac, .slice ko kn kc, .string (text n.text)] 29))))
  have P3 := hid (heap_alloc_new w2 (.cells #[.int .i64 n.place, .string (text n.nm.1), .string (text n.nm.2), .slice ao an ac, .slice ko kn kc, .string (text n.text)] 29))
  have HCV := hid ((HB.out.below HB3.out (Nat.le_refl _)).conv (P := Tryz.prog) 22 9 5 underB under8 under9)
  obtain ⟨vd, w4, hcv, hvb, hb4, _⟩ := conv_at (P := Tryz.prog) g2 (by omega) 9 22 5 under9 underB under8 (w2.alloc (.cells #[.int .i64 n.place, .string (text n.nm.1), .string (text n.nm.2), .slice ao an ac, .slice ko kn kc, .string (text n.text)] 29))
  have HB4 := hid (bt HB3.out hb4)
  have RD2 := hid (Read_any (hvb w4 rfl) (HW.out.below HB4.out) (by omega))
  have P4 := hid ((hb4.block _ (by simp)).trans P3.out)
  have HN4 := hid (HN3.out.to (A' := fun _ => False) (fun _ _ f => f) (Keep.of_below hb4))
  have hcv0 := HCV.out
  rw [D.out] at RD2
  clear hN hb2 hvb hb4
  rcases hrw with ⟨m, q, r2, hwh⟩ | ⟨q, r2⟩
  · have hm1 : text m.nm.1 = ⟨#[]⟩ := by rw [hwh.1]; rfl
    have hm2 : text m.nm.2 = ⟨#[114]⟩ := by rw [hwh.1]; rfl
    rw [r2] at RD2
    go_wp2_with fail
    refine RD2.out.mono ?_
    rintro e w5 ⟨⟨bo, bn, bc, lo, ln, lc, rfl, hM⟩, hb5⟩
    simp only [nodeV, hm1, hm2]
    have HB5 := hid (bt HB4.out hb5)
    have B6 := ba (b0 w5) (.cells #[.int .i64 m.place, .string ⟨#[]⟩, .string ⟨#[114]⟩, .slice bo bn bc, .slice lo ln lc, .string (text m.text)] 29)
    have HB6 := hid (bt HB5.out B6)
    have Q6 := hid (heap_alloc_new w5 (.cells #[.int .i64 m.place, .string ⟨#[]⟩, .string ⟨#[114]⟩, .slice bo bn bc, .slice lo ln lc, .string (text m.text)] 29))
    have P6 := hid ((B6.block _ (Nat.lt_of_lt_of_le (lt_of_some P4.out) hb5.size)).trans ((hb5.block _ (lt_of_some P4.out)).trans P4.out))
    have HN6 := hid ((HN4.out.to (A' := fun _ => False) (fun _ _ f => f) (Keep.of_below hb5)).to (A' := fun _ => False) (fun _ _ f => f) (Keep.of_below B6))
    have HM6 := hid ((show IsN w5 _ m (.slice bo bn bc) (.slice lo ln lc) from hM).to (A' := fun _ => False) (fun _ _ f => f.elim) (Keep.of_below B6))
    obtain ⟨f1, f2, f3, f4⟩ := read_fit hr (by omega)
    obtain ⟨g1', g2', g3', _⟩ := read_fit r2 (by omega)
    obtain ⟨n', hfn, hsn, hall⟩ := whole_finds hwh f4
    have hsz := hwh.small hsn hfn
    have FI := hid (Find_any HM6.out g3' n.nm.1 n.nm.2 f4)
    simp only [nodeV, hm1, hm2] at FI
    rw [show ((n.nm.1, n.nm.2) : Nm) = n.nm from rfl, hfn] at FI
    have x1 : (w5.alloc (.cells #[.int .i64 m.place, .string ⟨#[]⟩, .string ⟨#[114]⟩, .slice bo bn bc, .slice lo ln lc, .string (text m.text)] 29)).cell? ⟨w2.heap.size, 1, none⟩ = some (.string (text n.nm.1)) := by rw [Lib.cell_of_heap P6.out]; rfl
    have x2 : (w5.alloc (.cells #[.int .i64 m.place, .string ⟨#[]⟩, .string ⟨#[114]⟩, .slice bo bn bc, .slice lo ln lc, .string (text m.text)] 29)).cell? ⟨w2.heap.size, 2, none⟩ = some (.string (text n.nm.2)) := by rw [Lib.cell_of_heap P6.out]; rfl
    clear B6 hb5 hM hwh hfn r2 f4
    go_wp2_with fail
    refine FI.out.mono ?_
    rintro e w7 ⟨⟨vl, rfl, hK⟩, hb7⟩
    have HB7 := hid (bt HB6.out hb7)
    have klen := fun X => hK.len (P := Tryz.prog) 27 3 29 undN X
    obtain ⟨bk, ok, av1, kv1, i0, e0, e1, e2, e3, e4, e5, hI1, _⟩ := hK.at (P := Tryz.prog) 0 (by simp) 27 29 undN sizN
    simp only [List.getElem_cons_zero] at e0 e1 e2 e3 e4 e5 hI1
    obtain ⟨⟨co, cn, cc, hx1⟩, do_, dn, dc, hy1⟩ := hI1.forms
    subst hx1 hy1
    have j0 : ∀ Z, (Instr.indexAt 27 vl (.int .i64 0)).run Tryz.prog Z = .ok (.pointer (some ⟨bk, ok, none⟩)) Z := fun Z => by simpa using i0 .i64 Z
    have klen' : ∀ Z, (Builtin.len_ #[27] 3 #[vl]).run Tryz.prog Z = .ok (.int .i64 1) Z := klen
    have P7 := (hb7.block _ (lt_of_some P6.out)).trans P6.out
    have Q7 := (hb7.block _ (lt_of_some Q6.out)).trans Q6.out
    have N7 := HN6.out.to (A' := fun _ => False) (fun _ _ f => f) (Keep.of_below hb7)
    have M7 := HM6.out.to (A' := fun _ => False) (fun _ _ f => f) (Keep.of_below hb7)
    have HS := hid (fun (X : World) (hX : Below w7.heap.size w7 X) => (show (Below w7.heap.size w7 X ∧ X.cell? ⟨w2.heap.size, 0, none⟩ = some (.int .i64 n.place) ∧ X.cell? ⟨w2.heap.size, 1, none⟩ = some (.string (text n.nm.1)) ∧ X.cell? ⟨w2.heap.size, 2, none⟩ = some (.string (text n.nm.2)) ∧ X.cell? ⟨w2.heap.size, 3, none⟩ = some (.slice ao an ac) ∧ X.cell? ⟨w2.heap.size, 4, none⟩ = some (.slice ko kn kc) ∧ X.cell? ⟨w2.heap.size, 5, none⟩ = some (.string (text n.text)) ∧ X.cell? ⟨w5.heap.size, 0, none⟩ = some (.int .i64 m.place) ∧ X.cell? ⟨w5.heap.size, 1, none⟩ = some (.string ⟨#[]⟩) ∧ X.cell? ⟨w5.heap.size, 2, none⟩ = some (.string ⟨#[114]⟩) ∧ X.cell? ⟨w5.heap.size, 3, none⟩ = some (.slice bo bn bc) ∧ X.cell? ⟨w5.heap.size, 4, none⟩ = some (.slice lo ln lc) ∧ X.cell? ⟨w5.heap.size, 5, none⟩ = some (.string (text m.text)) ∧ X.cell? ⟨bk, ok, none⟩ = some (.int .i64 n'.place) ∧ X.cell? ⟨bk, ok + 1, none⟩ = some (.string (text n'.nm.1)) ∧ X.cell? ⟨bk, ok + 2, none⟩ = some (.string (text n'.nm.2)) ∧ X.cell? ⟨bk, ok + 3, none⟩ = some (.slice co cn cc) ∧ X.cell? ⟨bk, ok + 4, none⟩ = some (.slice do_ dn dc) ∧ X.cell? ⟨bk, ok + 5, none⟩ = some (.string (text n'.text))) from ⟨hX, by rw [Lib.cell_of_heap ((hX.block _ (lt_of_some P7)).trans P7)]; rfl, by rw [Lib.cell_of_heap ((hX.block _ (lt_of_some P7)).trans P7)]; rfl, by rw [Lib.cell_of_heap ((hX.block _ (lt_of_some P7)).trans P7)]; rfl, by rw [Lib.cell_of_heap ((hX.block _ (lt_of_some P7)).trans P7)]; rfl, by rw [Lib.cell_of_heap ((hX.block _ (lt_of_some P7)).trans P7)]; rfl, by rw [Lib.cell_of_heap ((hX.block _ (lt_of_some P7)).trans P7)]; rfl, by rw [Lib.cell_of_heap ((hX.block _ (lt_of_some Q7)).trans Q7)]; rfl, by rw [Lib.cell_of_heap ((hX.block _ (lt_of_some Q7)).trans Q7)]; rfl, by rw [Lib.cell_of_heap ((hX.block _ (lt_of_some Q7)).trans Q7)]; rfl, by rw [Lib.cell_of_heap ((hX.block _ (lt_of_some Q7)).trans Q7)]; rfl, by rw [Lib.cell_of_heap ((hX.block _ (lt_of_some Q7)).trans Q7)]; rfl, by rw [Lib.cell_of_heap ((hX.block _ (lt_of_some Q7)).trans Q7)]; rfl, cell_on e0 hX, cell_on e1 hX, cell_on e2 hX, cell_on e3 hX, cell_on e4 hX, cell_on e5 hX⟩))
    have SM := hid (fun (X : World) (hX : Below w7.heap.size w7 X) => Same_any (hI1.to (A' := fun _ => False) (fun _ _ f => f) (Keep.of_below hX)) (N7.to (A' := fun _ => False) (fun _ _ f => f) (Keep.of_below hX)) hsn.symm (by omega))
    have TM := hid (fun (X : World) (hX : Below w7.heap.size w7 X) => Text_any (M7.to (A' := fun _ => False) (fun _ _ f => f) (Keep.of_below hX)) g1' g2')
    have TN := hid (fun (X : World) (hX : Below w7.heap.size w7 X) => Text_any (N7.to (A' := fun _ => False) (fun _ _ f => f) (Keep.of_below hX)) f1 f2)
    simp only [nodeV, hm1, hm2] at SM TM TN
    have s1 : (text n.all).size = n.all.length := text_size _
    have s2 : (text m.all).size = m.all.length := text_size _
    generalize text n.all = tn at *
    generalize text m.all = tm at *
    have hwr : IntKind.i64.wrap (1 + (tn.size : Int)) = 1 + (tn.size : Int) := IntWalk.i64_in _ (by omega)
    have hge : 1 + (tn.size : Int) ≤ (tm.size : Int) := by omega
    have HS0 := HS.out w7.drew (below_drewN (b0 w7) 1)
    clear klen i0 e0 e1 e2 e3 e4 e5 hI1 hK P7 Q7 N7 M7 hb7 s1 s2 x1 x2 f1 f2 f3 g1' g2' g3' hsz hall hsn
    go_wp2_with fail
    go_region_held3 (fun X => (Below w7.heap.size w7 X ∧ X.cell? ⟨w2.heap.size, 0, none⟩ = some (.int .i64 n.place) ∧ X.cell? ⟨w2.heap.size, 1, none⟩ = some (.string (text n.nm.1)) ∧ X.cell? ⟨w2.heap.size, 2, none⟩ = some (.string (text n.nm.2)) ∧ X.cell? ⟨w2.heap.size, 3, none⟩ = some (.slice ao an ac) ∧ X.cell? ⟨w2.heap.size, 4, none⟩ = some (.slice ko kn kc) ∧ X.cell? ⟨w2.heap.size, 5, none⟩ = some (.string (text n.text)) ∧ X.cell? ⟨w5.heap.size, 0, none⟩ = some (.int .i64 m.place) ∧ X.cell? ⟨w5.heap.size, 1, none⟩ = some (.string ⟨#[]⟩) ∧ X.cell? ⟨w5.heap.size, 2, none⟩ = some (.string ⟨#[114]⟩) ∧ X.cell? ⟨w5.heap.size, 3, none⟩ = some (.slice bo bn bc) ∧ X.cell? ⟨w5.heap.size, 4, none⟩ = some (.slice lo ln lc) ∧ X.cell? ⟨w5.heap.size, 5, none⟩ = some (.string (text m.text)) ∧ X.cell? ⟨bk, ok, none⟩ = some (.int .i64 n'.place) ∧ X.cell? ⟨bk, ok + 1, none⟩ = some (.string (text n'.nm.1)) ∧ X.cell? ⟨bk, ok + 2, none⟩ = some (.string (text n'.nm.2)) ∧ X.cell? ⟨bk, ok + 3, none⟩ = some (.slice co cn cc) ∧ X.cell? ⟨bk, ok + 4, none⟩ = some (.slice do_ dn dc) ∧ X.cell? ⟨bk, ok + 5, none⟩ = some (.string (text n'.text)))) (first | exact HSx | exact HS0) (first
      | (go_at_call 7
         refine (SM.out _ ?_).mono ?_
         (first | exact HSx.1 | exact HS0.1)
         rintro ev wx ⟨rfl, hb⟩
         first | have HSx := HS.out _ (bt HSx.1 hb) | have HSx := HS.out _ (bt HS0.1 hb))
      | (go_at_call 8
         with_reducible refine (TM.out _ ?_).mono ?_
         (first | exact HSx.1 | exact HS0.1)
         rintro ev wx ⟨rfl, hb⟩
         first | have HSx := HS.out _ (bt HSx.1 hb) | have HSx := HS.out _ (bt HS0.1 hb))
      | (go_at_call 8
         refine (TN.out _ ?_).mono ?_
         (first | exact HSx.1 | exact HS0.1)
         rintro ev wx ⟨rfl, hb⟩
         first | have HSx := HS.out _ (bt HSx.1 hb) | have HSx := HS.out _ (bt HS0.1 hb)))
    all_goals
      go_wp2
      go_ret
      exact ⟨rfl, bt HB7.out HSx.1⟩
  · rw [r2] at RD2
    go_wp2_with fail
    refine RD2.out.mono ?_
    rintro e w5 ⟨⟨bo, bn, bc, lo, ln, lc, rfl, _⟩, hb5⟩
    simp only [nodeV]
    have HB6 := hid (ba (bt HB4.out hb5) (.cells #[.int .i64 noNode.place, .string (text noNode.nm.1), .string (text noNode.nm.2), .slice bo bn bc, .slice lo ln lc, .string (text noNode.text)] 29))
    clear hb5
    go_wp2
    go_ret
    exact ⟨rfl, HB6.out⟩
set_option maxHeartbeats 16000000 in
theorem Nest_open (v : Value) (l : List UInt8) (W : World) (hb : Bytes W v l) (hw : FitM W) (h2 : 2 ≤ l.length) (h : l.length ≤ 1500) (q0 : l[0] = 60) (q1 : l[1] ≠ 63) (n : Node) (p : Int) (hr : read l = (n, p, 0)) (hd : ∀ r, l ≠ 60 :: 63 :: r) :
    Calls Tryz.prog 3 #[v] W fun e w' => e = .returned (.bool true) ∧ Below W.heap.size W w' := by
  have AL := hid alive_any
  have HW := hid hw
  have hlen := fun X => hb.len (P := Tryz.prog) 22 3 5 underB X
  have HB := hid hb
  clear hb hw
  have hle : ¬ (1500 : Int) < (l.length : Int) := by omega
  have hz1 : (1 : Int) < (l.length : Int) := by omega
  have e1 : ((l[1].toNat : Int) == 63) = false := by
    rw [beq_eq_false_iff_ne]
    intro e
    exact q1 (UInt8.toNat_inj.1 (by have : (63 : UInt8).toNat = 63 := rfl; omega))
  obtain ⟨g1, eg1⟩ : ∃ q, [60, 114, 62, 120] ++ l = q := ⟨_, rfl⟩
  have qg1 : (⟨#[60, 114, 62, 120]⟩ : ByteArray) ++ text l = text g1 := by rw [← eg1]; exact lit_add5 _ _ _ rfl
  have zg1 : (⟨#[60, 114, 62, 120]⟩ : ByteArray).size + (text l).size ≤ 9223372036854775807 := by rw [text_size]; simp [ByteArray.size]; omega
  have lg1 : g1.length ≤ 1600 := by rw [← eg1]; simp; omega
  obtain ⟨g2, eg2⟩ : ∃ q, g1 ++ [60, 47, 114, 62] = q := ⟨_, rfl⟩
  have qg2 : text g1 ++ (⟨#[60, 47, 114, 62]⟩ : ByteArray) = text g2 := by rw [← eg2]; exact add_lit5 _ _ _ rfl
  have zg2 : (text g1).size + (⟨#[60, 47, 114, 62]⟩ : ByteArray).size ≤ 9223372036854775807 := by rw [text_size]; simp [ByteArray.size]; omega
  have yg2 : ¬ 9223372036854775807 < (text g1).size + 4 := by rw [text_size]; omega
  have lg2 : g2.length ≤ 1700 := by rw [← eg2]; simp; omega
  have D := hid (show g2 = wholeOf l by rw [← eg2, ← eg1]; rfl)
  have hgl : (wholeOf l).length ≤ 1700 := by rw [← D.out]; exact lg2
  have hrw := read_nest hr (by omega) hd
  clear eg1 eg2 hd
  go_enter Tryz.func3, Tryz.ntmps3
  go_wp2_with fail
  refine (AL.out _ HW.out).mono ?_
  rintro e w1 ⟨rfl, hb1⟩
  have HB1 := hid hb1
  have RD := hid (Read_any (HB.out.below hb1 (Nat.le_refl _)) (HW.out.below hb1) (by omega))
  rw [hr] at RD
  clear hb1
  go_wp2_with fail
  refine RD.out.mono ?_
  rintro e w2 ⟨⟨ao, an, ac, ko, kn, kc, rfl, hN⟩, hb2⟩
  simp only [nodeV]
  have HB2 := hid (bt HB1.out hb2)
  have HB3 := hid (ba HB2.out (.cells #[.int .i64 n.place, .string (text n.nm.1), .string (text n.nm.2), .slice ao an ac, .slice ko kn kc, .string (text n.text)] 29))
  obtain ⟨p0, o0, ip0, c0⟩ := (HB.out.below HB3.out (Nat.le_refl _)).at (P := Tryz.prog) 0 (by omega) 22 5 underB size8
  have jp0 : ∀ Z, (Instr.indexAt 22 v (.int .i64 0)).run Tryz.prog Z = .ok (.pointer (some ⟨p0, o0, none⟩)) Z := fun Z => by simpa using ip0 .i64 Z
  obtain ⟨p1, o1, ip1, c1⟩ := (HB.out.below HB3.out (Nat.le_refl _)).at (P := Tryz.prog) 1 (by omega) 22 5 underB size8
  have jp1 : ∀ Z, (Instr.indexAt 22 v (.int .i64 1)).run Tryz.prog Z = .ok (.pointer (some ⟨p1, o1, none⟩)) Z := fun Z => by simpa using ip1 .i64 Z
  rw [q0] at c0
  have c0' : (w2.alloc (.cells #[.int .i64 n.place, .string (text n.nm.1), .string (text n.nm.2), .slice ao an ac, .slice ko kn kc, .string (text n.text)] 29)).cell? ⟨p0, o0, none⟩ = some (.int .u8 60) := c0
  clear ip0 ip1 c0
  have HN3 := hid ((hN.to (A' := fun _ => False) (fun _ _ f => f.elim) (Keep.of_below (b0 w2))).to (A' := fun _ => False) (fun _ _ f => f) (Keep.of_below (ba (b0 w2) (.cells #[.int .i64 n.place, .string (text n.nm.1), .string (text n.nm.2), .slice ao an ac, .slice ko kn kc, .string (text n.text)] 29))))
  have P3 := hid (heap_alloc_new w2 (.cells #[.int .i64 n.place, .string (text n.nm.1), .string (text n.nm.2), .slice ao an ac, .slice ko kn kc, .string (text n.text)] 29))
  have HCV := hid ((HB.out.below HB3.out (Nat.le_refl _)).conv (P := Tryz.prog) 22 9 5 underB under8 under9)
  obtain ⟨vd, w4, hcv, hvb, hb4, _⟩ := conv_at (P := Tryz.prog) g2 (by omega) 9 22 5 under9 underB under8 (w2.alloc (.cells #[.int .i64 n.place, .string (text n.nm.1), .string (text n.nm.2), .slice ao an ac, .slice ko kn kc, .string (text n.text)] 29))
  have HB4 := hid (bt HB3.out hb4)
  have RD2 := hid (Read_any (hvb w4 rfl) (HW.out.below HB4.out) (by omega))
  have P4 := hid ((hb4.block _ (by simp)).trans P3.out)
  have HN4 := hid (HN3.out.to (A' := fun _ => False) (fun _ _ f => f) (Keep.of_below hb4))
  have hcv0 := HCV.out
  rw [D.out] at RD2
  clear hN hb2 hvb hb4
  rcases hrw with ⟨m, q, r2, hwh⟩ | ⟨q, r2⟩
  · have hm1 : text m.nm.1 = ⟨#[]⟩ := by rw [hwh.1]; rfl
    have hm2 : text m.nm.2 = ⟨#[114]⟩ := by rw [hwh.1]; rfl
    rw [r2] at RD2
    go_wp2_with fail
    refine RD2.out.mono ?_
    rintro e w5 ⟨⟨bo, bn, bc, lo, ln, lc, rfl, hM⟩, hb5⟩
    simp only [nodeV, hm1, hm2]
    have HB5 := hid (bt HB4.out hb5)
    have B6 := ba (b0 w5) (.cells #[.int .i64 m.place, .string ⟨#[]⟩, .string ⟨#[114]⟩, .slice bo bn bc, .slice lo ln lc, .string (text m.text)] 29)
    have HB6 := hid (bt HB5.out B6)
    have Q6 := hid (heap_alloc_new w5 (.cells #[.int .i64 m.place, .string ⟨#[]⟩, .string ⟨#[114]⟩, .slice bo bn bc, .slice lo ln lc, .string (text m.text)] 29))
    have P6 := hid ((B6.block _ (Nat.lt_of_lt_of_le (lt_of_some P4.out) hb5.size)).trans ((hb5.block _ (lt_of_some P4.out)).trans P4.out))
    have HN6 := hid ((HN4.out.to (A' := fun _ => False) (fun _ _ f => f) (Keep.of_below hb5)).to (A' := fun _ => False) (fun _ _ f => f) (Keep.of_below B6))
    have HM6 := hid ((show IsN w5 _ m (.slice bo bn bc) (.slice lo ln lc) from hM).to (A' := fun _ => False) (fun _ _ f => f.elim) (Keep.of_below B6))
    obtain ⟨f1, f2, f3, f4⟩ := read_fit hr (by omega)
    obtain ⟨g1', g2', g3', _⟩ := read_fit r2 (by omega)
    obtain ⟨n', hfn, hsn, hall⟩ := whole_finds hwh f4
    have hsz := hwh.small hsn hfn
    have FI := hid (Find_any HM6.out g3' n.nm.1 n.nm.2 f4)
    simp only [nodeV, hm1, hm2] at FI
    rw [show ((n.nm.1, n.nm.2) : Nm) = n.nm from rfl, hfn] at FI
    have x1 : (w5.alloc (.cells #[.int .i64 m.place, .string ⟨#[]⟩, .string ⟨#[114]⟩, .slice bo bn bc, .slice lo ln lc, .string (text m.text)] 29)).cell? ⟨w2.heap.size, 1, none⟩ = some (.string (text n.nm.1)) := by rw [Lib.cell_of_heap P6.out]; rfl
    have x2 : (w5.alloc (.cells #[.int .i64 m.place, .string ⟨#[]⟩, .string ⟨#[114]⟩, .slice bo bn bc, .slice lo ln lc, .string (text m.text)] 29)).cell? ⟨w2.heap.size, 2, none⟩ = some (.string (text n.nm.2)) := by rw [Lib.cell_of_heap P6.out]; rfl
    clear B6 hb5 hM hwh hfn r2 f4
    go_wp2_with fail
    refine FI.out.mono ?_
    rintro e w7 ⟨⟨vl, rfl, hK⟩, hb7⟩
    have HB7 := hid (bt HB6.out hb7)
    have klen := fun X => hK.len (P := Tryz.prog) 27 3 29 undN X
    obtain ⟨bk, ok, av1, kv1, i0, e0, e1, e2, e3, e4, e5, hI1, _⟩ := hK.at (P := Tryz.prog) 0 (by simp) 27 29 undN sizN
    simp only [List.getElem_cons_zero] at e0 e1 e2 e3 e4 e5 hI1
    obtain ⟨⟨co, cn, cc, hx1⟩, do_, dn, dc, hy1⟩ := hI1.forms
    subst hx1 hy1
    have j0 : ∀ Z, (Instr.indexAt 27 vl (.int .i64 0)).run Tryz.prog Z = .ok (.pointer (some ⟨bk, ok, none⟩)) Z := fun Z => by simpa using i0 .i64 Z
    have klen' : ∀ Z, (Builtin.len_ #[27] 3 #[vl]).run Tryz.prog Z = .ok (.int .i64 1) Z := klen
    have P7 := (hb7.block _ (lt_of_some P6.out)).trans P6.out
    have Q7 := (hb7.block _ (lt_of_some Q6.out)).trans Q6.out
    have N7 := HN6.out.to (A' := fun _ => False) (fun _ _ f => f) (Keep.of_below hb7)
    have M7 := HM6.out.to (A' := fun _ => False) (fun _ _ f => f) (Keep.of_below hb7)
    have HS := hid (fun (X : World) (hX : Below w7.heap.size w7 X) => (show (Below w7.heap.size w7 X ∧ X.cell? ⟨w2.heap.size, 0, none⟩ = some (.int .i64 n.place) ∧ X.cell? ⟨w2.heap.size, 1, none⟩ = some (.string (text n.nm.1)) ∧ X.cell? ⟨w2.heap.size, 2, none⟩ = some (.string (text n.nm.2)) ∧ X.cell? ⟨w2.heap.size, 3, none⟩ = some (.slice ao an ac) ∧ X.cell? ⟨w2.heap.size, 4, none⟩ = some (.slice ko kn kc) ∧ X.cell? ⟨w2.heap.size, 5, none⟩ = some (.string (text n.text)) ∧ X.cell? ⟨w5.heap.size, 0, none⟩ = some (.int .i64 m.place) ∧ X.cell? ⟨w5.heap.size, 1, none⟩ = some (.string ⟨#[]⟩) ∧ X.cell? ⟨w5.heap.size, 2, none⟩ = some (.string ⟨#[114]⟩) ∧ X.cell? ⟨w5.heap.size, 3, none⟩ = some (.slice bo bn bc) ∧ X.cell? ⟨w5.heap.size, 4, none⟩ = some (.slice lo ln lc) ∧ X.cell? ⟨w5.heap.size, 5, none⟩ = some (.string (text m.text)) ∧ X.cell? ⟨bk, ok, none⟩ = some (.int .i64 n'.place) ∧ X.cell? ⟨bk, ok + 1, none⟩ = some (.string (text n'.nm.1)) ∧ X.cell? ⟨bk, ok + 2, none⟩ = some (.string (text n'.nm.2)) ∧ X.cell? ⟨bk, ok + 3, none⟩ = some (.slice co cn cc) ∧ X.cell? ⟨bk, ok + 4, none⟩ = some (.slice do_ dn dc) ∧ X.cell? ⟨bk, ok + 5, none⟩ = some (.string (text n'.text))) from ⟨hX, by rw [Lib.cell_of_heap ((hX.block _ (lt_of_some P7)).trans P7)]; rfl, by rw [Lib.cell_of_heap ((hX.block _ (lt_of_some P7)).trans P7)]; rfl, by rw [Lib.cell_of_heap ((hX.block _ (lt_of_some P7)).trans P7)]; rfl, by rw [Lib.cell_of_heap ((hX.block _ (lt_of_some P7)).trans P7)]; rfl, by rw [Lib.cell_of_heap ((hX.block _ (lt_of_some P7)).trans P7)]; rfl, by rw [Lib.cell_of_heap ((hX.block _ (lt_of_some P7)).trans P7)]; rfl, by rw [Lib.cell_of_heap ((hX.block _ (lt_of_some Q7)).trans Q7)]; rfl, by rw [Lib.cell_of_heap ((hX.block _ (lt_of_some Q7)).trans Q7)]; rfl, by rw [Lib.cell_of_heap ((hX.block _ (lt_of_some Q7)).trans Q7)]; rfl, by rw [Lib.cell_of_heap ((hX.block _ (lt_of_some Q7)).trans Q7)]; rfl, by rw [Lib.cell_of_heap ((hX.block _ (lt_of_some Q7)).trans Q7)]; rfl, by rw [Lib.cell_of_heap ((hX.block _ (lt_of_some Q7)).trans Q7)]; rfl, cell_on e0 hX, cell_on e1 hX, cell_on e2 hX, cell_on e3 hX, cell_on e4 hX, cell_on e5 hX⟩))
    have SM := hid (fun (X : World) (hX : Below w7.heap.size w7 X) => Same_any (hI1.to (A' := fun _ => False) (fun _ _ f => f) (Keep.of_below hX)) (N7.to (A' := fun _ => False) (fun _ _ f => f) (Keep.of_below hX)) hsn.symm (by omega))
    have TM := hid (fun (X : World) (hX : Below w7.heap.size w7 X) => Text_any (M7.to (A' := fun _ => False) (fun _ _ f => f) (Keep.of_below hX)) g1' g2')
    have TN := hid (fun (X : World) (hX : Below w7.heap.size w7 X) => Text_any (N7.to (A' := fun _ => False) (fun _ _ f => f) (Keep.of_below hX)) f1 f2)
    simp only [nodeV, hm1, hm2] at SM TM TN
    have s1 : (text n.all).size = n.all.length := text_size _
    have s2 : (text m.all).size = m.all.length := text_size _
    generalize text n.all = tn at *
    generalize text m.all = tm at *
    have hwr : IntKind.i64.wrap (1 + (tn.size : Int)) = 1 + (tn.size : Int) := IntWalk.i64_in _ (by omega)
    have hge : 1 + (tn.size : Int) ≤ (tm.size : Int) := by omega
    have HS0 := HS.out w7.drew (below_drewN (b0 w7) 1)
    clear klen i0 e0 e1 e2 e3 e4 e5 hI1 hK P7 Q7 N7 M7 hb7 s1 s2 x1 x2 f1 f2 f3 g1' g2' g3' hsz hall hsn
    go_wp2_with fail
    go_region_held3 (fun X => (Below w7.heap.size w7 X ∧ X.cell? ⟨w2.heap.size, 0, none⟩ = some (.int .i64 n.place) ∧ X.cell? ⟨w2.heap.size, 1, none⟩ = some (.string (text n.nm.1)) ∧ X.cell? ⟨w2.heap.size, 2, none⟩ = some (.string (text n.nm.2)) ∧ X.cell? ⟨w2.heap.size, 3, none⟩ = some (.slice ao an ac) ∧ X.cell? ⟨w2.heap.size, 4, none⟩ = some (.slice ko kn kc) ∧ X.cell? ⟨w2.heap.size, 5, none⟩ = some (.string (text n.text)) ∧ X.cell? ⟨w5.heap.size, 0, none⟩ = some (.int .i64 m.place) ∧ X.cell? ⟨w5.heap.size, 1, none⟩ = some (.string ⟨#[]⟩) ∧ X.cell? ⟨w5.heap.size, 2, none⟩ = some (.string ⟨#[114]⟩) ∧ X.cell? ⟨w5.heap.size, 3, none⟩ = some (.slice bo bn bc) ∧ X.cell? ⟨w5.heap.size, 4, none⟩ = some (.slice lo ln lc) ∧ X.cell? ⟨w5.heap.size, 5, none⟩ = some (.string (text m.text)) ∧ X.cell? ⟨bk, ok, none⟩ = some (.int .i64 n'.place) ∧ X.cell? ⟨bk, ok + 1, none⟩ = some (.string (text n'.nm.1)) ∧ X.cell? ⟨bk, ok + 2, none⟩ = some (.string (text n'.nm.2)) ∧ X.cell? ⟨bk, ok + 3, none⟩ = some (.slice co cn cc) ∧ X.cell? ⟨bk, ok + 4, none⟩ = some (.slice do_ dn dc) ∧ X.cell? ⟨bk, ok + 5, none⟩ = some (.string (text n'.text)))) (first | exact HSx | exact HS0) (first
      | (go_at_call 7
         refine (SM.out _ ?_).mono ?_
         (first | exact HSx.1 | exact HS0.1)
         rintro ev wx ⟨rfl, hb⟩
         first | have HSx := HS.out _ (bt HSx.1 hb) | have HSx := HS.out _ (bt HS0.1 hb))
      | (go_at_call 8
         with_reducible refine (TM.out _ ?_).mono ?_
         (first | exact HSx.1 | exact HS0.1)
         rintro ev wx ⟨rfl, hb⟩
         first | have HSx := HS.out _ (bt HSx.1 hb) | have HSx := HS.out _ (bt HS0.1 hb))
      | (go_at_call 8
         refine (TN.out _ ?_).mono ?_
         (first | exact HSx.1 | exact HS0.1)
         rintro ev wx ⟨rfl, hb⟩
         first | have HSx := HS.out _ (bt HSx.1 hb) | have HSx := HS.out _ (bt HS0.1 hb)))
    all_goals
      go_wp2
      go_ret
      exact ⟨rfl, bt HB7.out HSx.1⟩
  · rw [r2] at RD2
    go_wp2_with fail
    refine RD2.out.mono ?_
    rintro e w5 ⟨⟨bo, bn, bc, lo, ln, lc, rfl, _⟩, hb5⟩
    simp only [nodeV]
    have HB6 := hid (ba (bt HB4.out hb5) (.cells #[.int .i64 noNode.place, .string (text noNode.nm.1), .string (text noNode.nm.2), .slice bo bn bc, .slice lo ln lc, .string (text noNode.text)] 29))
    clear hb5
    go_wp2
    go_ret
    exact ⟨rfl, HB6.out⟩
theorem XmltreeNest_walk (v : Value) (l : List UInt8) (W : World) (hb : Bytes W v l) (hw : FitM W) :
    Calls Tryz.prog 3 #[v] W fun e w' => e = .returned (.bool true) ∧ Below W.heap.size W w' := by
  by_cases h : 1500 < l.length
  · exact Nest_great v l W hb hw h
  have h' : l.length ≤ 1500 := by omega
  obtain ⟨n, p, er, hr⟩ : ∃ n p er, read l = (n, p, er) := ⟨_, _, _, rfl⟩
  by_cases her : er = 0
  · subst her
    by_cases hd : ∃ r, l = 60 :: 63 :: r
    · obtain ⟨r, hl⟩ := hd
      exact Nest_decl v l W hb hw r hl h' n p hr
    · have hd' : ∀ r, l ≠ 60 :: 63 :: r := fun r e => hd ⟨r, e⟩
      by_cases h2 : 2 ≤ l.length
      · by_cases q0 : l[0] = 60
        · by_cases q1 : l[1] = 63
          · exfalso
            exact two_first h2 q0 q1 hd'
          · exact Nest_open v l W hb hw h2 h' q0 q1 n p hr hd'
        · exact Nest_other v l W hb hw h2 h' q0 n p hr hd'
      · exact Nest_one v l W hb hw (by omega) n p hr hd'
  · exact Nest_wrong v l W hb hw h' n p er hr her
end Go.Proofs.YtdpknpgknbkiiaaGreatDoor.Tree
