/- A range over an iterator whose rounds write a map that lies below: the caller's law. Over any program. -/
import Derived.Test.YtkmdclfkmmlloaaGreatDoorRange
set_option linter.unusedVariables false
set_option linter.unusedSimpArgs false
namespace Go.Proofs.YtkmdclfkmmlloaaGreatDoor
open Go Go.RowKit

/-- What is no cells stays, from the block n on. -/
def KeepsFrom (n : Nat) (W W' : World) : Prop := ∀ (k : Nat) (o : Obj), n ≤ k → W.heap[k]? = some o → o.isCells = false → W'.heap[k]? = some o
/-- How a round's body may be left. -/
def LeftIn (n : Nat) (Kp : World → World → Prop) (I : Nat → World → Prop) (Ix : Code → Nat → World → Prop) (k : Nat) (W : World) : Exit → Act → World → Prop
  | .normal, _, W' => KeepsFrom n W W' ∧ Kp W W' ∧ I (k + 1) W'
  | .ret, _, W' => KeepsFrom n W W' ∧ Ix .ret (k + 1) W'
  | .exit id, _, W' => KeepsFrom n W W' ∧ Ix (.exit id) (k + 1) W'
  | _, _, _ => False

section
variable {F : Fence} {n : Nat} {P : Program}

theorem range_tellsF {α : Type} {g : Operand} {ps : Array Tmp} {assign body : Code} {Q : Exit → Act → World → Prop} {a : Act} {w : World}
    (hro : F.round = none) (h1 : 1 ≤ n) {gf : Nat} {lb : Array Value} (hg : a.eval g = .func (.func gf) #[] lb) (hFg : F.fn gf) (eg : ∀ args w, (callFunc gf args).run P w = .ok (.enter gf args) w)
    {enc : α → Value} {T Kp : World → World → Prop} {xs : List α} {w0 : World} (hT : ∀ A B, T A B → KeepsOthers A B) (hseq : Tells F (n - 1) P gf lb enc T Kp xs w0)
    (hKt : ∀ {A B C : World}, Kp A B → Kp B C → Kp A C) (hKb : ∀ (W : World) (l : Nat) (o o' : Obj), w.heap.size ≤ l → W.heap[l]? = some o → o.isCells = false → o.isWalk = false → Kp W (W.putObj l o')) (hb0 : Below w0.heap.size w0 w) (hps : ps.size = 1)
    (I : Nat → World → Prop) (Ix : Code → Nat → World → Prop) (hI : OwnFrom w.heap.size I) (hIx : ∀ c, OwnFrom w.heap.size (Ix c))
    (hIT : ∀ k A B, I k A → T A B → I k B) (hIxT : ∀ c k A B, Ix c k A → T A B → Ix c k B) (h0 : I 0 w) (a₁ : α → Act)
    (hassign : ∀ (l : Nat) (x : α) (W : World) (K : Act → World → Prop), K (a₁ x) W →
      assign.wpIn (F.inRound l) (n - 1 - 1) P (Exit.then K (fun _ _ _ => False)) { tmps := (ps.zip #[enc x]).foldl (fun t (p, v) => t.setIfInBounds p v) a.tmps, defers := [] } W)
    (hbody : ∀ (l : Nat) (k : Nat) (x : α) (W : World), xs[k]? = some x → I k W → body.wpIn (F.inRound l) (n - 1 - 1) P (LeftIn w.heap.size Kp I Ix k W) (a₁ x) W)
    (hdone : ∀ (D : Nat) (W : World), w.heap.size ≤ D → I xs.length W → W.heap[D]? = some (.deferred (some [])) → Q .normal { a with defers := { target := .collected D, args := #[] } :: a.defers } W)
    (hstop : ∀ (D : Nat) (c : Code) (k : Nat) (W : World), w.heap.size ≤ D → k ≤ xs.length → Ix c k W → W.heap[D]? = some (.deferred (some [])) → c.wpIn F n P Q { a with defers := { target := .collected D, args := #[] } :: a.defers } W) :
    (Code.rangeFunc g ps assign body).wpIn F n P Q a w := by
  refine wpIn_rangeFunc fun fn hfn => ?_
  rw [hro]
  let D := w.heap.size
  let R : Nat := D + 1
  let rec' : LoopState → Option Code → Obj := fun s j => .loop { state := s, pending := j, fn, tmps := a.tmps, params := ps, assign, body, defers := D }
  have hD : D = w.heap.size := rfl
  have hR : R = D + 1 := rfl
  generalize hw1 : (w.alloc (.deferred (some []))).alloc (rec' .ready none) = W1
  have hs1 : W1.heap.size = D + 2 := by rw [← hw1]; simp [hD]
  have hl1 : W1.heap[R]? = some (rec' .ready none) := by
    rw [← hw1, show R = (w.alloc (.deferred (some []))).heap.size from by simp [hR, hD]]
    exact World.alloc_heap_new _ _
  have hd1 : W1.heap[D]? = some (.deferred (some [])) := by
    rw [← hw1]; exact (Below.heap_alloc _ _ _ (by simp [hD])).trans (World.alloc_heap_new w _)
  have hi1 : I 0 W1 := by rw [← hw1]; exact hI.alloc _ (hI.alloc _ h0)
  have hbw : Below w0.heap.size w0 W1 := by
    rw [← hw1]; exact hb0.trans ((((Below.refl _ w).alloc (Nat.le_refl _) _).alloc (by simp) _).mono hb0.size)
  refine ⟨R, [{ target := .collected D, args := #[] }], W1, { target := .fn (.func gf) lb, args := #[.func (.yield R) #[] #[]] }, W1, gf, #[.func (.yield R) #[] #[]] ++ lb, W1, ?_, ?_, ?_, ?_, fun _ => h1, ?_⟩
  · rw [← hw1]; exact run_enterLoop_outer _ _ _ _ _
  · simp only [resolve, hg]; simp [go_sem]
  · intro f' hf'; simp [Target.leads] at hf'; subst hf'; exact hFg
  · simp [invoke, go_sem, eg]
  -- the record and the block of the rounds' deferred calls, through a turn of the record
  have turn : ∀ (W : World) (o : Obj), W.heap[R]? = some o → W.heap[D]? = some (.deferred (some [])) → ∀ s j,
      (W.putObj R (rec' s j)).heap[R]? = some (rec' s j) ∧ (W.putObj R (rec' s j)).heap[D]? = some (.deferred (some [])) := fun W o ho hd s j =>
    ⟨World.putObj_heap_same (Array.getElem?_eq_some_iff.1 ho).1, (World.putObj_heap_other (by omega)).trans hd⟩
  refine (hseq R (fun k W => I k W ∧ W.heap[R]? = some (rec' .ready none) ∧ W.heap[D]? = some (.deferred (some [])))
      (fun k W => ∃ c, Ix c k W ∧ W.heap[R]? = some (rec' .done (some c)) ∧ W.heap[D]? = some (.deferred (some []))) W1 hbw ?_ ?_ ?_ ⟨hi1, hl1, hd1⟩).mono ?_
  · rintro k A B ⟨hi, hl, hd⟩ ht
    exact ⟨hIT k A B hi ht, (hT A B ht).same _ _ hl rfl, (hT A B ht).same _ _ hd rfl⟩
  · rintro k A B ⟨c, hi, hl, hd⟩ ht
    exact ⟨c, hIxT c k A B hi ht, (hT A B ht).same _ _ hl rfl, (hT A B ht).same _ _ hd rfl⟩
  · rintro k x W hx ⟨hi, hl, hd⟩
    refine ⟨fn, _, assign, body, run_yield (P := P) (args := #[enc x]) hl (by simp [hps]), roundIn_of_wpIn hfn (hassign _ x W _ ⟨_, run_beginRound hl rfl, ?_⟩)⟩
    obtain ⟨hl2, hd2⟩ := turn W _ hl hd .busy none
    have hk2 : Kp W (W.putObj R (rec' .busy none)) := hKb _ _ _ _ (by omega) hl rfl rfl
    refine wpIn_mono (hbody R k x _ hx (hI.putObj _ hi (by omega) hl rfl)) ?_
    intro e a3 W3 hp
    cases e with
    | normal =>
      obtain ⟨hk3, hkp, hi3⟩ := hp
      have hl3 := hk3 _ _ (by omega) hl2 rfl
      have hd3 := hk3 _ _ (by omega) hd2 rfl
      obtain ⟨hl4, hd4⟩ := turn W3 _ hl3 hd3 .ready none
      exact ⟨_, _, run_endRound (P := P) none hl3, .inl ⟨rfl, ⟨hI.putObj _ hi3 (by omega) hl3 rfl, hl4, hd4⟩, hKt (hKt hk2 hkp) (hKb _ _ _ _ (by omega) hl3 rfl rfl)⟩⟩
    | ret =>
      obtain ⟨hk3, hi3⟩ := hp
      have hl3 := hk3 _ _ (by omega) hl2 rfl
      have hd3 := hk3 _ _ (by omega) hd2 rfl
      obtain ⟨hl4, hd4⟩ := turn W3 _ hl3 hd3 .done (some .ret)
      exact ⟨_, _, run_endRound (P := P) (some .ret) hl3, .inr ⟨rfl, .ret, (hIx _).putObj _ hi3 (by omega) hl3 rfl, hl4, hd4⟩⟩
    | exit id =>
      obtain ⟨hk3, hi3⟩ := hp
      have hl3 := hk3 _ _ (by omega) hl2 rfl
      have hd3 := hk3 _ _ (by omega) hd2 rfl
      obtain ⟨hl4, hd4⟩ := turn W3 _ hl3 hd3 .done (some (.exit id))
      exact ⟨_, _, run_endRound (P := P) (some (.exit id)) hl3, .inr ⟨rfl, .exit id, (hIx _).putObj _ hi3 (by omega) hl3 rfl, hl4, hd4⟩⟩
    | goto t => exact hp.elim
    | panic ch => exact hp.elim
    | outgrown => exact hp.elim
  · rintro e W2 ⟨⟨v, rfl⟩, ⟨hi, hl, hd⟩ | ⟨k, hk, c, hi, hl, hd⟩⟩
    · exact ⟨none, _, run_endLoop (P := P) hl (by simp [rec']), hdone D _ (Nat.le_refl _) (hI.putObj _ hi (by omega) hl rfl) ((World.putObj_heap_other (by omega)).trans hd)⟩
    · exact ⟨some c, _, run_endLoop (P := P) hl (by simp [rec']), hstop D c k _ (Nat.le_refl _) hk ((hIx c).putObj _ hi (by omega) hl rfl) ((World.putObj_heap_other (by omega)).trans hd)⟩
end
end Go.Proofs.YtkmdclfkmmlloaaGreatDoor
