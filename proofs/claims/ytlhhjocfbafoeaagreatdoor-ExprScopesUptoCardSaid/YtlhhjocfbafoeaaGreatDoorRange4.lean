/- A range over an iterator that writes blocks of its own, laid at its beginning (it may range over another iterator itself): the caller's law. Over any program, at the wide fence. -/
import Derived.Test.YtlhhjocfbafoeaaGreatDoorRange
import Derived.Deep.Draws
set_option linter.unusedVariables false
set_option linter.unusedSimpArgs false
namespace Go.Proofs.YtlhhjocfbafoeaaGreatDoor
open Go Go.RowKit

/-- What lies outside the blocks from lo on, ahead of hi, lies still. -/
structure Steps (lo hi : Nat) (A B : World) : Prop where
  os : B.os = A.os
  tape : B.tape = A.tape
  output : B.output = A.output
  size : A.heap.size ≤ B.heap.size
  same : ∀ b, b < A.heap.size → ¬ (lo ≤ b ∧ b < hi) → B.heap[b]? = A.heap[b]?
theorem Steps.refl (lo hi : Nat) (A : World) : Steps lo hi A A := ⟨rfl, rfl, rfl, Nat.le_refl _, fun _ _ _ => rfl⟩
theorem Steps.trans {lo hi : Nat} {A B C : World} (h : Steps lo hi A B) (k : Steps lo hi B C) : Steps lo hi A C :=
  ⟨k.os.trans h.os, k.tape.trans h.tape, k.output.trans h.output, Nat.le_trans h.size k.size, fun b hb hn => (k.same b (Nat.lt_of_lt_of_le hb h.size) hn).trans (h.same b hb hn)⟩
theorem Steps.mono {lo hi lo' hi' : Nat} {A B : World} (h : Steps lo hi A B) (h1 : lo' ≤ lo) (h2 : hi ≤ hi') : Steps lo' hi' A B :=
  ⟨h.os, h.tape, h.output, h.size, fun b hb hn => h.same b hb fun k => hn ⟨Nat.le_trans h1 k.1, Nat.lt_of_lt_of_le k.2 h2⟩⟩
theorem Steps.alloc (lo hi : Nat) (A : World) (o : Obj) : Steps lo hi A (A.alloc o) := ⟨rfl, rfl, rfl, by simp, fun b hb _ => Below.heap_alloc A o b hb⟩
theorem Steps.drewN (lo hi : Nat) (A : World) (q : Nat) : Steps lo hi A (A.drewN q) := ⟨rfl, rfl, rfl, Nat.le_refl _, fun _ _ _ => rfl⟩
theorem Steps.setCell (lo hi : Nat) (A : World) (p : Addr) (v : Value) (h1 : lo ≤ p.block) (h2 : p.block < hi) : Steps lo hi A (A.setCell p v) :=
  have hb := (Below.refl 0 A).setCell (p := p) (Nat.zero_le _) v
  ⟨hb.os, hb.tape, hb.output, hb.size, fun b hb hn => Below.heap_setCell A p v b (fun e => hn (by subst e; exact ⟨h1, h2⟩))⟩
theorem Steps.putObj (lo hi : Nat) (A : World) (b : Nat) (o : Obj) (h1 : lo ≤ b) (h2 : b < hi) : Steps lo hi A (A.putObj b o) :=
  ⟨rfl, rfl, rfl, by simp [World.putObj], fun k hk hn => World.putObj_heap_other (fun e => hn (by subst e; exact ⟨h1, h2⟩))⟩
theorem Steps.below {lo hi n : Nat} {w A B : World} (h : Steps lo hi A B) (hb : Below n w A) (h1 : n ≤ lo) (h2 : n ≤ A.heap.size) : Below n w B :=
  hb.trans ⟨h.os, h.tape, h.output, h.size, fun k hk => h.same k (by omega) (fun c => by omega)⟩

/-- What lies in the blocks D lies there still. -/
def Lies (D : Nat → Prop) (w W : World) : Prop := ∀ b, D b → W.heap[b]? = w.heap[b]?
theorem Lies.trans {D : Nat → Prop} {a b c : World} (h : Lies D a b) (k : Lies D b c) : Lies D a c := fun x hx => (k x hx).trans (h x hx)
theorem Lies.mono {D E : Nat → Prop} {w W : World} (h : Lies D w W) (he : ∀ b, E b → D b) : Lies E w W := fun b hb => h b (he b hb)

/-- The value g with what it has captured tells the elements xs, one by one, in whatever world in which the blocks D lie as in w: it writes c blocks of its own alone, laid at its beginning; of a round it asks that these, and D, lie. -/
def TellsD {α : Type} (P : Program) (D : Nat → Prop) (c g : Nat) (lb : Array Value) (enc : α → Value) (xs : List α) (w : World) : Prop :=
  ∀ (l : Nat) (J Jx : Nat → World → Prop) (W : World), Lies D w W → (∀ b, D b → b < W.heap.size) →
    (∀ k A B, J k A → Steps W.heap.size (W.heap.size + c) A B → J k B) → (∀ k A B, Jx k A → Steps W.heap.size (W.heap.size + c) A B → Jx k B) →
    (∀ k x W1, xs[k]? = some x → W.heap.size + c ≤ W1.heap.size → J k W1 → YieldAt Fence.wide 9 P l #[enc x] W1 fun e W' => ∃ b : Bool, e = .returned (.bool b) ∧ Lies (fun i => D i ∨ (W.heap.size ≤ i ∧ i < W.heap.size + c)) W1 W' ∧ W1.heap.size ≤ W'.heap.size ∧ (if b = true then J (k + 1) W' else Jx (k + 1) W')) →
    J 0 W →
    CallsIn Fence.wide 9 P g (#[.func (.yield l) #[] #[]] ++ lb) W fun e W' => (∃ v, e = .returned v) ∧ W.heap.size + c ≤ W'.heap.size ∧ (J xs.length W' ∨ ∃ k, k ≤ xs.length ∧ Jx k W')

/-- How a round's body may be left. -/
def LeftD (E : Nat → Prop) (I : Nat → World → Prop) (Ix : Code → Nat → World → Prop) (k : Nat) (W : World) : Exit → Act → World → Prop
  | .normal, _, W' => Lies E W W' ∧ W.heap.size ≤ W'.heap.size ∧ I (k + 1) W'
  | .ret, _, W' => Lies E W W' ∧ W.heap.size ≤ W'.heap.size ∧ Ix .ret (k + 1) W'
  | .exit id, _, W' => Lies E W W' ∧ W.heap.size ≤ W'.heap.size ∧ Ix (.exit id) (k + 1) W'
  | _, _, _ => False

theorem yield_any {m m' : Nat} {P : Program} {l : Nat} {args : Array Value} {W : World} {R : Ending → World → Prop} (h : YieldAt Fence.wide m P l args W R) : YieldAt Fence.wide m' P l args W R := by
  obtain ⟨fn, tmps, assign, body, hy, hR⟩ := h
  exact ⟨fn, tmps, assign, body, hy, hR.1, fun c cs _ => hR.2 c cs (room_wide _)⟩

section
variable {n : Nat} {P : Program}
theorem range_tellsD {α : Type} {g : Operand} {ps : Array Tmp} {assign body : Code} {Q : Exit → Act → World → Prop} {a : Act} {w : World}
    {gf : Nat} {lb : Array Value} (hg : a.eval g = .func (.func gf) #[] lb) (eg : ∀ args w, (callFunc gf args).run P w = .ok (.enter gf args) w)
    {enc : α → Value} {D : Nat → Prop} {c : Nat} {xs : List α} {w0 : World} (hseq : TellsD P D c gf lb enc xs w0) (hD : ∀ b, D b → b < w.heap.size) (hs0 : Lies D w0 w) (hps : ps.size = 1)
    (I : Nat → World → Prop) (Ix : Code → Nat → World → Prop) (hI : ∀ k A B, I k A → Steps w.heap.size (w.heap.size + 2 + c) A B → I k B) (hIx : ∀ cd k A B, Ix cd k A → Steps w.heap.size (w.heap.size + 2 + c) A B → Ix cd k B)
    (h0 : I 0 w) (a₁ : α → Act)
    (hassign : ∀ (l : Nat) (x : α) (W : World) (K : Act → World → Prop), K (a₁ x) W →
      assign.wpIn (Fence.wide.inRound l) (n - 1 - 1) P (Exit.then K (fun _ _ _ => False)) { tmps := (ps.zip #[enc x]).foldl (fun t (p, v) => t.setIfInBounds p v) a.tmps, defers := [] } W)
    (hbody : ∀ (l : Nat) (k : Nat) (x : α) (W : World), xs[k]? = some x → w.heap.size + 2 + c ≤ W.heap.size → I k W → body.wpIn (Fence.wide.inRound l) (n - 1 - 1) P (LeftD (fun i => D i ∨ (w.heap.size ≤ i ∧ i < w.heap.size + 2 + c)) I Ix k W) (a₁ x) W)
    (hdone : ∀ (W : World), w.heap.size + 2 + c ≤ W.heap.size → I xs.length W → W.heap[w.heap.size]? = some (.deferred (some [])) → Q .normal { a with defers := { target := .collected w.heap.size, args := #[] } :: a.defers } W)
    (hstop : ∀ (cd : Code) (k : Nat) (W : World), k ≤ xs.length → w.heap.size + 2 + c ≤ W.heap.size → Ix cd k W → W.heap[w.heap.size]? = some (.deferred (some [])) → cd.wpIn Fence.wide n P Q { a with defers := { target := .collected w.heap.size, args := #[] } :: a.defers } W) :
    (Code.rangeFunc g ps assign body).wpIn Fence.wide n P Q a w := by
  refine wpIn_rangeFunc fun fn hfn => ?_
  rw [show Fence.wide.round = none from rfl]
  let D' := w.heap.size
  let R : Nat := D' + 1
  let rec' : LoopState → Option Code → Obj := fun s j => .loop { state := s, pending := j, fn, tmps := a.tmps, params := ps, assign, body, defers := D' }
  have hD' : D' = w.heap.size := rfl
  have hR : R = D' + 1 := rfl
  generalize hw1 : (w.alloc (.deferred (some []))).alloc (rec' .ready none) = W1
  have hs1 : W1.heap.size = D' + 2 := by rw [← hw1]; simp [hD']
  have hl1 : W1.heap[R]? = some (rec' .ready none) := by
    rw [← hw1, show R = (w.alloc (.deferred (some []))).heap.size from by simp [hR, hD']]
    exact World.alloc_heap_new _ _
  have hd1 : W1.heap[D']? = some (.deferred (some [])) := by
    rw [← hw1]; exact (Below.heap_alloc _ _ _ (by simp [hD'])).trans (World.alloc_heap_new w _)
  have hi1 : I 0 W1 := by rw [← hw1]; exact hI _ _ _ h0 ((Steps.alloc _ _ w _).trans (Steps.alloc _ _ _ _))
  have hl0 : Lies D w W1 := fun b hb => by
    rw [← hw1, Below.heap_alloc _ _ _ (by simp; have := hD b hb; omega), Below.heap_alloc _ _ _ (hD b hb)]
  refine ⟨R, [{ target := .collected D', args := #[] }], W1, { target := .fn (.func gf) lb, args := #[.func (.yield R) #[] #[]] }, W1, gf, #[.func (.yield R) #[] #[]] ++ lb, W1, ?_, ?_, ?_, ?_, (fun h => by cases h), ?_⟩
  · rw [← hw1]; exact run_enterLoop_outer _ _ _ _ _
  · simp only [resolve, hg]; simp [go_sem]
  · intro f' hf'; trivial
  · simp [invoke, go_sem, eg]
  have turn : ∀ (W : World) (o : Obj), W.heap[R]? = some o → W.heap[D']? = some (.deferred (some [])) → ∀ s j,
      (W.putObj R (rec' s j)).heap[R]? = some (rec' s j) ∧ (W.putObj R (rec' s j)).heap[D']? = some (.deferred (some [])) := fun W o ho hd s j =>
    ⟨World.putObj_heap_same (Array.getElem?_eq_some_iff.1 ho).1, (World.putObj_heap_other (by omega)).trans hd⟩
  have st : ∀ (W : World) (o : Obj), Steps w.heap.size (w.heap.size + 2 + c) W (W.putObj R o) := fun W o => Steps.putObj _ _ W R o (by omega) (by omega)
  refine CallsIn.mono (callsIn_wide.2 (callsIn_wide.1 (hseq R (fun k W => I k W ∧ W.heap[R]? = some (rec' .ready none) ∧ W.heap[D']? = some (.deferred (some [])))
      (fun k W => ∃ cd, Ix cd k W ∧ W.heap[R]? = some (rec' .done (some cd)) ∧ W.heap[D']? = some (.deferred (some []))) W1 (hs0.trans hl0) (fun b hb => by have := hD b hb; omega) ?_ ?_ ?_ ⟨hi1, hl1, hd1⟩))) ?_
  · rintro k A B ⟨hi, hl, hd⟩ ht
    have h1 := (Array.getElem?_eq_some_iff.1 hl).1
    have h2 := (Array.getElem?_eq_some_iff.1 hd).1
    exact ⟨hI k A B hi (ht.mono (by omega) (by omega)), (ht.same _ h1 (by omega)).trans hl, (ht.same _ h2 (by omega)).trans hd⟩
  · rintro k A B ⟨cd, hi, hl, hd⟩ ht
    have h1 := (Array.getElem?_eq_some_iff.1 hl).1
    have h2 := (Array.getElem?_eq_some_iff.1 hd).1
    exact ⟨cd, hIx cd k A B hi (ht.mono (by omega) (by omega)), (ht.same _ h1 (by omega)).trans hl, (ht.same _ h2 (by omega)).trans hd⟩
  · rintro k x W hx hsz ⟨hi, hl, hd⟩
    refine yield_any (m := n - 1 - 1) ⟨fn, _, assign, body, run_yield (P := P) (args := #[enc x]) hl (by simp [hps]), roundIn_of_wpIn hfn (hassign _ x W _ ⟨_, run_beginRound hl rfl, ?_⟩)⟩
    obtain ⟨hl2, hd2⟩ := turn W _ hl hd .busy none
    have pass : ∀ (W3 : World) (s : LoopState) (j : Option Code), Lies (fun i => D i ∨ (w.heap.size ≤ i ∧ i < w.heap.size + 2 + c)) (W.putObj R (rec' .busy none)) W3 →
        Lies (fun i => D i ∨ (W1.heap.size ≤ i ∧ i < W1.heap.size + c)) W (W3.putObj R (rec' s j)) := fun W3 s j hk b hb => by
      have hne : b ≠ R := by rcases hb with hb | hb; have := hD b hb; omega; omega
      rw [World.putObj_heap_other hne, hk b (hb.imp id fun h => by omega), World.putObj_heap_other hne]
    have zp : ∀ (X : World) (o : Obj), (X.putObj R o).heap.size = X.heap.size := fun X o => by simp [World.putObj]
    refine wpIn_mono (hbody R k x _ hx (by rw [zp]; omega) (hI _ _ _ hi (st W _))) ?_
    intro e a3 W3 hp
    cases e with
    | normal =>
      obtain ⟨hk3, hz3, hi3⟩ := hp
      rw [zp] at hz3
      have hl3 := (hk3 R (.inr (by omega))).trans hl2
      have hd3 := (hk3 D' (.inr (by omega))).trans hd2
      obtain ⟨hl4, hd4⟩ := turn W3 _ hl3 hd3 .ready none
      exact ⟨_, _, run_endRound (P := P) none hl3, true, rfl, pass W3 .ready none hk3, (by rw [zp]; exact hz3), (by rw [if_pos rfl]; exact ⟨hI _ _ _ hi3 (st W3 _), hl4, hd4⟩)⟩
    | ret =>
      obtain ⟨hk3, hz3, hi3⟩ := hp
      rw [zp] at hz3
      have hl3 := (hk3 R (.inr (by omega))).trans hl2
      have hd3 := (hk3 D' (.inr (by omega))).trans hd2
      obtain ⟨hl4, hd4⟩ := turn W3 _ hl3 hd3 .done (some .ret)
      exact ⟨_, _, run_endRound (P := P) (some .ret) hl3, false, rfl, pass W3 .done (some .ret) hk3, (by rw [zp]; exact hz3), (by rw [if_neg (by simp)]; exact ⟨.ret, hIx _ _ _ _ hi3 (st W3 _), hl4, hd4⟩)⟩
    | exit id =>
      obtain ⟨hk3, hz3, hi3⟩ := hp
      rw [zp] at hz3
      have hl3 := (hk3 R (.inr (by omega))).trans hl2
      have hd3 := (hk3 D' (.inr (by omega))).trans hd2
      obtain ⟨hl4, hd4⟩ := turn W3 _ hl3 hd3 .done (some (.exit id))
      exact ⟨_, _, run_endRound (P := P) (some (.exit id)) hl3, false, rfl, pass W3 .done (some (.exit id)) hk3, (by rw [zp]; exact hz3), (by rw [if_neg (by simp)]; exact ⟨.exit id, hIx _ _ _ _ hi3 (st W3 _), hl4, hd4⟩)⟩
    | goto t => exact hp.elim
    | panic ch => exact hp.elim
    | outgrown => exact hp.elim
  · rintro e W2 ⟨⟨v, rfl⟩, hsz, ⟨hi, hl, hd⟩ | ⟨k, hk, cd, hi, hl, hd⟩⟩
    · exact ⟨none, _, run_endLoop (P := P) hl (by simp [rec']), hdone _ (by simp [World.putObj]; omega) (hI _ _ _ hi (st W2 _)) ((World.putObj_heap_other (by omega)).trans hd)⟩
    · exact ⟨some cd, _, run_endLoop (P := P) hl (by simp [rec']), hstop cd k _ hk (by simp [World.putObj]; omega) (hIx _ _ _ _ hi (st W2 _)) ((World.putObj_heap_other (by omega)).trans hd)⟩
end
end Go.Proofs.YtlhhjocfbafoeaaGreatDoor
