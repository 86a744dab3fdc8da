/- Layer 14: things that need nothing, and a chain. -/
import Derived.Test.YtkpmkabddhpojaaOrN
set_option linter.unusedVariables false
set_option linter.unusedSimpArgs false
namespace Go.Proofs.Ytkpmkabddhpojaa.Or
open Go Go.Proofs.Ytkpmkabddhpojaa Go.RowKit Go.Op
set_option maxRecDepth 100000

/-! things that need nothing -/
def bare (n : Nat) : List (List Nat) := List.replicate n []
theorem bare_row (n t : Nat) : row (bare n) t = [] := by
  unfold row bare
  simp only [List.getD_eq_getElem?_getD, List.getElem?_replicate]; split <;> rfl
theorem bare_right (n : Nat) : Right (bare n) := fun r hr k hk => by
  unfold bare at hr
  rw [List.mem_replicate] at hr
  rw [hr.2] at hk; cases hk
theorem bare_mass (n : Nat) : mass (bare n) = 0 := by
  unfold mass bare
  rw [List.map_replicate]
  induction n with
  | zero => rfl
  | succ n ih => rw [List.replicate_succ, List.sum_cons, ih]; rfl
theorem bare_fits (n : Nat) (out : List Nat) (t : Nat) : fits (bare n) out t = true ↔ t ∉ out := by
  rw [fits_iff, bare_row]; simp
theorem bare_done {n : Nat} {line : List Nat} (hL : Line n line) : Done (bare n) line line := by
  have key : ∀ k, k ≤ line.length → Gr (bare n) line (line.take k) := by
    intro k
    induction k with
    | zero => intro _; exact .nil
    | succ k ih =>
      intro hk
      have hkl : k < line.length := by omega
      rw [List.take_succ_eq_append_getElem hkl]
      refine (ih (by omega)).step ?_
      unfold pick
      rw [List.find?_eq_some_iff_append]
      refine ⟨(bare_fits _ _ _).2 ?_, line.take k, line.drop (k + 1), by rw [List.getElem_cons_drop, List.take_append_drop], fun x hx => ?_⟩
      · intro h
        obtain ⟨j, hj, e⟩ := List.getElem_of_mem h
        rw [List.length_take] at hj
        rw [List.getElem_take] at e
        have := (List.getElem_inj (h₀ := by omega) (h₁ := hkl) hL.nd).1 e
        omega
      · cases q : fits (bare n) (line.take k) x with
        | false => rfl
        | true => exact absurd hx ((bare_fits _ _ _).1 q)
  refine ⟨by have := key line.length (Nat.le_refl _); rwa [List.take_of_length_le (Nat.le_refl _)] at this, ?_⟩
  rw [pick_none]
  intro t ht
  cases q : fits (bare n) line t with
  | false => rfl
  | true => exact absurd ht ((bare_fits _ _ _).1 q)

/-! a chain -/
def chain (n i : Nat) : List (List Nat) := (List.range n).map fun t => if t + 1 < i then [t + 1] else []
theorem chain_length (n i : Nat) : (chain n i).length = n := by simp [chain]
theorem chain_get {n i t : Nat} (ht : t < n) : (chain n i)[t]'(by rw [chain_length]; exact ht) = if t + 1 < i then [t + 1] else [] := by simp [chain]
theorem chain_row {n i t : Nat} (ht : t < n) : row (chain n i) t = if t + 1 < i then [t + 1] else [] := by
  rw [← chain_get ht]
  simp [row, chain_length, ht]
theorem chain_right (n : Nat) : Right (chain n n) := by
  intro r hr k hk
  rw [chain_length]
  unfold chain at hr
  obtain ⟨t, ht, rfl⟩ := List.mem_map.1 hr
  split at hk
  · rw [List.mem_singleton] at hk; omega
  · cases hk
theorem chain_mass (n i : Nat) : mass (chain n i) ≤ n := by
  unfold mass chain
  rw [List.map_map]
  have : ∀ l : List Nat, (l.map (List.length ∘ fun t => if t + 1 < i then [t + 1] else ([] : List Nat))).sum ≤ l.length := by
    intro l
    induction l with
    | nil => simp
    | cons x l ih =>
      rw [List.map_cons, List.sum_cons, List.length_cons]
      have : (List.length ∘ fun t => if t + 1 < i then [t + 1] else ([] : List Nat)) x ≤ 1 := by
        simp only [Function.comp_apply]; split <;> simp
      omega
  have h := this (List.range n)
  rwa [List.length_range] at h
theorem pick_only {N : List (List Nat)} {line out : List Nat} {t : Nat} (hm : t ∈ line) (hf : fits N out t = true) (hu : ∀ u ∈ line, fits N out u = true → u = t) : pick N line out = some t := by
  cases h : pick N line out with
  | none => rw [pick_none.1 h t hm] at hf; cases hf
  | some u =>
    have h1 := List.find?_some h
    have h2 := List.mem_of_find?_eq_some h
    rw [hu u h2 h1]
/-- The last k, downward. -/
def downN (n : Nat) : Nat → List Nat
  | 0 => []
  | k + 1 => downN n k ++ [n - 1 - k]
theorem downN_length (n : Nat) : ∀ k, (downN n k).length = k
  | 0 => rfl
  | k + 1 => by rw [downN, List.length_append, downN_length n k]; rfl
theorem downN_mem (n : Nat) : ∀ k, k ≤ n → ∀ t, t ∈ downN n k ↔ n - k ≤ t ∧ t < n
  | 0, _, t => by simp [downN] <;> omega
  | k + 1, hk, t => by
    rw [downN, List.mem_append, List.mem_singleton, downN_mem n k (by omega)]; omega
theorem downN_get (n : Nat) : ∀ k i, i < k → (downN n k).getD i 0 = n - 1 - i
  | 0, i, h => by omega
  | k + 1, i, h => by
    have hl := downN_length n k
    rw [downN, List.getD_eq_getElem?_getD]
    by_cases e : i < k
    · rw [List.getElem?_append_left (by omega)]
      have := downN_get n k i e
      rwa [List.getD_eq_getElem?_getD] at this
    · have : i = k := by omega
      subst this
      rw [List.getElem?_append_right (by omega), hl]; simp
theorem chain_done {n : Nat} {line : List Nat} (hL : Line n line) : Done (chain n n) line (downN n n) := by
  have hfit : ∀ k, k ≤ n → ∀ u, u < n → (fits (chain n n) (downN n k) u = true ↔ u + k + 1 = n) := by
    intro k hk u hu
    rw [fits_iff, chain_row hu, downN_mem n k hk]
    constructor
    · rintro ⟨h1, h2⟩
      split at h2
      · have := h2 (u + 1) (by simp)
        rw [downN_mem n k hk] at this
        omega
      · omega
    · intro h
      refine ⟨by omega, fun c hc => ?_⟩
      split at hc
      · rw [List.mem_singleton] at hc
        rw [downN_mem n k hk]; omega
      · cases hc
  have key : ∀ k, k ≤ n → Gr (chain n n) line (downN n k) := by
    intro k
    induction k with
    | zero => intro _; exact .nil
    | succ k ih =>
      intro hk
      refine (ih (by omega)).step (pick_only (hL.all _ (by omega)) ((hfit k (by omega) _ (by omega)).2 (by omega)) fun u hu hf => ?_)
      have := (hfit k (by omega) u (hL.lt u hu)).1 hf
      omega
  refine ⟨key n (Nat.le_refl _), ?_⟩
  rw [pick_none]
  intro t ht
  have htn := hL.lt t ht
  cases q : fits (chain n n) (downN n n) t with
  | false => rfl
  | true => have := (hfit n (Nat.le_refl _) t htn).1 q; omega
theorem Nd.bareMade {X : World} {g n : Nat} (hn : n ≤ 1000) (hg : X.heap[g]? = some (.cells (List.replicate n (Value.slice none 0 0)).toArray 26)) : Nd encN (fun _ => True) X (.slice (some ⟨g, 0, none⟩) n n) (bare n) := by
  have hl : (bare n).length = n := by simp [bare]
  refine ⟨List.replicate n (Value.slice none 0 0), ?_, fun i hi => ?_⟩
  · rw [hl]
    exact RowD.of (row_lit n hg (by simp) hn)
  · have hin : i < n := by rw [hl] at hi; exact hi
    have e : (bare n)[i] = [] := by simp [bare]
    rw [e]
    exact ⟨.slice none 0 0, by simp [hin], RowD.of (Row.nil 1 X)⟩
/-- The chain under way. -/
structure Ch (B : Nat) (n : Nat) (X : World) (cv : Value) (cb : Nat) (vs : List Value) (i : Nat) : Prop where
  own : X.ownsRow B 26 1 cv vs.length (vs.map id)
  blk : cv.ownBlock = some cb
  len : vs.length = n
  el : ∀ t (h : t < n), RowD (fun b => b ≠ cb) X (vs.getD t .nilIface) (row (chain n i) t).length (nums (row (chain n i) t))
theorem Ch.nd {B n : Nat} {X : World} {cv : Value} {cb : Nat} {vs : List Value} (h : Ch B n X cv cb vs n) (hn : n ≤ 1000000) : Nd encN (fun _ => True) X cv (chain n n) := by
  have hl := chain_length n n
  refine ⟨vs, ?_, fun i hi => ?_⟩
  · rw [hl]
    have := h.own
    rw [h.len, List.map_id] at this
    exact RowD.of (Row.ofOwns this (by omega))
  · have hin : i < n := by rw [hl] at hi; exact hi
    refine ⟨vs.getD i .nilIface, by simp [h.len, hin], ?_⟩
    have e : (chain n n)[i] = row (chain n n) i := by simp [row, hl, hin]
    rw [e]
    exact (h.el i hin).mono fun _ _ => trivial
theorem Ch.start {w X : World} {n g : Nat} (hn : n ≤ 1000000000) (hg : X.heap[g]? = some (.cells (List.replicate n (Value.slice none 0 0)).toArray 26)) (hw : w.heap.size ≤ g) : Ch w.heap.size n X (.slice (some ⟨g, 0, none⟩) n n) g (List.replicate n (.slice none 0 0)) 1 where
  own := owns_made id X 26 g _ n (.slice none 0 0) hw hn hg
  blk := rfl
  len := by simp
  el := fun t ht => by
    have e : (List.replicate n (Value.slice none 0 0)).getD t .nilIface = .slice none 0 0 := by simp [ht]
    rw [e, chain_row ht, if_neg (by omega)]
    exact ⟨Row.nil 1 X, fun b o k c e2 hk => by injection e2 with e2; cases e2⟩
theorem Ch.step {B n : Nat} {X Y : World} {cv : Value} {cb : Nat} {vs : List Value} {i : Nat} (h : Ch B n X cv cb vs (i + 1)) (hi : i + 1 < n) (hY : X.alloc (.cells #[.int .i64 ((i + 1 : Nat) : Int)] 3) = Y) :
    Ch B n (Y.setCell ⟨cb, i, none⟩ (.slice (some ⟨X.heap.size, 0, none⟩) 1 1)) cv cb (vs.set i (.slice (some ⟨X.heap.size, 0, none⟩) 1 1)) (i + 1 + 1) := by
  have BY : Below X.heap.size X Y := hY ▸ ba (b0 X) _
  have PY : Y.heap[X.heap.size]? = some (.cells #[encN (i + 1)] 3) := hY ▸ heap_alloc_new X _
  have hcb : cb < X.heap.size := (World.ownsRow.lt h.own _ h.blk).2
  obtain ⟨b, hb1, _, _, _, _, _, hset⟩ := own_at (P := Try.prog) (enc := id) (owns_later h.own BY) i (by rw [h.len]; omega) 23 Try.underlying23 Try.sizeOf26
  obtain rfl : b = cb := by rw [h.blk] at hb1; injection hb1 with hb1; exact hb1.symm
  have kS : Kx (fun c => c = b) Y (Y.setCell ⟨b, i, none⟩ (.slice (some ⟨X.heap.size, 0, none⟩) 1 1)) := Kx.set Y b i _ rfl
  refine ⟨by have := hset (.slice (some ⟨X.heap.size, 0, none⟩) 1 1); simpa using this, h.blk, by rw [List.length_set]; exact h.len, fun t ht => ?_⟩
  rw [chain_row ht]
  by_cases e : t = i
  · subst e
    have e1 : (vs.set t (Value.slice (some ⟨X.heap.size, 0, none⟩) 1 1)).getD t .nilIface = .slice (some ⟨X.heap.size, 0, none⟩) 1 1 := by simp [List.getD_eq_getElem?_getD, List.getElem?_set, h.len, ht]
    rw [e1, if_pos (by omega)]
    have PX : (Y.setCell ⟨b, t, none⟩ (.slice (some ⟨X.heap.size, 0, none⟩) 1 1)).heap[X.heap.size]? = some (.cells #[encN (t + 1)] 3) := (kS.block _ (lt_of_at PY) (by omega)).trans PY
    refine ⟨⟨⟨_, 1, rfl, Nat.le_refl _, by unfold maxLen; omega, by simp, (fun e => by cases e), fun _ => ⟨X.heap.size, 0, rfl, fun j u hj => ?_⟩⟩, by simp⟩, fun b' o k c e2 hk => ?_⟩
    · rw [Lib.cell_of_heap PX]
      simpa using hj
    · injection e2 with e2; injection e2 with e2; injection e2 with e2
      omega
  · have e1 : (vs.set i (Value.slice (some ⟨X.heap.size, 0, none⟩) 1 1)).getD t .nilIface = vs.getD t .nilIface := by
      simp only [List.getD_eq_getElem?_getD, List.getElem?_set]; rw [if_neg (fun q => e q.symm)]
    have h1 := h.el t ht
    rw [chain_row ht] at h1
    have e2 : (if t + 1 < i + 1 + 1 then [t + 1] else ([] : List Nat)) = if t + 1 < i + 1 then [t + 1] else [] := by
      by_cases q : t + 1 < i + 1
      · rw [if_pos q, if_pos (by omega)]
      · rw [if_neg q, if_neg (by omega)]
    rw [e1, e2]
    exact (h1.same (fun c _ hl => BY.block c hl)).same (fun c hc hl => kS.block c hl hc)
end Go.Proofs.Ytkpmkabddhpojaa.Or
