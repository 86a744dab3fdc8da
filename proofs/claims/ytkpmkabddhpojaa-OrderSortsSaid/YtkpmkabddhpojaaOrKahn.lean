/- Layer 14, mathematics: needs counted down, and what stands ready in a heap. Hangs on no program. -/
import Derived.Test.YtkpmkabddhpojaaOrMath
set_option linter.unusedVariables false
set_option linter.unusedSimpArgs false
namespace Go.Proofs.Ytkpmkabddhpojaa
namespace Or
/-- Things and what they need, pair by pair, up to the thing i and its need j. -/
def prs (N : List (List Nat)) (i : Nat) : List (Nat × Nat) := (List.range i).flatMap fun t => (row N t).map fun k => (t, k)
theorem prs_succ (N : List (List Nat)) (i : Nat) : prs N (i + 1) = prs N i ++ (row N i).map fun k => (i, k) := by
  unfold prs; rw [List.range_succ, List.flatMap_append]; simp
/-- Who needs k. -/
def usOf (p : List (Nat × Nat)) (k : Nat) : List Nat := (p.filter fun x => x.2 == k).map (·.1)
theorem usOf_snoc (p : List (Nat × Nat)) (i e k : Nat) : usOf (p ++ [(i, e)]) k = if e = k then usOf p k ++ [i] else usOf p k := by
  unfold usOf
  rw [List.filter_append]
  by_cases h : e = k
  · rw [if_pos h]; simp [h]
  · rw [if_neg h]; simp [h]
theorem usOf_le (p : List (Nat × Nat)) (k : Nat) : (usOf p k).length ≤ p.length := by
  unfold usOf; rw [List.length_map]; exact List.length_filter_le _ _
theorem usOf_mem {p : List (Nat × Nat)} {k t : Nat} : t ∈ usOf p k ↔ (t, k) ∈ p := by
  unfold usOf
  simp only [List.mem_map, List.mem_filter]
  constructor
  · rintro ⟨x, ⟨h1, h2⟩, rfl⟩
    have : x.2 = k := by simpa using h2
    rw [← this]; exact h1
  · intro h; exact ⟨(t, k), ⟨h, by simp⟩, rfl⟩
theorem usOf_count (p : List (Nat × Nat)) (k t : Nat) : (usOf p k).count t = p.count (t, k) := by
  induction p with
  | nil => simp [usOf]
  | cons x p ih =>
    obtain ⟨s, e⟩ := x
    by_cases h : e = k
    · subst h
      have : usOf ((s, e) :: p) e = s :: usOf p e := by simp [usOf]
      rw [this, List.count_cons, List.count_cons, ih]
      by_cases h2 : s = t
      · subst h2; simp
      · have : ((s, e) == (t, e)) = false := by simp [h2]
        rw [this]; simp [h2]
    · have : usOf ((s, e) :: p) k = usOf p k := by simp [usOf, h]
      have h3 : ((s, e) == (t, k)) = false := by simp [h]
      rw [this, List.count_cons, ih, h3]; simp
theorem count_pair (s : Nat) (l : List Nat) (t k : Nat) : (l.map fun k => (s, k)).count (t, k) = if s = t then l.count k else 0 := by
  induction l with
  | nil => simp
  | cons x l ih =>
    rw [List.map_cons, List.count_cons, ih, List.count_cons]
    by_cases h : s = t
    · subst h
      by_cases h2 : x = k
      · subst h2; simp
      · have : ((s, x) == (s, k)) = false := by simp [h2]
        rw [this]; simp [h2]
    · have : ((s, x) == (t, k)) = false := by simp [h]
      rw [this]; simp [h]
theorem prs_count (N : List (List Nat)) (t k : Nat) : ∀ i, (prs N i).count (t, k) = if t < i then (row N t).count k else 0
  | 0 => by simp [prs]
  | i + 1 => by
    rw [prs_succ, List.count_append, prs_count N t k i, count_pair]
    by_cases h1 : t < i
    · rw [if_pos h1, if_neg (by omega), if_pos (by omega)]; omega
    · by_cases h2 : i = t
      · subst h2; simp
      · rw [if_neg h1, if_neg h2, if_neg (by omega)]
theorem users_count {N : List (List Nat)} (t k : Nat) (ht : t < N.length) : (usOf (prs N N.length) k).count t = (row N t).count k := by
  rw [usOf_count, prs_count, if_pos ht]
theorem users_lt {N : List (List Nat)} {t k : Nat} (h : t ∈ usOf (prs N N.length) k) : t < N.length := by
  rw [usOf_mem] at h
  unfold prs at h
  simp only [List.mem_flatMap, List.mem_map, List.mem_range] at h
  obtain ⟨s, h1, x, h2, e⟩ := h
  injection e with e1 e2
  omega
def mass (N : List (List Nat)) : Nat := (N.map List.length).sum
theorem prs_le (N : List (List Nat)) : ∀ i, i ≤ N.length → (prs N i).length + ((N.drop i).map List.length).sum = mass N
  | 0, _ => by simp [prs, mass]
  | i + 1, h => by
    have h1 := prs_le N i (by omega)
    have h2 : N.drop i = N[i] :: N.drop (i + 1) := List.drop_eq_getElem_cons (by omega)
    rw [h2, List.map_cons, List.sum_cons] at h1
    rw [prs_succ, List.length_append, List.length_map]
    have h3 : row N i = N[i] := by simp [row, show i < N.length by omega]
    rw [h3]; omega

/-- How many needs of t (each as often as it is there) aren't laid. -/
def cnt (N : List (List Nat)) (out : List Nat) (t : Nat) : Nat := (row N t).countP fun k => !(out.contains k)
theorem cnt_nil (N : List (List Nat)) (t : Nat) : cnt N [] t = (row N t).length := by simp [cnt]
theorem cnt_zero {N : List (List Nat)} {out : List Nat} {t : Nat} : cnt N out t = 0 ↔ ∀ k ∈ row N t, k ∈ out := by
  unfold cnt; rw [List.countP_eq_zero]; simp
theorem fits_cnt {N : List (List Nat)} {out : List Nat} {t : Nat} : fits N out t = true ↔ t ∉ out ∧ cnt N out t = 0 := by
  rw [fits_iff, cnt_zero]
theorem cnt_snoc {N : List (List Nat)} {out : List Nat} {x : Nat} (hx : x ∉ out) (t : Nat) : cnt N (out ++ [x]) t + (row N t).count x = cnt N out t := by
  unfold cnt
  induction row N t with
  | nil => simp
  | cons k l ih =>
    rw [List.countP_cons, List.countP_cons, List.count_cons]
    by_cases h1 : k = x
    · subst h1
      simp [hx] at *; omega
    · by_cases h2 : k ∈ out
      · simp [h1, h2] at *; omega
      · simp [h1, h2] at *; omega

/-- What stands ready: the places in line of those that may be laid. -/
structure Rdy (N : List (List Nat)) (line out H : List Nat) : Prop where
  nd : H.Nodup
  iff : ∀ a, a ∈ H ↔ a < line.length ∧ fits N out (line.getD a 0) = true
structure Line (n : Nat) (line : List Nat) : Prop where
  len : line.length = n
  nd : line.Nodup
  lt : ∀ x ∈ line, x < n
theorem Line.all {n : Nat} {line : List Nat} (h : Line n line) : ∀ x, x < n → x ∈ line := nodup_full n line h.nd h.lt (by rw [h.len]; exact Nat.le_refl _)
theorem Line.get {n : Nat} {line : List Nat} (h : Line n line) {a : Nat} (ha : a < n) : line.getD a 0 < n := by
  have : line.getD a 0 = line[a]'(by rw [h.len]; exact ha) := by simp [h.len, ha]
  rw [this]; exact h.lt _ (List.getElem_mem _)
theorem Line.inj {n : Nat} {line : List Nat} (h : Line n line) {a b : Nat} (ha : a < n) (hb : b < n) (e : line.getD a 0 = line.getD b 0) : a = b := by
  have h1 : a < line.length := by rw [h.len]; exact ha
  have h2 : b < line.length := by rw [h.len]; exact hb
  have e1 : line.getD a 0 = line[a] := by simp [h1]
  have e2 : line.getD b 0 = line[b] := by simp [h2]
  rw [e1, e2] at e
  exact (List.getElem_inj (h₀ := h1) (h₁ := h2) h.nd).1 e
/-- The least place in line is that of the first that may be laid. -/
theorem Rdy.pick {N : List (List Nat)} {line out H : List Nat} (h : Rdy N line out H) {a : Nat} (ha : a ∈ H) (hm : ∀ b ∈ H, a ≤ b) : pick N line out = some (line.getD a 0) := by
  obtain ⟨h1, h2⟩ := (h.iff a).1 ha
  unfold Or.pick
  rw [List.find?_eq_some_iff_append]
  have e1 : line.getD a 0 = line[a] := by simp [h1]
  refine ⟨h2, line.take a, line.drop (a + 1), ?_, fun x hx => ?_⟩
  · rw [e1, List.getElem_cons_drop, List.take_append_drop]
  · obtain ⟨b, hb, rfl⟩ := List.getElem_of_mem hx
    rw [List.length_take] at hb
    rw [List.getElem_take]
    have hbl : b < line.length := by omega
    cases hq : fits N out line[b] with
    | false => rfl
    | true =>
      have := hm b ((h.iff b).2 ⟨hbl, by rw [show line.getD b 0 = line[b] by simp [hbl]]; exact hq⟩)
      omega
theorem Rdy.none {N : List (List Nat)} {line out : List Nat} (h : Rdy N line out []) : Or.pick N line out = none := by
  rw [pick_none]
  intro t ht
  obtain ⟨b, hb, rfl⟩ := List.getElem_of_mem ht
  cases hq : fits N out line[b] with
  | false => rfl
  | true =>
    have := (h.iff b).2 ⟨hb, by rw [show line.getD b 0 = line[b] by simp [hb]]; exact hq⟩
    cases this

/-- On the way from out to out ++ [line[a]]: us ahead j of those who need it are counted down. -/
structure Mid (N : List (List Nat)) (line out : List Nat) (a : Nat) (us : List Nat) (miss H : List Nat) (j : Nat) : Prop where
  len : miss.length = N.length
  cn : ∀ t, t < N.length → miss.getD t 0 + (us.take j).count t = cnt N out t
  nd : H.Nodup
  iff : ∀ b, b ∈ H ↔ b < line.length ∧ ((fits N out (line.getD b 0) = true ∧ b ≠ a) ∨ (line.getD b 0 ∈ us.take j ∧ miss.getD (line.getD b 0) 0 = 0))
theorem Mid.start {N : List (List Nat)} {line out H H' miss us : List Nat} {a : Nat} (h : Rdy N line out H) (hp : H.Perm (a :: H')) (hl : miss.length = N.length) (hc : ∀ t, t < N.length → miss.getD t 0 = cnt N out t) : Mid N line out a us miss H' 0 where
  len := hl
  cn := fun t ht => by rw [List.take_zero, List.count_nil, hc t ht]; rfl
  nd := ((hp.nodup_iff.1 h.nd) |> List.nodup_cons.1).2
  iff := fun b => by
    have hn := (hp.nodup_iff.1 h.nd) |> List.nodup_cons.1
    have h1 : b ∈ H ↔ b = a ∨ b ∈ H' := by rw [hp.mem_iff]; simp
    have h2 := h.iff b
    simp only [List.take_zero, List.not_mem_nil, false_and, or_false]
    constructor
    · intro hb
      have := h2.1 (h1.2 (.inr hb))
      exact ⟨this.1, this.2, fun e => hn.1 (e ▸ hb)⟩
    · rintro ⟨h3, h4, h5⟩
      rcases h1.1 (h2.2 ⟨h3, h4⟩) with e | e
      · exact absurd e h5
      · exact e
section
variable {N : List (List Nat)} {line out us miss H : List Nat} {a j : Nat}
/-- One is counted down. -/
theorem Mid.pos (h : Mid N line out a us miss H j) (hj : j < us.length) (hlt : us[j] < N.length) (hle : us.count us[j] ≤ cnt N out us[j]) : 0 < miss.getD us[j] 0 := by
  have h1 := h.cn _ hlt
  have h2 : (us.take (j + 1)).count us[j] ≤ us.count us[j] := (List.take_sublist _ _).count_le _
  rw [List.take_succ_eq_append_getElem hj, List.count_append] at h2
  simp at h2
  omega
theorem Mid.down (hL : Line N.length line) (h : Mid N line out a us miss H j) (hj : j < us.length) (hlt : us[j] < N.length) (hle : us.count us[j] ≤ cnt N out us[j]) {b : Nat} (hb : b < N.length) (hbl : line.getD b 0 = us[j]) :
    (miss.getD us[j] 0 - 1 = 0 → ∀ H', H'.Perm (b :: H) → Mid N line out a us (miss.set us[j] (miss.getD us[j] 0 - 1)) H' (j + 1)) ∧
    (miss.getD us[j] 0 - 1 ≠ 0 → Mid N line out a us (miss.set us[j] (miss.getD us[j] 0 - 1)) H (j + 1)) := by
  have hp := h.pos hj hlt hle
  have hlm : us[j] < miss.length := by rw [h.len]; exact hlt
  generalize hu : us[j] = u at *
  have hset : ∀ t, (miss.set u (miss.getD u 0 - 1)).getD t 0 = if t = u then miss.getD u 0 - 1 else miss.getD t 0 := by
    intro t
    simp only [List.getD_eq_getElem?_getD, List.getElem?_set]
    by_cases e : t = u
    · subst e; simp [hlm]
    · rw [if_neg (fun e' => e e'.symm), if_neg e]
  have htk : us.take (j + 1) = us.take j ++ [u] := by rw [List.take_succ_eq_append_getElem hj, hu]
  have hcn : ∀ t, t < N.length → (miss.set u (miss.getD u 0 - 1)).getD t 0 + (us.take (j + 1)).count t = cnt N out t := by
    intro t ht
    have h1 := h.cn t ht
    rw [hset, htk, List.count_append]
    by_cases e : t = u
    · subst e; rw [if_pos rfl, List.count_singleton_self]; omega
    · have e2 : ([u] : List Nat).count t = 0 := by rw [List.count_eq_zero]; simpa using e
      rw [if_neg e, e2]; omega
  have hnf : fits N out u = false := by
    cases hq : fits N out u with
    | false => rfl
    | true =>
      have := (fits_cnt.1 hq).2
      have := h.cn u hlt
      omega
  have hll := hL.len
  constructor
  · intro hz H' hH'
    have hnb : b ∉ H := by
      intro hb2
      rcases ((h.iff b).1 hb2).2 with ⟨q, _⟩ | ⟨_, q⟩
      · rw [hbl, hnf] at q; cases q
      · rw [hbl] at q; omega
    refine ⟨by rw [List.length_set]; exact h.len, hcn, hH'.nodup_iff.2 (List.nodup_cons.2 ⟨hnb, h.nd⟩), fun c => ?_⟩
    rw [hH'.mem_iff, List.mem_cons, h.iff, hset, htk]
    by_cases e : line.getD c 0 = u
    · rw [if_pos e, e, hnf]
      simp only [List.mem_append, List.mem_singleton]
      constructor
      · rintro (rfl | ⟨h1, h2⟩)
        · exact ⟨by omega, .inr ⟨.inr (by trivial), hz⟩⟩
        · exact ⟨h1, .inr ⟨.inr (by trivial), hz⟩⟩
      · rintro ⟨h1, _⟩
        exact .inl (hL.inj (by omega) hb (e.trans hbl.symm))
    · rw [if_neg e]
      have e2 : c ≠ b := fun e' => e (by rw [e', hbl])
      simp only [List.mem_append, List.mem_singleton, e, e2, or_false, false_or]
  · intro hz
    refine ⟨by rw [List.length_set]; exact h.len, hcn, h.nd, fun c => ?_⟩
    rw [h.iff, hset, htk]
    by_cases e : line.getD c 0 = u
    · rw [if_pos e, e, hnf]
      have : miss.getD u 0 ≠ 0 := by omega
      simp only [hz, this, and_false, or_false]
    · rw [if_neg e]
      simp only [List.mem_append, List.mem_singleton, e, or_false]
/-- All are counted down. -/
theorem Mid.stop (hL : Line N.length line) (hg : Gr N line out) (hR : Rdy N line out (a :: [])  ∨ True) (h : Mid N line out a us miss H us.length) (ha : a < N.length) (hf : fits N out (line.getD a 0) = true) (hu : ∀ t, t < N.length → us.count t = (row N t).count (line.getD a 0)) :
    (∀ t, t < N.length → miss.getD t 0 = cnt N (out ++ [line.getD a 0]) t) ∧ Rdy N line (out ++ [line.getD a 0]) H := by
  obtain ⟨hx, hx0⟩ := fits_cnt.1 hf
  have hll := hL.len
  generalize hxx : line.getD a 0 = x at *
  have hm : ∀ t, t < N.length → miss.getD t 0 = cnt N (out ++ [x]) t := by
    intro t ht
    have h1 := h.cn t ht
    rw [List.take_of_length_le (Nat.le_refl _), hu t ht] at h1
    have h2 := cnt_snoc hx t (N := N)
    omega
  refine ⟨hm, h.nd, fun b => ?_⟩
  rw [h.iff, List.take_of_length_le (Nat.le_refl _)]
  constructor
  · rintro ⟨h1, h2⟩
    refine ⟨h1, ?_⟩
    have hbn : line.getD b 0 < N.length := hL.get (by omega)
    have hs := cnt_snoc hx (line.getD b 0) (N := N)
    rw [fits_cnt]
    rcases h2 with ⟨h2, h3⟩ | ⟨h2, h3⟩
    · obtain ⟨q1, q2⟩ := fits_cnt.1 h2
      refine ⟨?_, by omega⟩
      rw [List.mem_append, List.mem_singleton]
      rintro (e | e)
      · exact q1 e
      · exact h3 (hL.inj (by omega) (by omega) (e.trans hxx.symm))
    · rw [hm _ hbn] at h3
      refine ⟨?_, h3⟩
      have hc : 0 < us.count (line.getD b 0) := List.count_pos_iff.2 h2
      rw [hu _ hbn] at hc
      rw [List.mem_append, List.mem_singleton]
      rintro (e | e)
      · have := cnt_zero.2 (hg.needs _ e)
        omega
      · rw [e] at hs hc; omega
  · rintro ⟨h1, h2⟩
    refine ⟨h1, ?_⟩
    have hbn : line.getD b 0 < N.length := hL.get (by omega)
    obtain ⟨q1, q2⟩ := fits_cnt.1 h2
    rw [List.mem_append, List.mem_singleton] at q1
    have hs := cnt_snoc hx (line.getD b 0) (N := N)
    rcases Nat.eq_zero_or_pos (us.count (line.getD b 0)) with e | e
    · rw [hu _ hbn] at e
      refine .inl ⟨fits_cnt.2 ⟨fun e' => q1 (.inl e'), by omega⟩, fun e' => q1 (.inr (by rw [e', hxx]))⟩
    · exact .inr ⟨List.count_pos_iff.1 e, by rw [hm _ hbn]; exact q2⟩
end
end Or
end Go.Proofs.Ytkpmkabddhpojaa
