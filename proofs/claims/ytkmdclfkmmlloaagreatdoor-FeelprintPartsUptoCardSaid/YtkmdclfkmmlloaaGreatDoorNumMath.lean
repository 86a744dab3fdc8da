/- Layer 7: digits and the numbers that they are; the one form; comparison; a digit by its place. It hangs on no program. -/
set_option linter.unusedVariables false
set_option linter.unusedSimpArgs false
namespace Go.Proofs.YtkmdclfkmmlloaaGreatDoor.Num

/-- A digit. -/
def isd (b : UInt8) : Bool := decide (48 ≤ b.toNat ∧ b.toNat ≤ 57)
theorem isd_iff (b : UInt8) : isd b = true ↔ 48 ≤ b.toNat ∧ b.toNat ≤ 57 := by simp [isd]
/-- Digits, one at least. -/
def digs (l : List UInt8) : Bool := l.all isd && l != []
theorem digs_iff (l : List UInt8) : digs l = true ↔ (∀ b ∈ l, isd b = true) ∧ l ≠ [] := by simp [digs]
def AllD (l : List UInt8) : Prop := ∀ b ∈ l, isd b = true
theorem AllD.nil : AllD [] := by intro b h; cases h
theorem AllD.cons {b : UInt8} {l : List UInt8} (h : isd b = true) (k : AllD l) : AllD (b :: l) := by
  intro x hx; rcases List.mem_cons.1 hx with rfl | hx
  · exact h
  · exact k x hx
theorem AllD.app {l m : List UInt8} (h : AllD l) (k : AllD m) : AllD (l ++ m) := by
  intro x hx; rcases List.mem_append.1 hx with hx | hx
  · exact h x hx
  · exact k x hx
theorem AllD.left {l m : List UInt8} (h : AllD (l ++ m)) : AllD l := fun x hx => h x (List.mem_append.2 (.inl hx))
theorem AllD.right {l m : List UInt8} (h : AllD (l ++ m)) : AllD m := fun x hx => h x (List.mem_append.2 (.inr hx))
theorem AllD.zeros (k : Nat) : AllD (List.replicate k 48) := by intro b hb; obtain ⟨_, rfl⟩ := List.mem_replicate.1 hb; decide
theorem AllD.sub {l m : List UInt8} (h : AllD l) (k : ∀ x ∈ m, x ∈ l) : AllD m := fun x hx => h x (k x hx)

/-- The number that digits are. -/
def val : List UInt8 → Nat
  | [] => 0
  | b :: r => (b.toNat - 48) * 10 ^ r.length + val r
theorem val_append : ∀ (l m : List UInt8), val (l ++ m) = val l * 10 ^ m.length + val m
  | [], m => by simp [val]
  | b :: r, m => by
    simp only [List.cons_append, val, List.length_append, val_append r m, Nat.pow_add]
    rw [Nat.add_mul, Nat.mul_assoc, Nat.add_assoc]
theorem val_snoc (l : List UInt8) (b : UInt8) : val (l ++ [b]) = val l * 10 + (b.toNat - 48) := by rw [val_append]; simp [val]
theorem val_zeros : ∀ k, val (List.replicate k 48) = 0
  | 0 => rfl
  | k + 1 => by rw [List.replicate_succ]; simp [val, val_zeros k]
theorem val_pad (k : Nat) (l : List UInt8) : val (List.replicate k 48 ++ l) = val l := by rw [val_append, val_zeros]; simp
theorem val_scaled (k : Nat) (l : List UInt8) : val (l ++ List.replicate k 48) = val l * 10 ^ k := by rw [val_append, val_zeros]; simp
theorem val_lt : ∀ (l : List UInt8), AllD l → val l < 10 ^ l.length
  | [], _ => by simp [val]
  | b :: r, h => by
    have h1 := val_lt r (fun x hx => h x (List.mem_cons_of_mem _ hx))
    have h2 := (isd_iff b).1 (h b (List.mem_cons_self ..))
    simp only [val, List.length_cons, Nat.pow_succ]
    have : (b.toNat - 48) * 10 ^ r.length ≤ 9 * 10 ^ r.length := Nat.mul_le_mul_right _ (by omega)
    omega
theorem val_head {b : UInt8} {r : List UInt8} (hb : isd b = true) (h : b ≠ 48) : 10 ^ r.length ≤ val (b :: r) := by
  have h2 := (isd_iff b).1 hb
  have h3 : b.toNat ≠ 48 := fun e => h (UInt8.toNat_inj.1 e)
  simp only [val]
  have : 1 * 10 ^ r.length ≤ (b.toNat - 48) * 10 ^ r.length := Nat.mul_le_mul_right _ (by omega)
  omega
/-- Equally many digits of the same number are the same. -/
theorem val_inj : ∀ (l m : List UInt8), AllD l → AllD m → l.length = m.length → val l = val m → l = m
  | [], [], _, _, _, _ => rfl
  | a :: l, b :: m, h, k, e, v => by
    have h1 := val_lt l (fun x hx => h x (List.mem_cons_of_mem _ hx))
    have h2 := val_lt m (fun x hx => k x (List.mem_cons_of_mem _ hx))
    have ha := (isd_iff a).1 (h a (List.mem_cons_self ..))
    have hb := (isd_iff b).1 (k b (List.mem_cons_self ..))
    have el : l.length = m.length := by simpa using e
    simp only [val, el] at v
    rw [el] at h1
    have hab : a.toNat = b.toNat := by
      rcases Nat.lt_trichotomy (a.toNat - 48) (b.toNat - 48) with c | c | c
      · have : (a.toNat - 48 + 1) * 10 ^ m.length ≤ (b.toNat - 48) * 10 ^ m.length := Nat.mul_le_mul_right _ (by omega)
        rw [Nat.add_mul] at this; omega
      · omega
      · have : (b.toNat - 48 + 1) * 10 ^ m.length ≤ (a.toNat - 48) * 10 ^ m.length := Nat.mul_le_mul_right _ (by omega)
        rw [Nat.add_mul] at this; omega
    rw [hab] at v
    have := val_inj l m (fun x hx => h x (List.mem_cons_of_mem _ hx)) (fun x hx => k x (List.mem_cons_of_mem _ hx)) el (by omega)
    rw [this, UInt8.toNat_inj.1 hab]

/-- In the one form. -/
def IsC (p : List UInt8 × Nat) : Prop := AllD p.1 ∧ p.1 ≠ [] ∧ ((p.1 = [48] ∧ p.2 = 0) ∨ (p.1.head? ≠ some 48 ∧ (p.2 = 0 ∨ p.1.getLast? ≠ some 48)))

theorem IsC.pos {p : List UInt8 × Nat} (h : IsC p) (hn : p.1 ≠ [48]) : 0 < val p.1 := by
  obtain ⟨h1, h2, h3 | ⟨h3, _⟩⟩ := h
  · exact absurd h3.1 hn
  · rcases hp : p.1 with _ | ⟨b, r⟩
    · exact absurd hp h2
    · rw [hp] at h1 h3
      have := val_head (r := r) (h1 b (List.mem_cons_self ..)) (fun e => h3 (by simp [e]))
      exact Nat.lt_of_lt_of_le (Nat.pow_pos (by omega)) this
theorem IsC.len {p q : List UInt8} {s t : Nat} (h : IsC (p, s)) (k : IsC (q, t)) (hv : val p = val q) : p = q := by
  have z : ∀ {p : List UInt8} {s : Nat}, IsC (p, s) → val p = 0 → p = [48] := by
    intro p s h h0
    rcases h.2.2 with h3 | h3
    · exact h3.1
    · refine Classical.byContradiction fun hn => ?_
      have := h.pos hn; simp only at this; omega
  by_cases h0 : val p = 0
  · rw [z h h0, z k (by omega)]
  · have hp : p ≠ [48] := fun e => h0 (by rw [e]; rfl)
    have hq : q ≠ [48] := fun e => h0 (by rw [hv, e]; rfl)
    obtain ⟨a1, a2, a3⟩ := h
    obtain ⟨b1, b2, b3⟩ := k
    have a4 := (a3.resolve_left (fun e => hp e.1)).1
    have b4 := (b3.resolve_left (fun e => hq e.1)).1
    simp only at a1 a2 a4 b1 b2 b4
    refine val_inj p q a1 b1 ?_ hv
    have la := val_lt p a1
    have lb := val_lt q b1
    rcases p with _ | ⟨x, p⟩
    · exact absurd rfl a2
    rcases q with _ | ⟨y, q⟩
    · exact absurd rfl b2
    have ha := val_head (r := p) (a1 x (List.mem_cons_self ..)) (fun e => a4 (by simp [e]))
    have hb := val_head (r := q) (b1 y (List.mem_cons_self ..)) (fun e => b4 (by simp [e]))
    simp only [List.length_cons] at la lb ⊢
    have e1 : p.length < q.length + 1 := (Nat.pow_lt_pow_iff_right (by omega : 1 < 10)).1 (Nat.lt_of_le_of_lt ha (hv ▸ lb))
    have e2 : q.length < p.length + 1 := (Nat.pow_lt_pow_iff_right (by omega : 1 < 10)).1 (Nat.lt_of_le_of_lt hb (hv ▸ la))
    omega

theorem last_of_mod {l : List UInt8} (h : AllD l) (hn : l ≠ []) (h0 : val l % 10 = 0) : l.getLast? = some 48 := by
  obtain ⟨m, b, rfl⟩ : ∃ m b, l = m ++ [b] := ⟨l.dropLast, l.getLast hn, (List.dropLast_concat_getLast hn).symm⟩
  rw [val_snoc] at h0
  have hb := (isd_iff b).1 (h b (by simp))
  have : b.toNat = 48 := by omega
  simp [UInt8.toNat_inj.1 (show b.toNat = (48 : UInt8).toNat from this)]

theorem unique_le {p q : List UInt8} {s t : Nat} (h : IsC (p, s)) (k : IsC (q, t)) (hst : s ≤ t) (hv : val p * 10 ^ t = val q * 10 ^ s) : (p, s) = (q, t) := by
  obtain ⟨d, rfl⟩ : ∃ d, t = s + d := ⟨t - s, by omega⟩
  have h10 : 0 < 10 ^ s := Nat.pow_pos (by omega)
  rw [Nat.pow_add, ← Nat.mul_assoc, Nat.mul_right_comm] at hv
  have hv2 : val p * 10 ^ d = val q := Nat.eq_of_mul_eq_mul_right h10 hv
  rcases Nat.eq_zero_or_pos d with rfl | hd
  · rw [Nat.pow_zero, Nat.mul_one] at hv2
    rw [h.len k hv2]; rfl
  · exfalso
    have hm : val q % 10 = 0 := by
      obtain ⟨e, rfl⟩ : ∃ e, d = e + 1 := ⟨d - 1, by omega⟩
      rw [← hv2, Nat.pow_succ, ← Nat.mul_assoc]; exact Nat.mul_mod_left _ _
    have hl := last_of_mod k.1 k.2.1 hm
    rcases k.2.2 with ⟨_, k2⟩ | ⟨_, k2 | k2⟩
    · simp only at k2; omega
    · simp only at k2; omega
    · exact k2 hl
theorem unique {p q : List UInt8 × Nat} (h : IsC p) (k : IsC q) (hv : val p.1 * 10 ^ q.2 = val q.1 * 10 ^ p.2) : p = q := by
  rcases Nat.le_total p.2 q.2 with c | c
  · exact unique_le h k c hv
  · exact (unique_le k h c hv.symm).symm

/-- Without the noughts ahead. -/
def lead (l : List UInt8) : List UInt8 := l.dropWhile (· == 48)
/-- Without those at the end. -/
def trim (l : List UInt8) : List UInt8 := (l.reverse.dropWhile (· == 48)).reverse
theorem lead_val : ∀ l, val (lead l) = val l
  | [] => rfl
  | b :: r => by
    unfold lead
    rw [List.dropWhile_cons]
    split
    · rename_i h
      have : b = 48 := by simpa using h
      have ih := lead_val r
      unfold lead at ih
      rw [ih, this]; simp [val]
    · rfl
theorem lead_mem {l : List UInt8} : ∀ x ∈ lead l, x ∈ l := fun x hx => (List.dropWhile_sublist _).subset hx
theorem lead_head (l : List UInt8) : (lead l).head? ≠ some 48 := by
  intro h
  have := List.head?_dropWhile_not (p := (· == (48 : UInt8))) (l := l)
  unfold lead at h
  rw [h] at this
  simp at this
theorem lead_len (l : List UInt8) : (lead l).length ≤ l.length := (List.dropWhile_sublist _).length_le
theorem trim_split (l : List UInt8) : ∃ k, l = trim l ++ List.replicate k 48 := by
  have h := List.takeWhile_append_dropWhile (p := (· == (48 : UInt8))) (l := l.reverse)
  refine ⟨(l.reverse.takeWhile (· == 48)).length, ?_⟩
  have h2 : l.reverse.takeWhile (· == 48) = List.replicate (l.reverse.takeWhile (· == 48)).length 48 := by
    refine List.eq_replicate_iff.2 ⟨rfl, fun b hb => ?_⟩
    have := List.all_takeWhile (p := (· == (48 : UInt8))) (l := l.reverse)
    rw [List.all_eq_true] at this
    simpa using this b hb
  have h3 : l = (l.reverse.takeWhile (· == 48) ++ l.reverse.dropWhile (· == 48)).reverse := by rw [h, List.reverse_reverse]
  rw [List.reverse_append] at h3
  conv => lhs; rw [h3, h2, List.reverse_replicate]
  rfl
theorem trim_last (l : List UInt8) : (trim l).getLast? ≠ some 48 := by
  intro h
  have := List.head?_dropWhile_not (p := (· == (48 : UInt8))) (l := l.reverse)
  unfold trim at h
  rw [List.getLast?_reverse] at h
  rw [h] at this
  simp at this

/-- The one form. -/
def canon (l : List UInt8) (k : Nat) : List UInt8 × Nat :=
  if lead l = [] then ([48], 0)
  else ((lead l).take ((lead l).length - min ((lead l).length - (trim (lead l)).length) k), k - min ((lead l).length - (trim (lead l)).length) k)

theorem canon_zero {l : List UInt8} {k : Nat} (h : lead l = []) : canon l k = ([48], 0) := by unfold canon; rw [if_pos h]
/-- What it is where it isn't 0. -/
theorem canon_some {l : List UInt8} {k : Nat} (h : lead l ≠ []) : ∃ (m : List UInt8) (z e : Nat), lead l = m ++ List.replicate (z + e) 48 ∧ z ≤ k ∧ canon l k = (m ++ List.replicate e 48, k - z) ∧ (z = k ∨ e = 0) ∧ m = trim (lead l) ∧ (lead l).length = m.length + (z + e) := by
  obtain ⟨t, ht⟩ := trim_split (lead l)
  have hlen : (lead l).length = (trim (lead l)).length + t := by
    have := congrArg List.length ht
    simpa using this
  have hmin : min ((lead l).length - (trim (lead l)).length) k = min t k := by rw [hlen]; congr 1; omega
  refine ⟨trim (lead l), min t k, t - min t k, ?_, Nat.min_le_right _ _, ?_, by omega, rfl, by omega⟩
  · rw [show min t k + (t - min t k) = t from by omega]; exact ht
  · unfold canon
    rw [if_neg h, hmin]
    refine Prod.ext ?_ rfl
    simp only
    rw [hlen]
    conv => lhs; arg 2; rw [ht]
    rw [List.take_append, List.take_of_length_le (by omega), List.take_replicate]
    congr 1
    congr 1
    omega

theorem canon_is {l : List UInt8} (h : AllD l) (k : Nat) : IsC (canon l k) := by
  by_cases h0 : lead l = []
  · rw [canon_zero h0]; exact ⟨by intro b hb; simp at hb; subst hb; decide, by simp, .inl ⟨rfl, rfl⟩⟩
  · obtain ⟨m, z, e, h1, h2, h3, h4, h5, h6⟩ := canon_some (k := k) h0
    rw [h3]
    have hm0 : m ≠ [] := by
      rintro rfl
      have hh := lead_head l
      rcases hz : z + e with _ | j
      · rw [hz] at h1; exact h0 (by simpa using h1)
      · rw [hz] at h1; rw [h1] at hh; simp [List.replicate_succ] at hh
    have hA : AllD (lead l) := h.sub lead_mem
    rw [h1] at hA
    refine ⟨hA.left.app (.zeros e), ?_, .inr ⟨?_, ?_⟩⟩
    · simp [hm0]
    · have hh := lead_head l
      rw [h1] at hh
      rcases m with _ | ⟨x, m⟩
      · exact absurd rfl hm0
      · simpa using hh
    · rcases h4 with rfl | rfl
      · exact .inl (by simp)
      · refine .inr ?_
        have := trim_last (lead l)
        rw [← h5] at this
        simpa using this
theorem canon_val (l : List UInt8) (k : Nat) : val (canon l k).1 * 10 ^ k = val l * 10 ^ (canon l k).2 := by
  by_cases h0 : lead l = []
  · rw [canon_zero h0]
    have := lead_val l
    rw [h0] at this
    rw [← this]; simp [val]
  · obtain ⟨m, z, e, h1, h2, h3, h4, _⟩ := canon_some (k := k) h0
    rw [h3, ← lead_val l, h1]
    simp only [val_scaled]
    rw [Nat.mul_assoc, Nat.mul_assoc, ← Nat.pow_add, ← Nat.pow_add]
    congr 2
    omega
theorem canon_eq {l m : List UInt8} {j k : Nat} (hl : AllD l) (hm : AllD m) (h : val l * 10 ^ k = val m * 10 ^ j) : canon l j = canon m k := by
  refine unique (canon_is hl j) (canon_is hm k) ?_
  have e1 := canon_val l j
  have e2 := canon_val m k
  have p1 : 0 < 10 ^ (j + k) := Nat.pow_pos (by omega)
  refine Nat.eq_of_mul_eq_mul_right p1 ?_
  rw [Nat.pow_add]
  calc val (canon l j).1 * 10 ^ (canon m k).2 * (10 ^ j * 10 ^ k)
      = (val (canon l j).1 * 10 ^ j) * (10 ^ (canon m k).2 * 10 ^ k) := by ac_rfl
    _ = (val l * 10 ^ (canon l j).2) * (10 ^ (canon m k).2 * 10 ^ k) := by rw [e1]
    _ = (val l * 10 ^ k) * (10 ^ (canon l j).2 * 10 ^ (canon m k).2) := by ac_rfl
    _ = (val m * 10 ^ j) * (10 ^ (canon l j).2 * 10 ^ (canon m k).2) := by rw [h]
    _ = (val m * 10 ^ (canon m k).2) * (10 ^ (canon l j).2 * 10 ^ j) := by ac_rfl
    _ = (val (canon m k).1 * 10 ^ k) * (10 ^ (canon l j).2 * 10 ^ j) := by rw [e2]
    _ = _ := by ac_rfl
theorem canon_fix {p : List UInt8} {s : Nat} (h : IsC (p, s)) : canon p s = (p, s) := unique (canon_is h.1 s) h (canon_val p s)
theorem canon_cons (l : List UInt8) (k : Nat) : canon (48 :: l) k = canon l k := by
  have : lead (48 :: l) = lead l := by unfold lead; rw [List.dropWhile_cons]; simp
  unfold canon; rw [this]
theorem canon_snoc {l : List UInt8} (h : AllD l) (k : Nat) : canon (l ++ [48]) (k + 1) = canon l k :=
  canon_eq (h.app (.cons (by decide) .nil)) h (by rw [val_snoc, Nat.pow_succ]; simp; ac_rfl)
theorem canon_len (l : List UInt8) (k : Nat) (h : l ≠ []) : (canon l k).1.length ≤ l.length ∧ (canon l k).2 ≤ k ∧ 1 ≤ (canon l k).1.length := by
  by_cases h0 : lead l = []
  · rw [canon_zero h0]
    have : 0 < l.length := List.length_pos_iff.2 h
    simp; omega
  · obtain ⟨m, z, e, h1, h2, h3, h4, h5, h6⟩ := canon_some (k := k) h0
    have := lead_len l
    have hm0 : m ≠ [] := by
      rintro rfl
      have hh := lead_head l
      rcases hz : z + e with _ | j
      · rw [hz] at h1; exact h0 (by simpa using h1)
      · rw [hz] at h1; rw [h1] at hh; simp [List.replicate_succ] at hh
    have : 0 < m.length := List.length_pos_iff.2 hm0
    rw [h3]; simp; omega

/-- Over 10 to the power of 1000. -/
def N (p : List UInt8 × Nat) : Nat := val p.1 * 10 ^ (1000 - p.2)
theorem N_canon {l : List UInt8} {k : Nat} (h : k ≤ 1000) (hc : (canon l k).2 ≤ 1000) : N (canon l k) = N (l, k) := by
  have e := canon_val l k
  have p1 : 0 < 10 ^ (canon l k).2 := Nat.pow_pos (by omega)
  have p2 : 0 < 10 ^ k := Nat.pow_pos (by omega)
  unfold N
  refine Nat.eq_of_mul_eq_mul_right (Nat.mul_pos p1 p2) ?_
  simp only
  have q1 : 10 ^ (1000 - (canon l k).2) * 10 ^ (canon l k).2 = 10 ^ 1000 := by rw [← Nat.pow_add]; congr 1; omega
  have q2 : 10 ^ (1000 - k) * 10 ^ k = 10 ^ 1000 := by rw [← Nat.pow_add]; congr 1; omega
  generalize 10 ^ 1000 = T at q1 q2
  generalize 10 ^ (1000 - (canon l k).2) = A at *
  generalize 10 ^ (1000 - k) = B at *
  generalize 10 ^ (canon l k).2 = C at *
  generalize 10 ^ k = D at *
  calc val (canon l k).1 * A * (C * D) = (val (canon l k).1 * D) * (A * C) := by ac_rfl
    _ = (val l * C) * (B * D) := by rw [e, q1, q2]
    _ = _ := by ac_rfl
theorem N_eq {p q : List UInt8 × Nat} (hp : IsC p) (hq : IsC q) (h1 : p.2 ≤ 1000) (h2 : q.2 ≤ 1000) : N p = N q ↔ p = q := by
  refine ⟨fun h => unique hp hq ?_, fun h => by rw [h]⟩
  have p1 : 0 < 10 ^ (1000 - p.2) * 10 ^ (1000 - q.2) := Nat.mul_pos (Nat.pow_pos (by omega)) (Nat.pow_pos (by omega))
  refine Nat.eq_of_mul_eq_mul_right p1 ?_
  have q1 : 10 ^ (1000 - p.2) * 10 ^ p.2 = 10 ^ 1000 := by rw [← Nat.pow_add]; congr 1; omega
  have q2 : 10 ^ (1000 - q.2) * 10 ^ q.2 = 10 ^ 1000 := by rw [← Nat.pow_add]; congr 1; omega
  unfold N at h
  generalize 10 ^ 1000 = T at q1 q2
  generalize 10 ^ (1000 - p.2) = A at *
  generalize 10 ^ (1000 - q.2) = B at *
  generalize 10 ^ p.2 = C at *
  generalize 10 ^ q.2 = D at *
  calc val p.1 * D * (A * B) = (val p.1 * A) * (B * D) := by ac_rfl
    _ = (val q.1 * B) * (A * C) := by rw [h, q1, q2]
    _ = _ := by ac_rfl

end Go.Proofs.YtkmdclfkmmlloaaGreatDoor.Num
