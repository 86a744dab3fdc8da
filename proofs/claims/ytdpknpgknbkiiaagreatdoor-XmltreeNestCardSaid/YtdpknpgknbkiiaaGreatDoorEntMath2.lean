/- Plain mathematics of layer 3, for the statements without the document's answers: what is escaped tells what it was; plain texts; numerals. -/
import Derived.Test.YtdpknpgknbkiiaaGreatDoorEntMath
set_option linter.unusedVariables false
set_option linter.unusedSimpArgs false
namespace Go.Proofs.YtdpknpgknbkiiaaGreatDoor.Ent
open Go Go.Proofs.YtdpknpgknbkiiaaGreatDoor Go.Proofs.YtdpknpgknbkiiaaGreatDoor.Utf
set_option maxRecDepth 100000

theorem rune_low (c : Nat) (h : c < 128) (hf : fine (c : Int) = true) (r : List UInt8) : rune (UInt8.ofNat c :: r) = (c, 1) := by
  have := rune_enc c hf r
  rw [enc_low h] at this
  exact this
theorem pre_crlf {m : List UInt8} (h : pre [13, 10] m = true) : rune m = (13, 1) := by
  obtain ⟨r, rfl⟩ := (pre_iff _ _).1 h
  exact rune_low 13 (by omega) (by decide) (10 :: r)

/-- A reference ahead. -/
theorem item_ref {v : Bool} {x m : List UInt8} {c : Nat} (hx : 59 ∉ x) (hr : referred x = some c) : item v (38 :: (x ++ 59 :: m)) = (c, x.length + 2, 0) := by
  have e := rune_low 38 (by omega) (by decide) (x ++ 59 :: m)
  have e2 : (UInt8.ofNat 38 : UInt8) = 38 := rfl
  rw [e2] at e
  have h := refer_semi x m hx
  rw [hr] at h
  unfold item
  rw [e, if_neg (by decide), if_neg (by decide), if_pos rfl, h, if_neg (by simp)]
theorem tell_ref {v : Bool} {x m : List UInt8} {c : Nat} (hx : 59 ∉ x) (hr : referred x = some c) : tell v (38 :: (x ++ 59 :: m)) = fin (enc (c : Int)) (x.length + 2) (tell v m) := by
  have h := item_ref (v := v) (m := m) hx hr
  rw [tell_step (by rw [h]), h]
  simp only
  congr 2
  simp
/-- No reference ahead. -/
theorem tell_noref {v : Bool} {x m : List UInt8} (hx : 59 ∉ x) (hr : referred x = none) : tell v (38 :: (x ++ 59 :: m)) = ([], 0, 5) := by
  have e := rune_low 38 (by omega) (by decide) (x ++ 59 :: m)
  have e2 : (UInt8.ofNat 38 : UInt8) = 38 := rfl
  rw [e2] at e
  have h := refer_semi x m hx
  rw [hr] at h
  have hi : item v (38 :: (x ++ 59 :: m)) = (0, 0, 5) := by
    unfold item
    rw [e, if_neg (by decide), if_neg (by decide), if_pos rfl, h, if_pos rfl]
  rw [tell_bad (by simp) (by rw [hi]; simp), hi]
theorem tell_open {v : Bool} {x : List UInt8} (hx : 59 ∉ x) : tell v (38 :: x) = ([], 0, 5) := by
  have e := rune_low 38 (by omega) (by decide) x
  have e2 : (UInt8.ofNat 38 : UInt8) = 38 := rfl
  rw [e2] at e
  have h := refer_none x hx
  have hi : item v (38 :: x) = (0, 0, 5) := by
    unfold item
    rw [e, if_neg (by decide), if_neg (by decide), if_pos rfl, h, if_pos rfl]
  rw [tell_bad (by simp) (by rw [hi]; simp), hi]

/-- A character ahead that tells itself. -/
theorem item_self {v : Bool} {c : Nat} (hf : fine (c : Int) = true) (h1 : c ≠ 38) (h2 : c ≠ 60) (h3 : c ≠ 13) (h4 : v = true → c ≠ 9 ∧ c ≠ 10) (m : List UInt8) : item v (enc (c : Int) ++ m) = (c, (enc (c : Int)).length, 0) := by
  have e := rune_enc c hf m
  have hl := enc_len (c : Int)
  have hp : pre [13, 10] (enc (c : Int) ++ m) = false := by
    rw [← Bool.not_eq_true]
    intro h
    have := pre_crlf h
    rw [this] at e
    injection e with e _
    exact h3 e.symm
  have hi : itself v c = c := by
    unfold itself
    by_cases hv : v = true
    · have := h4 hv
      rw [if_pos hv, if_neg (by omega)]
    · rw [if_neg hv, if_neg h3]
  unfold item
  rw [e, if_neg (by simp only; omega), if_neg h2, if_neg h1, hp]
  simp [hi]
theorem tell_self {v : Bool} {c : Nat} (hf : fine (c : Int) = true) (h1 : c ≠ 38) (h2 : c ≠ 60) (h3 : c ≠ 13) (h4 : v = true → c ≠ 9 ∧ c ≠ 10) (m : List UInt8) : tell v (enc (c : Int) ++ m) = fin (enc (c : Int)) (enc (c : Int)).length (tell v m) := by
  have h := item_self hf h1 h2 h3 h4 m
  rw [tell_step (by rw [h]), h]
  simp only
  congr 2
  simp

theorem escT_ref {v : Bool} {c : Nat} {t : List UInt8} (h : escT v c = some t) : ∃ x, t = 38 :: (x ++ [59]) ∧ 59 ∉ x ∧ referred x = some c := by
  unfold escT at h
  by_cases c1 : c = 38
  · subst c1; rw [if_pos rfl] at h; injection h with h; exact ⟨[97, 109, 112], by rw [← h]; rfl, by decide, by decide⟩
  rw [if_neg c1] at h
  by_cases c2 : c = 60
  · subst c2; rw [if_pos rfl] at h; injection h with h; exact ⟨[108, 116], by rw [← h]; rfl, by decide, by decide⟩
  rw [if_neg c2] at h
  by_cases c3 : c = 62
  · subst c3; rw [if_pos rfl] at h; injection h with h; exact ⟨[103, 116], by rw [← h]; rfl, by decide, by decide⟩
  rw [if_neg c3] at h
  by_cases c4 : c = 13
  · subst c4; rw [if_pos rfl] at h; injection h with h; exact ⟨[35, 49, 51], by rw [← h]; rfl, by decide, by decide⟩
  rw [if_neg c4] at h
  by_cases c5 : v = true ∧ c = 34
  · rw [if_pos c5] at h; obtain ⟨_, rfl⟩ := c5; injection h with h; exact ⟨[113, 117, 111, 116], by rw [← h]; rfl, by decide, by decide⟩
  rw [if_neg c5] at h
  by_cases c6 : v = true ∧ c = 9
  · rw [if_pos c6] at h; obtain ⟨_, rfl⟩ := c6; injection h with h; exact ⟨[35, 57], by rw [← h]; rfl, by decide, by decide⟩
  rw [if_neg c6] at h
  by_cases c7 : v = true ∧ c = 10
  · rw [if_pos c7] at h; obtain ⟨_, rfl⟩ := c7; injection h with h; exact ⟨[35, 49, 48], by rw [← h]; rfl, by decide, by decide⟩
  rw [if_neg c7] at h
  cases h
theorem escT_self {v : Bool} {c : Nat} (h : escT v c = none) : c ≠ 38 ∧ c ≠ 60 ∧ c ≠ 13 ∧ (v = true → c ≠ 9 ∧ c ≠ 10) := by
  unfold escT at h
  by_cases c1 : c = 38
  · rw [if_pos c1] at h; cases h
  rw [if_neg c1] at h
  by_cases c2 : c = 60
  · rw [if_pos c2] at h; cases h
  rw [if_neg c2] at h
  by_cases c3 : c = 62
  · rw [if_pos c3] at h; cases h
  rw [if_neg c3] at h
  by_cases c4 : c = 13
  · rw [if_pos c4] at h; cases h
  rw [if_neg c4] at h
  by_cases c5 : v = true ∧ c = 34
  · rw [if_pos c5] at h; cases h
  rw [if_neg c5] at h
  by_cases c6 : v = true ∧ c = 9
  · rw [if_pos c6] at h; cases h
  rw [if_neg c6] at h
  by_cases c7 : v = true ∧ c = 10
  · rw [if_pos c7] at h; cases h
  exact ⟨c1, c2, c4, fun hv => ⟨fun e => c6 ⟨hv, e⟩, fun e => c7 ⟨hv, e⟩⟩⟩

/-- What is escaped tells what it was. -/
theorem tell_esc (v : Bool) (l : List UInt8) (h : check l = l.length) : tell v (esc v l) = (l, (esc v l).length, 0) := by
  refine by_runes (p := fun l => tell v (esc v l) = (l, (esc v l).length, 0)) rfl ?_ l h
  intro c r hf hck ih
  rw [esc_append, esc_enc v c hf]
  cases ht : escT v c with
  | some t =>
    obtain ⟨x, rfl, hx, hr⟩ := escT_ref ht
    simp only [Option.getD_some]
    have e : 38 :: (x ++ [59]) ++ esc v r = 38 :: (x ++ 59 :: esc v r) := by simp
    rw [e, tell_ref hx hr, ih]
    unfold fin
    simp
    omega
  | none =>
    obtain ⟨h1, h2, h3, h4⟩ := escT_self ht
    simp only [Option.getD_none]
    rw [tell_self hf h1 h2 h3 h4, ih]
    unfold fin
    simp

/-- A text without references and ends of lines. -/
def calm (l : List UInt8) : Prop := ∀ b ∈ l, b ≠ 38 ∧ b ≠ 60 ∧ b ≠ 13 ∧ b ≠ 10 ∧ b ≠ 9
theorem enc_mem {c : Nat} (h : c < 128) : UInt8.ofNat c ∈ enc (c : Int) := by rw [enc_low h]; simp
/-- .. tells itself. -/
theorem tell_calm (v : Bool) (l : List UInt8) (h : check l = l.length) (m : List UInt8) : calm l → tell v (l ++ m) = fin l l.length (tell v m) := by
  refine by_runes (p := fun l => calm l → tell v (l ++ m) = fin l l.length (tell v m)) ?_ ?_ l h
  · intro _
    unfold fin
    rw [List.nil_append, List.nil_append, List.length_nil, Nat.zero_add]
    by_cases e : (tell v m).2.2 = 0
    · rw [if_pos e]
    · rw [if_neg e]; conv => lhs; rw [← Prod.eta (tell v m), tell_none e]
  · intro c r hf hck ih hq
    have key : ∀ n : Nat, n < 128 → (n = 38 ∨ n = 60 ∨ n = 13 ∨ n = 10 ∨ n = 9) → c ≠ n := by
      intro n hn hc e
      subst e
      have := hq (UInt8.ofNat c) (by simp [enc_mem hn])
      rcases hc with rfl | rfl | rfl | rfl | rfl <;> simp at this
    rw [List.append_assoc, tell_self hf (key 38 (by omega) (by simp)) (key 60 (by omega) (by simp)) (key 13 (by omega) (by simp)) (fun _ => ⟨key 9 (by omega) (by simp), key 10 (by omega) (by simp)⟩), ih (fun b hb => hq b (by simp [hb])), fin_fin, List.length_append]

/-! Numerals. -/
/-- A number's digits, to a base, out of a row of them. -/
def numF (base : Nat) (all : List UInt8) : Nat → Nat → List UInt8
  | 0, _ => []
  | f + 1, n => if n < base then [all.getD n 0] else numF base all f (n / base) ++ [all.getD (n % base) 0]
def num (base : Nat) (all : List UInt8) (n : Nat) : List UInt8 := numF base all (n + 1) n
theorem numF_eq {base : Nat} (hb : 2 ≤ base) (all : List UInt8) : ∀ (f g n : Nat), n < f → n < g → numF base all f n = numF base all g n
  | 0, g, n, h, _ => by omega
  | f + 1, 0, n, _, h => by omega
  | f + 1, g + 1, n, h1, h2 => by
    unfold numF
    by_cases e : n < base
    · rw [if_pos e, if_pos e]
    · rw [if_neg e, if_neg e]
      have : n / base < n := Nat.div_lt_self (by omega) hb
      rw [numF_eq hb all f g (n / base) (by omega) (by omega)]
theorem num_small {base : Nat} {all : List UInt8} {n : Nat} (h : n < base) : num base all n = [all.getD n 0] := by unfold num numF; rw [if_pos h]
theorem num_step {base : Nat} (hb : 2 ≤ base) {all : List UInt8} {n : Nat} (h : ¬ n < base) : num base all n = num base all (n / base) ++ [all.getD (n % base) 0] := by
  have : n / base < n := Nat.div_lt_self (by omega) hb
  conv => lhs; unfold num numF; rw [if_neg h]
  unfold num
  rw [numF_eq hb all n (n / base + 1) (n / base) (by omega) (by omega)]
/-- Digits that are right. -/
def Row10 (base : Nat) (all : List UInt8) : Prop := ∀ j, j < base → dv (all.getD j 0).toNat = j
theorem num_facts {base : Nat} (hb : 2 ≤ base) {all : List UInt8} (ha : Row10 base all) : ∀ n, num base all n ≠ [] ∧ (num base all n).all (isd base) = true ∧ val base 0 (num base all n) = n ∧ (∀ k, n < base ^ k → 1 ≤ k → (num base all n).length ≤ k) := by
  intro n
  induction n using Nat.strongRecOn with
  | _ n ih =>
    by_cases h : n < base
    · rw [num_small h]
      have hd := ha n h
      refine ⟨by simp, ?_, ?_, fun k _ h1 => by simpa using h1⟩
      · rw [List.all_cons, List.all_nil, Bool.and_true, isd_iff, hd]; exact h
      · rw [val, val, hd]; omega
    · have hlt : n / base < n := Nat.div_lt_self (by omega) hb
      obtain ⟨h1, h2, h3, h4⟩ := ih _ hlt
      have hm : n % base < base := Nat.mod_lt _ (by omega)
      have hd := ha _ hm
      rw [num_step hb h]
      refine ⟨by simp, ?_, ?_, ?_⟩
      · rw [List.all_append, h2, List.all_cons, List.all_nil, Bool.and_true, Bool.true_and, isd_iff, hd]; exact hm
      · rw [val_snoc, h3, hd]; exact Nat.div_add_mod n base
      · intro k hk h5
        rw [List.length_append]
        have : k ≠ 1 := by intro e; subst e; rw [Nat.pow_one] at hk; exact h hk
        obtain ⟨j, rfl⟩ : ∃ j, k = j + 1 := ⟨k - 1, by omega⟩
        have := h4 j (by rw [Nat.pow_succ] at hk; exact Nat.div_lt_of_lt_mul (by rw [Nat.mul_comm]; exact hk)) (by omega)
        simp; omega
theorem num_head {base : Nat} (hb : 2 ≤ base) (hb2 : base ≤ 16) {all : List UInt8} (ha : Row10 base all) (n : Nat) : ∀ b ∈ num base all n, b ≠ 120 ∧ b ≠ 59 := by
  intro b hbm
  have := List.all_eq_true.1 (num_facts hb ha n).2.1 b hbm
  rw [isd_iff] at this
  refine ⟨fun e => ?_, fun e => ?_⟩
  · subst e; have e : dv (120 : UInt8).toNat = 99 := by decide
    omega
  · subst e; have e : dv (59 : UInt8).toNat = 99 := by decide
    omega

theorem referred_ten {all : List UInt8} (ha : Row10 10 all) {n : Nat} (hn : n < 2097152) : referred (35 :: num 10 all n) = if fine (n : Int) = true then some n else none := by
  obtain ⟨h1, h2, h3, h4⟩ := num_facts (by omega) ha n
  have h5 := h4 7 (by omega) (by omega)
  have hp : pre [35, 120] (35 :: num 10 all n) = false := by
    rw [pre_cons]
    cases hd : num 10 all n with
    | nil => rfl
    | cons b r =>
      have := (num_head (by omega) (by omega) ha n b (by rw [hd]; simp)).1
      have : (120 == b) = false := by rw [beq_eq_false_iff_ne]; exact fun e => this e.symm
      simp [pre, List.isPrefixOf, this]
  have hp2 : pre [35] (35 :: num 10 all n) = true := by rw [pre_cons]; rfl
  unfold referred
  rw [hp, if_neg (by simp), if_pos hp2]
  unfold numd
  simp only [List.drop_succ_cons, List.drop_zero]
  rw [h3]
  by_cases c : fine (n : Int) = true
  · rw [if_pos c, if_pos ⟨h5, h1, h2, c⟩]
  · rw [if_neg c, if_neg (fun k => c k.2.2.2)]
theorem referred_hex {all : List UInt8} (ha : Row10 16 all) {n : Nat} (hn : n < 2097152) : referred (35 :: 120 :: num 16 all n) = if fine (n : Int) = true then some n else none := by
  obtain ⟨h1, h2, h3, h4⟩ := num_facts (by omega) ha n
  have h5 := h4 6 (by omega) (by omega)
  have hp : pre [35, 120] (35 :: 120 :: num 16 all n) = true := by rw [pre_cons, pre_cons]; rfl
  unfold referred
  rw [if_pos hp]
  unfold numd
  simp only [List.drop_succ_cons, List.drop_zero]
  rw [h3]
  by_cases c : fine (n : Int) = true
  · rw [if_pos c, if_pos ⟨h5, h1, h2, c⟩]
  · rw [if_neg c, if_neg (fun k => c k.2.2.2)]

theorem alive_1 : tell false [97, 38, 35, 54, 53, 59, 38, 108, 116, 59] = ([97, 65, 60], 10, 0) := by decide +kernel
theorem alive_2 : tell true [97, 13, 10, 98] = ([97, 32, 98], 4, 0) := by decide +kernel
theorem alive_3 : tell false [97, 38, 98] = ([], 1, 5) := by decide +kernel
end Go.Proofs.YtdpknpgknbkiiaaGreatDoor.Ent
