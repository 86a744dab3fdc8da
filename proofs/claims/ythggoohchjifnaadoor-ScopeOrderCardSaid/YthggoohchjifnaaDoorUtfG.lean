/- Layer 1: contracts of the document's own answers: Rune, Check. -/
import Derived.Test.YthggoohchjifnaaDoorUtfF
set_option linter.unusedVariables false
set_option linter.unusedSimpArgs false
namespace Go.Proofs.YthggoohchjifnaaDoor.Utf
open Go Go.Proofs.YthggoohchjifnaaDoor Go.RowKit
set_option maxRecDepth 100000

theorem lowV_neg : ∀ (l : List UInt8) (n : Int), 0 ≤ n → (lowV n l < 0 ↔ ∃ b ∈ l, b.toNat / 64 ≠ 2)
  | [], n, h => by simp [lowV]; exact h
  | b :: r, n, h => by
    have hb := UInt8.toNat_lt b
    rw [lowV]
    by_cases e : b.toNat / 64 = 2
    · rw [if_pos e, lowV_neg r _ (by omega)]
      simp [e]
    · rw [if_neg e]
      simp [e]


/-- What Rune tells, in its own steps: of n bytes, the first one from base on. -/
structure Big (l : List UInt8) (n base p : Nat) : Prop where
  short : l.length < n → rune l = (0, 0)
  wrong : n ≤ l.length → lowV 0 ((l.drop 1).take (n - 1)) < 0 → rune l = (0, 0)
  right : n ≤ l.length → 0 ≤ lowV 0 ((l.drop 1).take (n - 1)) → ∃ x : Nat, (x : Int) = ((nth l 0 - base : Nat) : Int) * (p : Int) + lowV 0 ((l.drop 1).take (n - 1)) ∧ rune l = chk x n

theorem big2 (l : List UInt8) (h : 192 ≤ nth l 0 ∧ nth l 0 < 224) : Big l 2 192 64 := by
  have e : l.length ≠ 0 := by
    intro e; have : l = [] := List.eq_nil_of_length_eq_zero e
    subst this; simp [nth] at h
  have er : rune l = (if 2 ≤ l.length ∧ nth l 1 / 64 = 2 then chk ((nth l 0 - 192) * 64 + (nth l 1 - 128)) 2 else (0, 0)) := by
    unfold rune runeN; rw [if_neg e, if_neg (by omega), if_neg (by omega), if_pos (by omega)]
  refine ⟨fun hs => by rw [er, if_neg (by omega)], fun hl hw => ?_, fun hl hw => ?_⟩
  all_goals
    have e1 : (l.drop 1).take (2 - 1) = [l[1]] := by
      rw [List.drop_eq_getElem_cons (by omega)]; rfl
    rw [e1] at hw
  · rw [lowV_neg _ _ (by omega)] at hw
    simp at hw
    rw [nth_get (by omega)] at hw
    rw [er, if_neg (by omega)]
  · have h1 := nth_get (l := l) (i := 1) (by omega)
    by_cases c1 : l[1].toNat / 64 = 2
    · refine ⟨_, ?_, by rw [er, if_pos ⟨hl, by rw [← h1]; exact c1⟩]⟩
      rw [e1, lowV, if_pos c1, lowV, ← h1]
      have := UInt8.toNat_lt l[1]
      omega
    · rw [lowV, if_neg c1] at hw; omega

theorem big3 (l : List UInt8) (h : 224 ≤ nth l 0 ∧ nth l 0 < 240) : Big l 3 224 4096 := by
  have e : l.length ≠ 0 := by
    intro e; have : l = [] := List.eq_nil_of_length_eq_zero e
    subst this; simp [nth] at h
  have er : rune l = (if 3 ≤ l.length ∧ nth l 1 / 64 = 2 ∧ nth l 2 / 64 = 2 then chk ((nth l 0 - 224) * 4096 + (nth l 1 - 128) * 64 + (nth l 2 - 128)) 3 else (0, 0)) := by
    unfold rune runeN; rw [if_neg e, if_neg (by omega), if_neg (by omega), if_neg (by omega), if_pos (by omega)]
  refine ⟨fun hs => by rw [er, if_neg (by omega)], fun hl hw => ?_, fun hl hw => ?_⟩
  all_goals
    have e1 : (l.drop 1).take (3 - 1) = [l[1], l[2]] := by
      rw [List.drop_eq_getElem_cons (by omega), List.drop_eq_getElem_cons (by omega)]; rfl
    rw [e1] at hw
  · rw [lowV_neg _ _ (by omega)] at hw
    simp at hw
    rw [nth_get (by omega), nth_get (by omega)] at hw
    rw [er, if_neg (by omega)]
  · have h1 := nth_get (l := l) (i := 1) (by omega)
    have h2 := nth_get (l := l) (i := 2) (by omega)
    by_cases c1 : l[1].toNat / 64 = 2
    · by_cases c2 : l[2].toNat / 64 = 2
      · refine ⟨_, ?_, by rw [er, if_pos ⟨hl, by rw [← h1]; exact c1, by rw [← h2]; exact c2⟩]⟩
        rw [e1, lowV, if_pos c1, lowV, if_pos c2, lowV, ← h1, ← h2]
        have := UInt8.toNat_lt l[1]
        have := UInt8.toNat_lt l[2]
        generalize l[1].toNat = a1 at *
        generalize l[2].toNat = a2 at *
        omega
      · rw [lowV, if_pos c1, lowV, if_neg c2] at hw; omega
    · rw [lowV, if_neg c1] at hw; omega

theorem four_eq (K a b c d : Nat) (hb : 128 ≤ b) (hc : 128 ≤ c) (hd : 128 ≤ d) :
    ((a * K + (b - 128) * 4096 + (c - 128) * 64 + (d - 128) : Nat) : Int) = (a : Int) * (K : Int) + (64 * (64 * (64 * 0 + ((b : Int) - 128)) + ((c : Int) - 128)) + ((d : Int) - 128)) := by
  have e1 : ((b - 128 : Nat) : Int) = (b : Int) - 128 := by omega
  have e2 : ((c - 128 : Nat) : Int) = (c : Int) - 128 := by omega
  have e3 : ((d - 128 : Nat) : Int) = (d : Int) - 128 := by omega
  rw [Int.natCast_add, Int.natCast_add, Int.natCast_add, Int.natCast_mul, Int.natCast_mul, Int.natCast_mul, e1, e2, e3]
  generalize (a : Int) * (K : Int) = z
  omega

def k18 : Nat := 262144
theorem val4_eq (a b c d : Nat) : val4 a b c d = (a - 240) * k18 + (b - 128) * 4096 + (c - 128) * 64 + (d - 128) := by unfold val4 k18; rfl

theorem big4 (l : List UInt8) (h : 240 ≤ nth l 0 ∧ nth l 0 < 248) : Big l 4 240 k18 := by
  have e : l.length ≠ 0 := by
    intro e; have : l = [] := List.eq_nil_of_length_eq_zero e
    subst this; simp [nth] at h
  have er : rune l = (if 4 ≤ l.length ∧ nth l 1 / 64 = 2 ∧ nth l 2 / 64 = 2 ∧ nth l 3 / 64 = 2 then chk (val4 (nth l 0) (nth l 1) (nth l 2) (nth l 3)) 4 else (0, 0)) := by
    unfold rune runeN; rw [if_neg e, if_neg (by omega), if_neg (by omega), if_neg (by omega), if_neg (by omega), if_pos (by omega)]
  refine ⟨fun hs => by rw [er, if_neg (by omega)], fun hl hw => ?_, fun hl hw => ?_⟩
  all_goals
    have e1 : (l.drop 1).take (4 - 1) = [l[1], l[2], l[3]] := by
      rw [List.drop_eq_getElem_cons (by omega), List.drop_eq_getElem_cons (by omega), List.drop_eq_getElem_cons (by omega)]; rfl
    rw [e1] at hw
  · rw [lowV_neg _ _ (by omega)] at hw
    simp at hw
    rw [nth_get (by omega), nth_get (by omega), nth_get (by omega)] at hw
    rw [er, if_neg (by omega)]
  · have h1 := nth_get (l := l) (i := 1) (by omega)
    have h2 := nth_get (l := l) (i := 2) (by omega)
    have h3 := nth_get (l := l) (i := 3) (by omega)
    by_cases c1 : l[1].toNat / 64 = 2
    · by_cases c2 : l[2].toNat / 64 = 2
      · by_cases c3 : l[3].toNat / 64 = 2
        · refine ⟨_, ?_, by rw [er, if_pos ⟨hl, by rw [← h1]; exact c1, by rw [← h2]; exact c2, by rw [← h3]; exact c3⟩]⟩
          rw [e1, lowV, if_pos c1, lowV, if_pos c2, lowV, if_pos c3, lowV, ← h1, ← h2, ← h3, val4_eq]
          exact four_eq _ _ _ _ _ (by omega) (by omega) (by omega)
        · rw [lowV, if_pos c1, lowV, if_pos c2, lowV, if_neg c3] at hw; omega
      · rw [lowV, if_pos c1, lowV, if_neg c2] at hw; omega
    · rw [lowV, if_neg c1] at hw; omega

theorem lowV_lt' : ∀ (l : List UInt8) (n : Int) (B : Int), 0 ≤ n → n < B → 1 ≤ B → lowV n l < B * 64 ^ l.length
  | [], n, B, h, h', _ => by simpa [lowV] using h'
  | b :: r, n, B, h, h', hB => by
    have hb := UInt8.toNat_lt b
    rw [lowV]
    by_cases e : b.toNat / 64 = 2
    · rw [if_pos e]
      have := lowV_lt' r (64 * n + (b.toNat - 128)) (B * 64) (by omega) (by omega) (by omega)
      rw [List.length_cons, Int.pow_succ, show B * (64 ^ r.length * 64) = B * 64 * 64 ^ r.length from by rw [Int.mul_comm (64 ^ r.length) 64, Int.mul_assoc]]
      exact this
    · rw [if_neg e]
      have : 0 < B * 64 ^ (b :: r).length := Int.mul_pos (by omega) (Int.pow_pos (by omega))
      omega
theorem lowV_lt (l : List UInt8) (h : l.length ≤ 3) : lowV 0 l < 262144 := by
  have := lowV_lt' l 0 1 (by omega) (by omega) (by omega)
  rcases (by omega : l.length = 0 ∨ l.length = 1 ∨ l.length = 2 ∨ l.length = 3) with e | e | e | e <;> rw [e] at this <;> simp at this <;> omega

/-- The top's value behind k - 1 rounds. -/
def TopRel (n k : Nat) (t m : Int) : Prop := 1 ≤ k ∧ k ≤ n ∧ 0 ≤ m ∧ (k = 1 → m = t) ∧ (k = 2 → m = 64 * t) ∧ (k = 3 → m = 4096 * t) ∧ (k = 4 → m = 262144 * t)

def pairV (r : Nat × Nat) : Value := .tuple #[.int .i64 r.1, .int .i64 r.2]
theorem ret_chk {x n : Nat} (h : fine (x : Int) = true) (hw : width x = n) : chk x n = (x, n) := chk_fine h hw

theorem RRune_none (v : Value) (w : World) (hv : Bytes w v []) :
    Calls Tryd.prog 69 #[v] w fun e w' => e = .returned (pairV (rune [])) ∧ Below w.heap.size w w' := by
  have hlen := fun W => hv.len (P := Tryd.prog) 44 3 5 underB W
  simp only [List.length_nil] at hlen
  go_enter Tryd.func69, Tryd.ntmps69
  go_wp2
  go_ret2
  exact ⟨rfl, Below.refl _ _⟩

set_option maxHeartbeats 1000000 in
theorem RRune_low (v : Value) (l : List UInt8) (w : World) (hv : Bytes w v l) (hn : 0 < l.length) (hx : nth l 0 < 128) :
    Calls Tryd.prog 69 #[v] w fun e w' => e = .returned (pairV (rune l)) ∧ Below w.heap.size w w' := by
  have hlen := fun W => hv.len (P := Tryd.prog) 44 3 5 underB W
  have hr : rune l = chk (nth l 0) 1 := by unfold rune runeN; rw [if_neg (by omega), if_pos hx]
  obtain ⟨b, o, ha, hc⟩ := hv.atI 0 (by omega) (by omega) 44 5 underB size8
  rw [show (0 : Int).toNat = 0 from rfl] at hc
  have hle := hv.le
  obtain ⟨v', a1, _, _, hv'⟩ := hv.subI 1 1 (by omega) (by omega) (by omega) 44 5 underB size8
  have hlo := low_any v' _ w hv' (by simp)
  have e0 : (1 - 1 : Int).toNat = 0 := rfl
  rw [e0, List.take_zero, lowV] at hlo
  obtain ⟨y, hxx⟩ : ∃ y, nth l 0 = y := ⟨_, rfl⟩
  rw [hxx] at hr hc hx
  have hxx1 : ((l.length : Int) == 0) = false := by rw [beq_eq_false_iff_ne]; omega
  have HR := hid hr
  have HLo := hid hlo
  clear hxx hr hv hv' hlo
  go_enter Tryd.func69, Tryd.ntmps69
  go_wp2_with (go_at_call 80; refine HLo.out.mono ?_; rintro e w' ⟨rfl, rfl⟩)
  go_loop [6, 8] (fun t i => t = .int .i64 y ∧ i = .int .i64 1) (fun _ _ => 0)
  case atStart => exact ⟨rfl, rfl⟩
  case round =>
    obtain ⟨rfl, rfl⟩ := hrel
    by_cases hf : fine (y : Int) = true
    · have hRF := fun W => RFine_any (y : Int) W
      rw [hf] at hRF
      have HF := hid hRF
      have HP := hid (fun W => RPut_any (y : Int) hf W)
      have hwd := enc_width hf
      have HWD := hid hwd
      by_cases hwn : width y = 1
      · have hres := chk_fine hf hwn
        have HRES := hid hres
        have HWN := hid hwn
        clear hRF hf hwd hres hwn
        go_wp2_with (first
          | (go_at_call 70; refine (HF.out _).mono ?_; rintro e w' ⟨rfl, rfl⟩)
          | (go_at_call 81; go_must (refine (HP.out _).mono ?_; rintro e w' ⟨v2, rfl, hb2, hbel⟩; have hl2 := fun W => hb2.len (P := Tryd.prog) 44 3 5 underB W; rw [HWD.out, HWN.out] at hl2; clear hb2)))
        go_ret2
        exact ⟨by rw [HR.out, HRES.out]; rfl, hbel⟩
      · have hres := chk_not (c := y) (k := 1) (fun e => hwn e.2)
        have HRES := hid hres
        have hwb : ((width y : Int) == 1) = false := by rw [beq_eq_false_iff_ne]; omega
        have hwb2 : ((width y : Int) != 1) = true := by rw [bne_iff_ne]; omega
        clear hRF hf hwd hres hwn
        go_wp2_with (first
          | (go_at_call 70; refine (HF.out _).mono ?_; rintro e w' ⟨rfl, rfl⟩)
          | (go_at_call 81; go_must (refine (HP.out _).mono ?_; rintro e w' ⟨v2, rfl, hb2, hbel⟩; have hl2 := fun W => hb2.len (P := Tryd.prog) 44 3 5 underB W; rw [HWD.out] at hl2; clear hb2)))
        go_ret2
        exact ⟨by rw [HR.out, HRES.out]; rfl, hbel⟩
    · have hRF := fun W => RFine_any (y : Int) W
      have hff : fine (y : Int) = false := by simpa using hf
      rw [hff] at hRF
      have HF := hid hRF
      have hres := chk_not (c := y) (k := 1) (fun e => hf e.1)
      have HRES := hid hres
      clear hRF hf hff hres
      go_wp2_with (go_at_call 70; refine (HF.out _).mono ?_; rintro e w' ⟨rfl, rfl⟩)
      go_ret2
      exact ⟨by rw [HR.out, HRES.out]; rfl, Below.refl _ _⟩

set_option maxHeartbeats 2000000 in
theorem RRune_2 (v : Value) (l : List UInt8) (w : World) (hv : Bytes w v l) (hx : 192 ≤ nth l 0 ∧ nth l 0 < 224) :
    Calls Tryd.prog 69 #[v] w fun e w' => e = .returned (pairV (rune l)) ∧ Below w.heap.size w w' := by
  have hlen := fun W => hv.len (P := Tryd.prog) 44 3 5 underB W
  have hB := big2 l hx
  have hn : 0 < l.length := by
    rcases Nat.eq_zero_or_pos l.length with e | e
    · have : l = [] := List.eq_nil_of_length_eq_zero e
      subst this; simp [nth] at hx
    · exact e
  obtain ⟨b, o, ha, hc⟩ := hv.atI 0 (by omega) (by omega) 44 5 underB size8
  rw [show (0 : Int).toNat = 0 from rfl] at hc
  have hle := hv.le
  have hxx1 : ((l.length : Int) == 0) = false := by rw [beq_eq_false_iff_ne]; omega
  by_cases hs : l.length < 2
  · have hr := hB.short hs
    have HR := hid hr
    clear hr hB hv
    generalize nth l 0 = x at *
    go_enter Tryd.func69, Tryd.ntmps69
    go_wp2_with fail
    go_ret2
    exact ⟨by rw [HR.out]; rfl, Below.refl _ _⟩
  · obtain ⟨v', a1, _, _, hv'⟩ := hv.subI 1 2 (by omega) (by omega) (by omega) 44 5 underB size8
    have hlo := low_any v' _ w hv' (by simp; omega)
    rw [show (1 : Int).toNat = 1 from rfl, show (2 - 1 : Int).toNat = 2 - 1 from rfl] at hlo
    have hw := hB.wrong (by omega)
    have hri := hB.right (by omega)
    have hbd := lowV_lt ((l.drop 1).take (2 - 1)) (by simp; omega)
    clear hB hv hv'
    generalize lowV 0 ((l.drop 1).take (2 - 1)) = r at *
    have HLo := hid hlo
    generalize nth l 0 = x at *
    by_cases hr0 : r < 0
    · have hr := hw hr0
      have HR := hid hr
      clear hlo hw hri hr hbd
      go_enter Tryd.func69, Tryd.ntmps69
      go_wp2_with (go_at_call 80; refine HLo.out.mono ?_; rintro e w' ⟨rfl, rfl⟩)
      go_ret2
      exact ⟨by rw [HR.out]; rfl, Below.refl _ _⟩
    · obtain ⟨y, hy, hr⟩ := hri (by omega)
      obtain ⟨z, rfl⟩ : ∃ z, x = 192 + z := ⟨x - 192, by omega⟩
      rw [Nat.add_sub_cancel_left] at hy
      have HR := hid hr
      have HY := hid hy
      have hz : (z : Int) < 32 := by omega
      have hcb : (((192 + z : Nat)) : Int) = 192 + (z : Int) := by omega
      rw [hcb] at hc
      clear hlo hw hri hr hcb hy
      go_enter Tryd.func69, Tryd.ntmps69
      go_wp2_with (go_at_call 80; refine HLo.out.mono ?_; rintro e w' ⟨rfl, rfl⟩)
      go_loop [6, 8] (fun t i => ∃ (k : Nat) (m : Int), i = .int .i64 k ∧ t = .int .i64 m ∧ TopRel 2 k z m) (fun _ i => 2 - (intOf i).toNat)
      case atStart => exact ⟨1, z, rfl, by first | rfl | (simp; omega), by unfold TopRel; omega⟩
      case round =>
        obtain ⟨k, m, rfl, rfl, ht⟩ := hrel
        have HT := hid ht
        have hk1 := ht.1
        have hk2 := ht.2.1
        have hm0 := ht.2.2.1
        have hm1 : m < 8126464 := by unfold TopRel at ht; omega
        by_cases hlt : k < 2
        · clear ht
          go_wp2
          go_round
          case rel => exact ⟨k + 1, _, by go_num, rfl, by have := HT.out; unfold TopRel at *; omega⟩
          case measure => simp [intOf]; omega
        · have hmy : m + r = y := by
            have := HY.out
            unfold TopRel at ht
            omega
          have HM := hid hmy
          clear ht
          by_cases hf : fine (y : Int) = true
          · have hRF := fun W => RFine_any (y : Int) W
            rw [hf] at hRF
            have HF := hid hRF
            have HP := hid (fun W => RPut_any (y : Int) hf W)
            have hwd := enc_width hf
            have HWD := hid hwd
            by_cases hwn : width y = 2
            · have hres := chk_fine hf hwn
              have HRES := hid hres
              have HWN := hid hwn
              clear hRF hf hwd hres hwn
              go_wp2_with (first
                | (go_at_call 70; refine (HF.out _).mono ?_; rintro e w' ⟨rfl, rfl⟩)
                | (go_at_call 81; go_must (refine (HP.out _).mono ?_; rintro e w' ⟨v2, rfl, hb2, hbel⟩; have hl2 := fun W => hb2.len (P := Tryd.prog) 44 3 5 underB W; rw [HWD.out, HWN.out] at hl2; clear hb2)))
              go_ret2
              exact ⟨by rw [HR.out, HRES.out]; rfl, hbel⟩
            · have hres := chk_not (c := y) (k := 2) (fun e => hwn e.2)
              have HRES := hid hres
              have hwb : ((width y : Int) == 2) = false := by rw [beq_eq_false_iff_ne]; omega
              have hwb2 : ((width y : Int) != 2) = true := by rw [bne_iff_ne]; omega
              clear hRF hf hwd hres hwn
              go_wp2_with (first
                | (go_at_call 70; refine (HF.out _).mono ?_; rintro e w' ⟨rfl, rfl⟩)
                | (go_at_call 81; go_must (refine (HP.out _).mono ?_; rintro e w' ⟨v2, rfl, hb2, hbel⟩; have hl2 := fun W => hb2.len (P := Tryd.prog) 44 3 5 underB W; rw [HWD.out] at hl2; clear hb2)))
              go_ret2
              exact ⟨by rw [HR.out, HRES.out]; rfl, hbel⟩
          · have hRF := fun W => RFine_any (y : Int) W
            have hff : fine (y : Int) = false := by simpa using hf
            rw [hff] at hRF
            have HF := hid hRF
            have hres := chk_not (c := y) (k := 2) (fun e => hf e.1)
            have HRES := hid hres
            clear hRF hf hff hres
            go_wp2_with (go_at_call 70; refine (HF.out _).mono ?_; rintro e w' ⟨rfl, rfl⟩)
            go_ret2
            exact ⟨by rw [HR.out, HRES.out]; rfl, Below.refl _ _⟩

set_option maxHeartbeats 2000000 in
theorem RRune_3 (v : Value) (l : List UInt8) (w : World) (hv : Bytes w v l) (hx : 224 ≤ nth l 0 ∧ nth l 0 < 240) :
    Calls Tryd.prog 69 #[v] w fun e w' => e = .returned (pairV (rune l)) ∧ Below w.heap.size w w' := by
  have hlen := fun W => hv.len (P := Tryd.prog) 44 3 5 underB W
  have hB := big3 l hx
  have hn : 0 < l.length := by
    rcases Nat.eq_zero_or_pos l.length with e | e
    · have : l = [] := List.eq_nil_of_length_eq_zero e
      subst this; simp [nth] at hx
    · exact e
  obtain ⟨b, o, ha, hc⟩ := hv.atI 0 (by omega) (by omega) 44 5 underB size8
  rw [show (0 : Int).toNat = 0 from rfl] at hc
  have hle := hv.le
  have hxx1 : ((l.length : Int) == 0) = false := by rw [beq_eq_false_iff_ne]; omega
  by_cases hs : l.length < 3
  · have hr := hB.short hs
    have HR := hid hr
    clear hr hB hv
    generalize nth l 0 = x at *
    go_enter Tryd.func69, Tryd.ntmps69
    go_wp2_with fail
    go_ret2
    exact ⟨by rw [HR.out]; rfl, Below.refl _ _⟩
  · obtain ⟨v', a1, _, _, hv'⟩ := hv.subI 1 3 (by omega) (by omega) (by omega) 44 5 underB size8
    have hlo := low_any v' _ w hv' (by simp; omega)
    rw [show (1 : Int).toNat = 1 from rfl, show (3 - 1 : Int).toNat = 3 - 1 from rfl] at hlo
    have hw := hB.wrong (by omega)
    have hri := hB.right (by omega)
    have hbd := lowV_lt ((l.drop 1).take (3 - 1)) (by simp; omega)
    clear hB hv hv'
    generalize lowV 0 ((l.drop 1).take (3 - 1)) = r at *
    have HLo := hid hlo
    generalize nth l 0 = x at *
    by_cases hr0 : r < 0
    · have hr := hw hr0
      have HR := hid hr
      clear hlo hw hri hr hbd
      go_enter Tryd.func69, Tryd.ntmps69
      go_wp2_with (go_at_call 80; refine HLo.out.mono ?_; rintro e w' ⟨rfl, rfl⟩)
      go_ret2
      exact ⟨by rw [HR.out]; rfl, Below.refl _ _⟩
    · obtain ⟨y, hy, hr⟩ := hri (by omega)
      obtain ⟨z, rfl⟩ : ∃ z, x = 224 + z := ⟨x - 224, by omega⟩
      rw [Nat.add_sub_cancel_left] at hy
      have HR := hid hr
      have HY := hid hy
      have hz : (z : Int) < 16 := by omega
      have hcb : (((224 + z : Nat)) : Int) = 224 + (z : Int) := by omega
      rw [hcb] at hc
      clear hlo hw hri hr hcb hy
      go_enter Tryd.func69, Tryd.ntmps69
      go_wp2_with (go_at_call 80; refine HLo.out.mono ?_; rintro e w' ⟨rfl, rfl⟩)
      go_loop [6, 8] (fun t i => ∃ (k : Nat) (m : Int), i = .int .i64 k ∧ t = .int .i64 m ∧ TopRel 3 k z m) (fun _ i => 3 - (intOf i).toNat)
      case atStart => exact ⟨1, z, rfl, by first | rfl | (simp; omega), by unfold TopRel; omega⟩
      case round =>
        obtain ⟨k, m, rfl, rfl, ht⟩ := hrel
        have HT := hid ht
        have hk1 := ht.1
        have hk2 := ht.2.1
        have hm0 := ht.2.2.1
        have hm1 : m < 8126464 := by unfold TopRel at ht; omega
        by_cases hlt : k < 3
        · clear ht
          go_wp2
          go_round
          case rel => exact ⟨k + 1, _, by go_num, rfl, by have := HT.out; unfold TopRel at *; omega⟩
          case measure => simp [intOf]; omega
        · have hmy : m + r = y := by
            have := HY.out
            unfold TopRel at ht
            omega
          have HM := hid hmy
          clear ht
          by_cases hf : fine (y : Int) = true
          · have hRF := fun W => RFine_any (y : Int) W
            rw [hf] at hRF
            have HF := hid hRF
            have HP := hid (fun W => RPut_any (y : Int) hf W)
            have hwd := enc_width hf
            have HWD := hid hwd
            by_cases hwn : width y = 3
            · have hres := chk_fine hf hwn
              have HRES := hid hres
              have HWN := hid hwn
              clear hRF hf hwd hres hwn
              go_wp2_with (first
                | (go_at_call 70; refine (HF.out _).mono ?_; rintro e w' ⟨rfl, rfl⟩)
                | (go_at_call 81; go_must (refine (HP.out _).mono ?_; rintro e w' ⟨v2, rfl, hb2, hbel⟩; have hl2 := fun W => hb2.len (P := Tryd.prog) 44 3 5 underB W; rw [HWD.out, HWN.out] at hl2; clear hb2)))
              go_ret2
              exact ⟨by rw [HR.out, HRES.out]; rfl, hbel⟩
            · have hres := chk_not (c := y) (k := 3) (fun e => hwn e.2)
              have HRES := hid hres
              have hwb : ((width y : Int) == 3) = false := by rw [beq_eq_false_iff_ne]; omega
              have hwb2 : ((width y : Int) != 3) = true := by rw [bne_iff_ne]; omega
              clear hRF hf hwd hres hwn
              go_wp2_with (first
                | (go_at_call 70; refine (HF.out _).mono ?_; rintro e w' ⟨rfl, rfl⟩)
                | (go_at_call 81; go_must (refine (HP.out _).mono ?_; rintro e w' ⟨v2, rfl, hb2, hbel⟩; have hl2 := fun W => hb2.len (P := Tryd.prog) 44 3 5 underB W; rw [HWD.out] at hl2; clear hb2)))
              go_ret2
              exact ⟨by rw [HR.out, HRES.out]; rfl, hbel⟩
          · have hRF := fun W => RFine_any (y : Int) W
            have hff : fine (y : Int) = false := by simpa using hf
            rw [hff] at hRF
            have HF := hid hRF
            have hres := chk_not (c := y) (k := 3) (fun e => hf e.1)
            have HRES := hid hres
            clear hRF hf hff hres
            go_wp2_with (go_at_call 70; refine (HF.out _).mono ?_; rintro e w' ⟨rfl, rfl⟩)
            go_ret2
            exact ⟨by rw [HR.out, HRES.out]; rfl, Below.refl _ _⟩

set_option maxHeartbeats 2000000 in
theorem RRune_4 (v : Value) (l : List UInt8) (w : World) (hv : Bytes w v l) (hx : 240 ≤ nth l 0 ∧ nth l 0 < 248) :
    Calls Tryd.prog 69 #[v] w fun e w' => e = .returned (pairV (rune l)) ∧ Below w.heap.size w w' := by
  have hlen := fun W => hv.len (P := Tryd.prog) 44 3 5 underB W
  have hB := big4 l hx
  have hn : 0 < l.length := by
    rcases Nat.eq_zero_or_pos l.length with e | e
    · have : l = [] := List.eq_nil_of_length_eq_zero e
      subst this; simp [nth] at hx
    · exact e
  obtain ⟨b, o, ha, hc⟩ := hv.atI 0 (by omega) (by omega) 44 5 underB size8
  rw [show (0 : Int).toNat = 0 from rfl] at hc
  have hle := hv.le
  have hxx1 : ((l.length : Int) == 0) = false := by rw [beq_eq_false_iff_ne]; omega
  by_cases hs : l.length < 4
  · have hr := hB.short hs
    have HR := hid hr
    clear hr hB hv
    generalize nth l 0 = x at *
    go_enter Tryd.func69, Tryd.ntmps69
    go_wp2_with fail
    go_ret2
    exact ⟨by rw [HR.out]; rfl, Below.refl _ _⟩
  · obtain ⟨v', a1, _, _, hv'⟩ := hv.subI 1 4 (by omega) (by omega) (by omega) 44 5 underB size8
    have hlo := low_any v' _ w hv' (by simp; omega)
    rw [show (1 : Int).toNat = 1 from rfl, show (4 - 1 : Int).toNat = 4 - 1 from rfl] at hlo
    have hw := hB.wrong (by omega)
    have hri := hB.right (by omega)
    have hbd := lowV_lt ((l.drop 1).take (4 - 1)) (by simp; omega)
    clear hB hv hv'
    generalize lowV 0 ((l.drop 1).take (4 - 1)) = r at *
    have HLo := hid hlo
    generalize nth l 0 = x at *
    by_cases hr0 : r < 0
    · have hr := hw hr0
      have HR := hid hr
      clear hlo hw hri hr hbd
      go_enter Tryd.func69, Tryd.ntmps69
      go_wp2_with (go_at_call 80; refine HLo.out.mono ?_; rintro e w' ⟨rfl, rfl⟩)
      go_ret2
      exact ⟨by rw [HR.out]; rfl, Below.refl _ _⟩
    · obtain ⟨y, hy, hr⟩ := hri (by omega)
      obtain ⟨z, rfl⟩ : ∃ z, x = 240 + z := ⟨x - 240, by omega⟩
      rw [Nat.add_sub_cancel_left] at hy
      have HR := hid hr
      have HY := hid hy
      have hz : (z : Int) < 8 := by omega
      have hcb : (((240 + z : Nat)) : Int) = 240 + (z : Int) := by omega
      rw [hcb] at hc
      clear hlo hw hri hr hcb hy
      go_enter Tryd.func69, Tryd.ntmps69
      go_wp2_with (go_at_call 80; refine HLo.out.mono ?_; rintro e w' ⟨rfl, rfl⟩)
      go_loop [6, 8] (fun t i => ∃ (k : Nat) (m : Int), i = .int .i64 k ∧ t = .int .i64 m ∧ TopRel 4 k z m) (fun _ i => 4 - (intOf i).toNat)
      case atStart => exact ⟨1, z, rfl, by first | rfl | (simp; omega), by unfold TopRel; omega⟩
      case round =>
        obtain ⟨k, m, rfl, rfl, ht⟩ := hrel
        have HT := hid ht
        have hk1 := ht.1
        have hk2 := ht.2.1
        have hm0 := ht.2.2.1
        have hm1 : m < 8126464 := by unfold TopRel at ht; omega
        by_cases hlt : k < 4
        · clear ht
          go_wp2
          go_round
          case rel => exact ⟨k + 1, _, by go_num, rfl, by have := HT.out; unfold TopRel at *; omega⟩
          case measure => simp [intOf]; omega
        · have hmy : m + r = y := by
            have := HY.out
            unfold TopRel at ht
            unfold k18 at this; omega
          have HM := hid hmy
          clear ht
          by_cases hf : fine (y : Int) = true
          · have hRF := fun W => RFine_any (y : Int) W
            rw [hf] at hRF
            have HF := hid hRF
            have HP := hid (fun W => RPut_any (y : Int) hf W)
            have hwd := enc_width hf
            have HWD := hid hwd
            by_cases hwn : width y = 4
            · have hres := chk_fine hf hwn
              have HRES := hid hres
              have HWN := hid hwn
              clear hRF hf hwd hres hwn
              go_wp2_with (first
                | (go_at_call 70; refine (HF.out _).mono ?_; rintro e w' ⟨rfl, rfl⟩)
                | (go_at_call 81; go_must (refine (HP.out _).mono ?_; rintro e w' ⟨v2, rfl, hb2, hbel⟩; have hl2 := fun W => hb2.len (P := Tryd.prog) 44 3 5 underB W; rw [HWD.out, HWN.out] at hl2; clear hb2)))
              go_ret2
              exact ⟨by rw [HR.out, HRES.out]; rfl, hbel⟩
            · have hres := chk_not (c := y) (k := 4) (fun e => hwn e.2)
              have HRES := hid hres
              have hwb : ((width y : Int) == 4) = false := by rw [beq_eq_false_iff_ne]; omega
              have hwb2 : ((width y : Int) != 4) = true := by rw [bne_iff_ne]; omega
              clear hRF hf hwd hres hwn
              go_wp2_with (first
                | (go_at_call 70; refine (HF.out _).mono ?_; rintro e w' ⟨rfl, rfl⟩)
                | (go_at_call 81; go_must (refine (HP.out _).mono ?_; rintro e w' ⟨v2, rfl, hb2, hbel⟩; have hl2 := fun W => hb2.len (P := Tryd.prog) 44 3 5 underB W; rw [HWD.out] at hl2; clear hb2)))
              go_ret2
              exact ⟨by rw [HR.out, HRES.out]; rfl, hbel⟩
          · have hRF := fun W => RFine_any (y : Int) W
            have hff : fine (y : Int) = false := by simpa using hf
            rw [hff] at hRF
            have HF := hid hRF
            have hres := chk_not (c := y) (k := 4) (fun e => hf e.1)
            have HRES := hid hres
            clear hRF hf hff hres
            go_wp2_with (go_at_call 70; refine (HF.out _).mono ?_; rintro e w' ⟨rfl, rfl⟩)
            go_ret2
            exact ⟨by rw [HR.out, HRES.out]; rfl, Below.refl _ _⟩

theorem RRune_bad (v : Value) (l : List UInt8) (w : World) (hv : Bytes w v l) (hn : 0 < l.length) (hx : (128 ≤ nth l 0 ∧ nth l 0 < 192) ∨ 248 ≤ nth l 0) :
    Calls Tryd.prog 69 #[v] w fun e w' => e = .returned (pairV (rune l)) ∧ Below w.heap.size w w' := by
  have hlen := fun W => hv.len (P := Tryd.prog) 44 3 5 underB W
  have hr : rune l = (0, 0) := by
    unfold rune runeN; rw [if_neg (by omega), if_neg (by omega)]
    rcases hx with h | h
    · rw [if_pos (by omega)]
    · rw [if_neg (by omega), if_neg (by omega), if_neg (by omega), if_neg (by omega)]
  obtain ⟨b, o, ha, hc⟩ := hv.atI 0 (by omega) (by omega) 44 5 underB size8
  rw [show (0 : Int).toNat = 0 from rfl] at hc
  have hxx1 : ((l.length : Int) == 0) = false := by rw [beq_eq_false_iff_ne]; omega
  have HR := hid hr
  have hx8 := nth_lt l 0
  clear hr hv
  generalize nth l 0 = x at *
  rcases hx with h | h
  · go_enter Tryd.func69, Tryd.ntmps69
    go_wp2_with fail
    go_ret2
    exact ⟨by rw [HR.out]; rfl, Below.refl _ _⟩
  · go_enter Tryd.func69, Tryd.ntmps69
    go_wp2_with fail
    go_ret2
    exact ⟨by rw [HR.out]; rfl, Below.refl _ _⟩

/-- The document's answer: the character that bytes begin with. -/
theorem RRune_any (v : Value) (l : List UInt8) (w : World) (hv : Bytes w v l) :
    Calls Tryd.prog 69 #[v] w fun e w' => e = .returned (pairV (rune l)) ∧ Below w.heap.size w w' := by
  rcases Nat.eq_zero_or_pos l.length with e | e
  · have : l = [] := List.eq_nil_of_length_eq_zero e
    subst this; exact RRune_none v w hv
  · rcases (by omega : nth l 0 < 128 ∨ (128 ≤ nth l 0 ∧ nth l 0 < 192) ∨ (192 ≤ nth l 0 ∧ nth l 0 < 224) ∨ (224 ≤ nth l 0 ∧ nth l 0 < 240) ∨ (240 ≤ nth l 0 ∧ nth l 0 < 248) ∨ 248 ≤ nth l 0) with h | h | h | h | h | h
    · exact RRune_low v l w hv e h
    · exact RRune_bad v l w hv e (.inl h)
    · exact RRune_2 v l w hv h
    · exact RRune_3 v l w hv h
    · exact RRune_4 v l w hv h
    · exact RRune_bad v l w hv e (.inr h)

end Go.Proofs.YthggoohchjifnaaDoor.Utf
