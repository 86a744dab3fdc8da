/- Layer 3: the statement's own digits. -/
import Derived.Test.YtabplemabcahgaaDoorEntM
import Derived.IntWalk
set_option linter.unusedVariables false
set_option linter.unusedSimpArgs false
namespace Go.Proofs.YtabplemabcahgaaDoor.Ent
open Go Go.Proofs.YtabplemabcahgaaDoor Go.Proofs.YtabplemabcahgaaDoor.Utf Go.Proofs.YtabplemabcahgaaDoor.Names Go.RowKit
set_option maxRecDepth 100000

/-- The digits that are still to be laid. -/
def full (base : Nat) (all : List UInt8) (n : Nat) : List UInt8 := if n = 0 then [] else num base all n
theorem num_full {base : Nat} (hb : 2 ≤ base) (all : List UInt8) (n : Nat) : num base all n = full base all (n / base) ++ [all.getD (n % base) 0] := by
  unfold full
  by_cases h : n < base
  · rw [num_small h, Nat.div_eq_of_lt h, Nat.mod_eq_of_lt h]; rfl
  · have : 0 < n / base := Nat.div_pos (by omega) (by omega)
    rw [if_neg (by omega), num_step hb h]
/-- Some digits are laid. -/
def Dig (base : Nat) (all : List UInt8) (c n : Nat) (s : List UInt8) : Prop := (s = [] ∧ n = c) ∨ (s ≠ [] ∧ full base all n ++ s = num base all c)
theorem Dig.next {base : Nat} (hb : 2 ≤ base) {all : List UInt8} {c n : Nat} {s : List UInt8} (h : Dig base all c n s) (hn : 0 < n ∨ s = []) : Dig base all c (n / base) (all.getD (n % base) 0 :: s) := by
  have e := num_full hb all n
  rcases h with ⟨rfl, rfl⟩ | ⟨h1, h2⟩
  · exact .inr ⟨by simp, e.symm⟩
  · have h0 : 0 < n := hn.elim id (fun x => absurd x h1)
    refine .inr ⟨by simp, ?_⟩
    rw [← h2]
    conv => rhs; unfold full; rw [if_neg (by omega), e]
    simp
theorem Dig.done {base : Nat} {all : List UInt8} {c n : Nat} {s : List UInt8} (h : Dig base all c n s) (h0 : n = 0) (h1 : s ≠ []) : s = num base all c := by
  rcases h with ⟨x, _⟩ | ⟨_, h2⟩
  · exact absurd x h1
  · subst h0; simpa [full] using h2
theorem Dig.len {base : Nat} {all : List UInt8} {c n : Nat} {s : List UInt8} (h : Dig base all c n s) : s.length ≤ (num base all c).length := by
  rcases h with ⟨rfl, _⟩ | ⟨_, h2⟩
  · simp
  · rw [← h2, List.length_append]; omega

set_option maxHeartbeats 2000000 in
theorem digits_any (c base : Nat) (all : List UInt8) (hc : c < 2097152) (h2 : 2 ≤ base) (h16 : base ≤ 16) (hal : base ≤ all.length) (ha : Row10 base all) (hal2 : all.length ≤ 100) (w : World) :
    Calls Tryd.prog 17 #[.int .i64 c, .int .i64 base, .string (text all)] w fun e w' => e = .returned (.string (text (num base all c))) ∧ Below w.heap.size w w' := by
  have mixed : Tryd.prog.follows Departure.mixedOrders = true := by kernel_rfl
  have s1 : (text all).size = all.length := text_size all
  have hnl : (num base all c).length ≤ 21 := (num_facts h2 ha c).2.2.2 21 (Nat.lt_of_lt_of_le hc (by have : 2 ^ 21 ≤ base ^ 21 := Nat.pow_le_pow_left h2 21; omega)) (by omega)
  go_enter Tryd.func17, Tryd.ntmps17
  go_wp2_with fail
  go_loopw [0, 7] (fun x t wr => ∃ (n : Nat) (s : List UInt8), n ≤ c ∧ x = .int .i64 n ∧ t = .string (text s) ∧ Dig base all c n s ∧ Below w.heap.size w wr) (fun x t _ => (intOf x).toNat + (match t with | .string s => if s.size = 0 then 1 else 0 | _ => 0))
  case atStart => exact ⟨c, [], Nat.le_refl _, rfl, rfl, .inl ⟨rfl, rfl⟩, b0 _⟩
  case round =>
    obtain ⟨n, s, hnc, rfl, rfl, hD, hbl⟩ := hrel
    have hDl := hD.len
    have s2 : (text s).size = s.length := text_size s
    have HD := hid hD
    have HB := hid hbl
    clear hD hbl
    by_cases hgo : 0 < n ∨ s = []
    · have hml : n % base < all.length := Nat.lt_of_lt_of_le (Nat.mod_lt _ (by omega)) hal
      have hnx := HD.out.next h2 hgo
      have hone : (text all).extract (n % base) (n % base + 1) = text [all.getD (n % base) 0] := by
        rw [text_one all _ hml, List.getD_eq_getElem?_getD, List.getElem?_eq_getElem hml]; rfl
      have hadd : text [all.getD (n % base) 0] ++ text s = text (all.getD (n % base) 0 :: s) := text_append _ _
      have hmod : (n : Int) % (base : Int) = ((n % base : Nat) : Int) := by omega
      have hdiv : (n : Int) / (base : Int) = ((n / base : Nat) : Int) := by omega
      have hdl : n / base ≤ n := Nat.div_le_self _ _
      have hdl2 : 0 < n → n / base < n := fun h => Nat.div_lt_self h h2
      have hadz : (text [all.getD (n % base) 0]).size + (text s).size ≤ 9223372036854775807 := by rw [text_size, text_size]; simp; omega
      generalize all.getD (n % base) 0 = d at *
      generalize n % base = m at *
      generalize n / base = q at *
      have HNX := hid hnx
      have HG := hid hgo
      have hw1 : IntKind.i64.wrap ((m : Int) + 1) = (m : Int) + 1 := IntWalk.i64_in _ (by omega)
      clear hnx hgo
      have hbz : ((base : Int) == 0) = false := by rw [beq_eq_false_iff_ne]; omega
      have hb0 : (0 : Int) < (base : Int) := by omega
      by_cases hs : s = []
      · have q0 := list_yes hs
        have hsz0 : s.length = 0 := by rw [hs]; rfl
        have HSZ := hid hsz0
        clear hs hsz0
        by_cases h0 : 0 < n
        · have h0' : (0 : Int) < (n : Int) := by omega
          go_wp2_with fail
          go_region_o
          all_goals
            go_wp2_with fail
            go_roundw
            case rel => exact ⟨q, d :: s, by omega, rfl, rfl, HNX.out, by first | exact HB.out | exact HB.out.drew⟩
            case measure =>
              have := HSZ.out
              simp [intOf, text_size]
              omega
        · obtain rfl : n = 0 := by omega
          have hm0 : m = 0 := by have := hmod; simp at this; omega
          have hq0 : q = 0 := by omega
          subst hm0
          subst hq0
          have hone' : (text all).extract 0 1 = text [d] := hone
          clear h0 hone hmod hdiv hdl2 hw1
          go_wp2_with fail
          go_region_o
          all_goals
            go_wp2_with fail
            go_roundw
            case rel => exact ⟨0, d :: s, by omega, rfl, rfl, HNX.out, by first | exact HB.out | exact HB.out.drew⟩
            case measure =>
              have e0 : s = [] := List.eq_nil_of_length_eq_zero HSZ.out
              subst e0
              simp [intOf, text_size]
      · have q0 := list_no hs
        have h0 : 0 < n := HG.out.elim id (fun x => absurd x hs)
        have h0' : (0 : Int) < (n : Int) := by omega
        clear hs
        go_wp2_with fail
        go_region_o
        all_goals
          go_wp2_with fail
          go_roundw
          case rel => exact ⟨q, d :: s, by omega, rfl, rfl, HNX.out, by first | exact HB.out | exact HB.out.drew⟩
          case measure => simp [intOf, text_size]; omega
    · have hn0 : n = 0 := by omega
      have hs0 : s ≠ [] := fun e => hgo (.inr e)
      have q0 := list_no hs0
      have hd := HD.out.done hn0 hs0
      have HX := hid hd
      have h0' : ¬ (0 : Int) < (n : Int) := by omega
      clear hn0 hs0 hgo hd
      go_wp2
      go_ret
      exact ⟨by rw [HX.out]; rfl, HB.out⟩
end Go.Proofs.YtabplemabcahgaaDoor.Ent
