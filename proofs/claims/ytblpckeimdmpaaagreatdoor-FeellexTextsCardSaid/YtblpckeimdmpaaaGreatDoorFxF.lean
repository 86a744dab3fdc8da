/- Layer 8: how many tokens a text has, where they stand, which errors there are; what Lex hands on, in cases. -/
import Derived.Test.YtblpckeimdmpaaaGreatDoorFxY
set_option linter.unusedVariables false
set_option linter.unusedSimpArgs false
namespace Go.Proofs.YtblpckeimdmpaaaGreatDoor.Fx
open Go Go.Proofs.YtblpckeimdmpaaaGreatDoor Go.Proofs.YtblpckeimdmpaaaGreatDoor.Utf Go.Proofs.YtblpckeimdmpaaaGreatDoor.Names Go.Proofs.YtblpckeimdmpaaaGreatDoor.Ent Go.Proofs.YtblpckeimdmpaaaGreatDoor.Fl Go.RowKit
set_option maxRecDepth 100000

theorem strF_len : ∀ (f : Nat) (l : List UInt8), (strF f l).1.length ≤ 4 * l.length
  | 0, _ => Nat.zero_le _
  | f + 1, [] => Nat.zero_le _
  | f + 1, b :: r => by
    unfold strF
    by_cases h1 : b = 34
    · rw [if_pos h1]; exact Nat.zero_le _
    · rw [if_neg h1]
      by_cases h2 : b = 92
      · rw [if_pos h2]
        cases he : escN r with
        | none => exact Nat.zero_le _
        | some x =>
          obtain ⟨c, k⟩ := x
          have ih := strF_len f (r.drop k)
          rw [List.length_drop] at ih
          have hc := enc_len (c : Int)
          simp only []
          unfold put
          split
          · show (enc (c : Int) ++ _).length ≤ _
            rw [List.length_append, List.length_cons]; omega
          · exact Nat.zero_le _
      · rw [if_neg h2]
        have ih := strF_len f r
        unfold put
        split
        · show ([b] ++ _).length ≤ _
          simp only [List.length_append, List.length_cons, List.length_nil]; omega
        · exact Nat.zero_le _
theorem one_kind {l : List UInt8} {k n : Nat} {s : List UInt8} (h : Fl.one l = .tok k s n) : k ≤ 4 ∧ s.length ≤ 4 * l.length := by
  unfold Fl.one at h
  split at h
  · injection h with h1 h2 _
    refine ⟨by rw [← h1]; split <;> omega, by rw [← h2, List.length_take]; omega⟩
  · split at h
    · injection h with h1 h2 _
      exact ⟨by omega, by rw [← h2, List.length_take]; omega⟩
    · split at h
      · unfold Fl.quoted at h
        split at h
        · injection h with h1 h2 _
          have := strF_len (l.drop 1).length (l.drop 1)
          rw [List.length_drop] at this
          refine ⟨by omega, ?_⟩
          rw [← h2]
          unfold str
          rw [List.length_drop]
          omega
        · cases h
      · split at h
        · cases h
        · injection h with h1 h2 _
          exact ⟨by omega, by rw [← h2, List.length_take]; omega⟩
theorem lexp_facts : ∀ (n : Nat) (l : List UInt8), l.length = n → ∀ pos, (∀ ts, lexp pos l = .ok ts → ts.length ≤ l.length + 1 ∧ (∀ t ∈ ts, t.place ≤ pos + l.length ∧ t.kind ≤ 5 ∧ t.s.length ≤ 4 * l.length) ∧ ts ≠ []) ∧ (∀ x, lexp pos l = .error x → (x.2 = 10 ∨ x.2 = 11) ∧ x.1 ≤ pos + l.length) := by
  intro n
  induction n using Nat.strongRecOn with
  | _ n ih =>
    intro l hl pos
    rcases l with _ | ⟨b, r⟩
    · rw [lexp_nil]
      refine ⟨fun ts h => ?_, fun x h => by cases h⟩
      injection h with h
      subst h
      refine ⟨by simp, fun t ht => ?_, by simp⟩
      rw [List.mem_singleton] at ht
      subst ht
      exact ⟨by simp, by simp, by simp⟩
    · simp only [List.length_cons] at hl
      cases hs : Utf.space (b.toNat : Int) with
      | true =>
        obtain ⟨i1, i2⟩ := ih r.length (by omega) r rfl (pos + 1)
        rw [lexp_space hs]
        refine ⟨fun ts h => ?_, fun x h => ?_⟩
        · obtain ⟨j1, j2, j3⟩ := i1 ts h
          refine ⟨by rw [List.length_cons]; omega, fun t ht => ?_, j3⟩
          have := j2 t ht
          rw [List.length_cons]; omega
        · have := i2 x h
          rw [List.length_cons]; omega
      | false =>
        cases ho : Fl.one (b :: r) with
        | bad p e =>
          rw [lexp_bad hs ho]
          refine ⟨fun ts h => (by cases h), fun x h => ?_⟩
          injection h with h
          subst h
          have h1 := bad_errs ho
          have h2 := bad_place ho (by simp)
          exact ⟨h1, by show pos + p ≤ _; omega⟩
        | tok k s m =>
          have hp := one_pos ho
          have hq := one_kind ho
          rw [List.length_cons] at hp
          obtain ⟨i1, i2⟩ := ih ((b :: r).drop m).length (by rw [List.length_drop, List.length_cons]; omega) ((b :: r).drop m) rfl (pos + m)
          rw [lexp_tok hs ho]
          cases hx : lexp (pos + m) ((b :: r).drop m) with
          | ok ts =>
            obtain ⟨j1, j2, j3⟩ := i1 ts hx
            refine ⟨fun ts' h => ?_, fun x h => by cases h⟩
            injection h with h
            subst h
            rw [List.length_drop, List.length_cons] at j1
            refine ⟨by rw [List.length_cons, List.length_cons]; omega, fun t ht => ?_, by simp⟩
            rcases List.mem_cons.1 ht with rfl | ht
            · exact ⟨by show pos ≤ _; omega, by show k ≤ 5; omega, by show s.length ≤ _; omega⟩
            · have := j2 t ht
              rw [List.length_drop, List.length_cons] at this
              rw [List.length_cons]; omega
          | error x =>
            refine ⟨fun ts h => (by cases h), fun x' h => ?_⟩
            injection h with h
            subst h
            have := i2 x hx
            rw [List.length_drop, List.length_cons] at this
            rw [List.length_cons]; omega
/-- A text's tokens, or that it has none. -/
def lexO (l : List UInt8) : Option (List Lx) := if check l = l.length then (match lexp 0 l with | .ok ts => some ts | .error _ => none) else none
section
variable {B : Nat} {l : List UInt8} {e : Ending} {w : World}
/-- What Lex hands on: an error, or tokens. -/
theorem GotL.ways (h : GotL B l e w) : (lexO l = none ∧ ∃ n E : Nat, e = .returned (.tuple #[.slice none 0 0, .int .i64 n, .int .i64 E]) ∧ E ≠ 0 ∧ E ≤ 11) ∨
    (∃ ts v, lexO l = some ts ∧ check l = l.length ∧ lexp 0 l = .ok ts ∧ e = .returned (.tuple #[v, .int .i64 l.length, .int .i64 0]) ∧ OwnL B w v (ts.map lz)) := by
  by_cases hc : check l = l.length
  · cases hx : lexp 0 l with
    | ok ts =>
      obtain ⟨v, h1, h2⟩ := h.ok hc hx
      exact .inr ⟨ts, v, by unfold lexO; rw [if_pos hc, hx], hc, rfl, h1, h2⟩
    | error x =>
      have h1 := h.bad hc hx
      have h2 := ((lexp_facts _ l rfl 0).2 x hx).1
      exact .inl ⟨by unfold lexO; rw [if_pos hc, hx], x.1, x.2, h1, by omega, by omega⟩
  · exact .inl ⟨by unfold lexO; rw [if_neg hc], check l, 4, h.utf hc, by omega, by omega⟩
end
end Go.Proofs.YtblpckeimdmpaaaGreatDoor.Fx
