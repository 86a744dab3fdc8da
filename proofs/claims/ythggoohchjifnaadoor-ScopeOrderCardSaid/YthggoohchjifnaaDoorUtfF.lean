/- Layer 1: contracts of the document's own answers: low, Rune, Check. -/
import Derived.Test.YthggoohchjifnaaDoorUtfE
set_option linter.unusedVariables false
set_option linter.unusedSimpArgs false
namespace Go.Proofs.YthggoohchjifnaaDoor.Utf
open Go Go.Proofs.YthggoohchjifnaaDoor Go.RowKit

/-- The lower six bits of bytes, together; -1: one of them isn't from 128 to 191. -/
def lowV : Int → List UInt8 → Int
  | n, [] => n
  | n, b :: r => if b.toNat / 64 = 2 then lowV (64 * n + (b.toNat - 128)) r else -1
theorem lowV_at (n : Int) (l : List UInt8) (k : Nat) (hk : k < l.length) : lowV n (l.drop k) = if l[k].toNat / 64 = 2 then lowV (64 * n + (l[k].toNat - 128)) (l.drop (k + 1)) else -1 := by
  rw [List.drop_eq_getElem_cons hk, lowV]

def LowRel (l : List UInt8) (k : Nat) (m : Int) : Prop := k ≤ l.length ∧ lowV m (l.drop k) = lowV 0 l ∧ 0 ≤ m ∧ (k = 0 → m = 0) ∧ (k = 1 → m < 64) ∧ (k = 2 → m < 4096) ∧ (k = 3 → m < 262144)

set_option maxHeartbeats 1000000 in
theorem low_any (v : Value) (l : List UInt8) (w : World) (hv : Bytes w v l) (hl : l.length ≤ 3) :
    Calls Tryd.prog 80 #[v] w fun e w' => e = .returned (.int .i64 (lowV 0 l)) ∧ w = w' := by
  have hlen := fun W => hv.len (P := Tryd.prog) 44 3 5 underB W
  go_enter Tryd.func80, Tryd.ntmps80
  go_wp2_with fail
  go_loop [3, 4] (fun n i => ∃ (k : Nat) (m : Int), i = .int .i64 k ∧ n = .int .i64 m ∧ LowRel l k m) (fun _ i => l.length - (intOf i).toNat)
  case atStart => exact ⟨0, 0, rfl, rfl, by unfold LowRel; simp⟩
  case round =>
    obtain ⟨k, m, rfl, rfl, hr⟩ := hrel
    have hk := hr.1
    have hm0 := hr.2.2.1
    have hm1 : m < 262144 := by
      obtain ⟨h1, h2, h3, h4, h5, h6, h7⟩ := hr
      rcases (by omega : k = 0 ∨ k = 1 ∨ k = 2 ∨ k = 3) with e | e | e | e
      · have := h4 e; omega
      · have := h5 e; omega
      · have := h6 e; omega
      · have := h7 e; omega
    have HR := hid hr
    clear hr
    by_cases hlt : k < l.length
    · obtain ⟨b, o, ha, hc⟩ := hv.at k hlt 44 5 underB size8
      have hla := lowV_at m l k hlt
      have hb8 := UInt8.toNat_lt l[k]
      obtain ⟨x, hx⟩ : ∃ x, l[k].toNat = x := ⟨_, rfl⟩
      rw [hx] at hc hla hb8
      have HL := hid hla
      clear hx hla hv
      by_cases hb : x / 64 = 2
      · have t1 : ¬ ((x : Int) < 128) := by omega
        have t2 : ¬ ((191 : Int) < x) := by omega
        go_wp2
        go_round
        case rel =>
          refine ⟨k + 1, _, by go_num, rfl, ?_⟩
          obtain ⟨h1, h2, h3, h4, h5, h6, h7⟩ := HR.out
          have h8 := HL.out
          rw [if_pos hb] at h8
          refine ⟨by omega, ?_, by omega, by omega, fun e => ?_, fun e => ?_, fun e => ?_⟩
          · rw [← h2, h8]
            congr 1
            omega
          · have := h4 (by omega); omega
          · have := h5 (by omega); omega
          · have := h6 (by omega); omega
        case measure => simp [intOf]; omega
      · have t1 : (x : Int) < 128 ∨ (191 : Int) < x := by omega
        rcases t1 with t1 | t1
        · go_wp2
          go_ret
          have h8 := HL.out
          rw [if_neg hb, HR.out.2.1] at h8
          exact ⟨by rw [h8]; rfl, rfl⟩
        · have t2 : ¬ ((x : Int) < 128) := by omega
          go_wp2
          go_ret
          have h8 := HL.out
          rw [if_neg hb, HR.out.2.1] at h8
          exact ⟨by rw [h8]; rfl, rfl⟩
    · go_wp2
      go_ret
      have h8 := HR.out.2.1
      rw [List.drop_of_length_le (by omega), lowV] at h8
      exact ⟨by rw [← h8]; rfl, rfl⟩

end Go.Proofs.YthggoohchjifnaaDoor.Utf
