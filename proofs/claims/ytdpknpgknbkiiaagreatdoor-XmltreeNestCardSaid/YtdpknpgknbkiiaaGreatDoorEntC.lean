/- Layer 3: contracts of the document's own answers on references: number, reference. -/
import Derived.Test.YtdpknpgknbkiiaaGreatDoorEntA
set_option linter.unusedVariables false
set_option linter.unusedSimpArgs false
namespace Go.Proofs.YtdpknpgknbkiiaaGreatDoor.Ent
open Go Go.Proofs.YtdpknpgknbkiiaaGreatDoor Go.Proofs.YtdpknpgknbkiiaaGreatDoor.Utf Go.RowKit
set_option maxRecDepth 100000

/-- The first k bytes are digits. -/
def Digs (base : Nat) (l : List UInt8) (k : Nat) : Prop := k ≤ l.length ∧ (l.take k).all (isd base) = true
theorem Digs.start (base : Nat) (l : List UInt8) : Digs base l 0 := ⟨by omega, by simp⟩
theorem Digs.next {base : Nat} {l : List UInt8} {k : Nat} (h : Digs base l k) (hk : k < l.length) (hd : isd base l[k] = true) :
    Digs base l (k + 1) ∧ val base 0 (l.take (k + 1)) = base * val base 0 (l.take k) + dv l[k].toNat := by
  have e := List.take_succ_eq_append_getElem hk
  refine ⟨⟨hk, ?_⟩, ?_⟩
  · rw [e, List.all_append, h.2]; simp [hd]
  · rw [e, val_snoc]
theorem pow16 (base k : Nat) (hb : base ≤ 16) (hk : k ≤ 7) : base ^ k ≤ 268435456 := by
  have h1 : base ^ k ≤ 16 ^ k := Nat.pow_le_pow_left hb k
  have h2 : 16 ^ k ≤ 16 ^ 7 := Nat.pow_le_pow_right (by omega) hk
  have h3 : 16 ^ 7 = 268435456 := by decide
  omega
theorem Digs.lt {base : Nat} {l : List UInt8} {k : Nat} (h : Digs base l k) (h1 : 1 ≤ base) (hb : base ≤ 16) (hk : k ≤ 7) : val base 0 (l.take k) < 268435456 := by
  have h2 := val_lt h1 (l.take k) 0 1 (by omega) (fun b hb => List.all_eq_true.1 h.2 b hb)
  have h3 := pow16 base (l.take k).length hb (by rw [List.length_take]; omega)
  omega
theorem Digs.stop {base most : Nat} {l : List UInt8} {k : Nat} (h : Digs base l k) (hk : k ≤ most) (he : k = l.length ∨ ∃ b, l[k]? = some b ∧ isd base b = false) :
    numb base most l = if k ≠ 0 ∧ l[k]? = some 59 ∧ fine (val base 0 (l.take k)) = true then (val base 0 (l.take k), k + 1) else (0, 0) := by
  have hkl := h.1
  have hlen : (l.take k).length = k := by rw [List.length_take]; omega
  have e : l.takeWhile (isd base) = l.take k := by
    rcases he with he | ⟨b, hb, hd⟩
    · have := h.2
      rw [he, List.take_length] at this ⊢
      exact takeWhile_all _ _ this
    · obtain ⟨hlt, rfl⟩ := List.getElem?_eq_some_iff.1 hb
      conv => lhs; rw [← List.take_append_drop k l, List.drop_eq_getElem_cons hlt]
      exact takeWhile_stop _ _ _ _ h.2 hd
  unfold numb
  rw [e, hlen]
  have en : l.take k ≠ [] ↔ k ≠ 0 := by
    rw [← List.length_pos_iff, hlen]; omega
  by_cases c : k ≠ 0 ∧ l[k]? = some 59 ∧ fine (val base 0 (l.take k)) = true
  · rw [if_pos c, if_pos ⟨hk, en.2 c.1, c.2⟩]
  · rw [if_neg c, if_neg (fun x => c ⟨en.1 x.2.1, x.2.2⟩)]
theorem Digs.many {base most : Nat} {l : List UInt8} {k : Nat} (h : Digs base l k) (hk : k < l.length) (hd : isd base l[k] = true) (hm : most ≤ k) : numb base most l = (0, 0) := by
  obtain ⟨h1, _⟩ := h.next hk hd
  have : k + 1 ≤ (l.takeWhile (isd base)).length := by
    have hall := h1.2
    have e : l = l.take (k + 1) ++ l.drop (k + 1) := (List.take_append_drop _ _).symm
    rw [e, List.takeWhile_append_of_pos (by simpa [List.all_eq_true] using hall), List.length_append, List.length_take]
    omega
  unfold numb
  rw [if_neg (fun x => by have := x.1; omega)]

end Go.Proofs.YtdpknpgknbkiiaaGreatDoor.Ent
