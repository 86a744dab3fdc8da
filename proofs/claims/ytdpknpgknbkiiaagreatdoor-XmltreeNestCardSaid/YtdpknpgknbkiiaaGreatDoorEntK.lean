/- Layer 3: contracts of escape, EscapeText, EscapeValue. -/
import Derived.Test.YtdpknpgknbkiiaaGreatDoorEntB
import Derived.Test.YtdpknpgknbkiiaaGreatDoorEntJ
import Derived.Test.YtdpknpgknbkiiaaGreatDoorConv
import Derived.Lib.OthersKept
set_option linter.unusedVariables false
set_option linter.unusedSimpArgs false
namespace Go.Proofs.YtdpknpgknbkiiaaGreatDoor.Ent
open Go Go.Proofs.YtdpknpgknbkiiaaGreatDoor Go.Proofs.YtdpknpgknbkiiaaGreatDoor.Utf Go.RowKit
set_option maxRecDepth 100000

theorem is_iterAt {C b k : Nat} {l : List UInt8} {w : World} (h : Bld.Is C b l w) (hk : k < C) (hkb : k ≠ b) (s : ByteArray) (pos : Nat) : Bld.Is C b l (w.iterAt k s pos) := by
  have key : ∀ p, Bld.At C b p l w → Bld.At C b p l (w.iterAt k s pos) := by
    rintro p ⟨h1, v, h2, h3⟩
    refine ⟨h1, v, by rw [Lib.iterAt_other w k b s pos (fun e => hkb e.symm)]; exact h2, ?_⟩
    exact h3.kept (row := some k) ⟨rfl, rfl, rfl, by rw [Lib.iterAt_size]; exact Nat.le_refl _, fun j _ hj => Lib.iterAt_other w k j s pos (fun e => hj (by rw [e]))⟩ (.inr (fun e => by have := (h3.lt k e).1; omega))
  exact h.elim (fun x => .inl (key _ x)) (fun x => .inr (key _ x))
theorem decode_rt {l : List UInt8} {pos : Nat} (hp : pos < l.length) (h : (rune (l.drop pos)).2 ≠ 0) : Utf8.decode (text l) pos = rune (l.drop pos) := by
  rcases decode_rune l pos hp with ⟨z, _⟩ | ⟨_, _, e⟩
  · exact absurd z h
  · exact e
theorem iter_at {w : World} {k pos : Nat} {s : ByteArray} (h : w.heap[k]? = some (.stringIter s pos)) : w.iterPos k = pos := by simp [World.iterPos, h]

/-- From here on all is right. -/
def Rest (l : List UInt8) (pos : Nat) : Prop := pos ≤ l.length ∧ check (l.drop pos) = (l.drop pos).length
theorem Rest.start {l : List UInt8} (h : check l = l.length) : Rest l 0 := ⟨by omega, by simpa using h⟩
theorem Rest.step {v : Bool} {l : List UInt8} {pos : Nat} (h : Rest l pos) (hp : pos < l.length) :
    (rune (l.drop pos)).2 ≠ 0 ∧ fine ((rune (l.drop pos)).1 : Int) = true ∧ Rest l (pos + (rune (l.drop pos)).2) ∧ esc v (l.take (pos + (rune (l.drop pos)).2)) = esc v (l.take pos) ++ (escT v (rune (l.drop pos)).1).getD (enc ((rune (l.drop pos)).1 : Int)) := by
  obtain ⟨h1, h2⟩ := h
  have hr := rune_le (l.drop pos)
  have hne : (rune (l.drop pos)).2 ≠ 0 := by
    intro e
    rw [check_stop e] at h2
    simp at h2; omega
  obtain ⟨hf, _⟩ := rune_some (l := l.drop pos) (c := (rune (l.drop pos)).1) (k := (rune (l.drop pos)).2) rfl hne
  have hck : check (l.drop (pos + (rune (l.drop pos)).2)) = (l.drop (pos + (rune (l.drop pos)).2)).length := by
    rw [check_step hne, List.drop_drop] at h2
    simp only [List.length_drop] at h2 hr ⊢
    omega
  refine ⟨hne, hf, ⟨by simp only [List.length_drop] at hr; omega, hck⟩, ?_⟩
  rw [List.take_add, esc_append, rune_take _ hne, esc_enc v _ hf]

/-- What is escaped, as values. -/
def escV (v : Bool) (l : List UInt8) : Value := if check l = l.length then .tuple #[.string (text (esc v l)), .int .i64 0] else .tuple #[.string (text []), .int .i64 4]

end Go.Proofs.YtdpknpgknbkiiaaGreatDoor.Ent
