/- Layer 2: contracts of shaped (at both its uses), Plain and wordy. -/
import Derived.Test.YtblpckeimdmpaaaDoorNamesMath
import Derived.Test.YtblpckeimdmpaaaDoorUtfD
import Derived.Lib.ConvBytes
import Derived.Laws.AppendOwn
set_option linter.unusedVariables false
set_option linter.unusedSimpArgs false
namespace Go.Proofs.YtblpckeimdmpaaaDoor.Names
open Go Go.Proofs.YtblpckeimdmpaaaDoor Go.Proofs.YtblpckeimdmpaaaDoor.Utf Go.RowKit
set_option maxRecDepth 100000

/-- A text's bytes, as a new slice. -/
theorem conv_text {P : Program} (s : ByteArray) (hs : s.size ≤ 281474976710656) (src dst e : TypeId) (h1 : P.underlying src = some .string) (h2 : P.underlying dst = some (.slice e)) (h3 : P.underlying e = some (.int .u8)) (w : World) :
    ∃ v w', (convert src dst (.string s)).run P w = .ok v w' ∧ Bytes w' v s.data.toList ∧ Below w.heap.size w w' := by
  have hlen : s.data.toList.length = s.size := (Lib.size_eq s).symm
  refine ⟨_, _, Lib.run_convert_string_bytes w src dst e s h1 h2 h3, ?_, (Below.refl _ w).grown (row := none) ⟨rfl, rfl, rfl, by rw [Lib.bytesWorld_size]; omega, fun k hk _ => Lib.bytesWorld_at_old w e s k hk⟩ (Nat.le_refl _) (by simp)⟩
  unfold Bytes
  rw [hlen]
  refine ⟨⟨_, _, rfl, grownCap_ge _ _ _ _, grownCap_le_maxLen _ _ _ _ (by unfold maxLen; omega), hs, (fun e => by cases e), fun _ => ⟨w.heap.size, 0, rfl, fun j u hj => ?_⟩⟩, by rw [cellsOf_length, hlen]; omega⟩
  have hj2 : j < s.size := by
    have := (List.getElem?_eq_some_iff.1 hj).1
    rw [cellsOf_length, hlen] at this; exact this
  rw [Nat.zero_add, Lib.bytesWorld_cell w e s j hj2]
  simp only [cellsOf, List.getElem?_map] at hj
  have hj3 : j < s.data.toList.length := by rw [hlen]; exact hj2
  rw [List.getElem?_eq_getElem hj3] at hj
  simp only [Option.map_some, Option.some.injEq] at hj
  rw [← hj, List.getD_eq_getElem?_getD, List.getElem?_eq_getElem hj3]
  rfl

/-- Ahead of pos all characters are of their kinds. -/
def Seen (p q : Int → Bool) (l : List UInt8) (pos : Nat) : Prop :=
  pos ≤ l.length ∧ check (l.drop pos) = (l.drop pos).length ∧ (pos = 0 → True) ∧ (0 < pos → shp p q l = allq q (l.drop pos))
theorem Seen.start {p q : Int → Bool} {l : List UInt8} (h : check l = l.length) : Seen p q l 0 := ⟨by omega, by simpa using h, fun _ => trivial, fun h => by omega⟩
/-- What is asked of the character at a place. -/
def kind (p q : Int → Bool) (pos : Nat) (c : Int) : Bool := if pos = 0 then p c else q c
theorem Seen.step {p q : Int → Bool} {l : List UInt8} {pos : Nat} (h : Seen p q l pos) (hp : pos < l.length) :
    (rune (l.drop pos)).2 ≠ 0 ∧ (kind p q pos (rune (l.drop pos)).1 = false → shp p q l = false) ∧ (kind p q pos (rune (l.drop pos)).1 = true → Seen p q l (pos + (rune (l.drop pos)).2)) := by
  obtain ⟨h1, h2, _, h4⟩ := h
  have hr := rune_le (l.drop pos)
  have hne : (rune (l.drop pos)).2 ≠ 0 := by
    intro e
    rw [check_stop e] at h2
    simp at h2; omega
  have hck : check (l.drop (pos + (rune (l.drop pos)).2)) = (l.drop (pos + (rune (l.drop pos)).2)).length := by
    rw [check_step hne, List.drop_drop] at h2
    simp only [List.length_drop] at h2 hr ⊢
    omega
  have hle : pos + (rune (l.drop pos)).2 ≤ l.length := by simp only [List.length_drop] at hr; omega
  refine ⟨hne, fun hk => ?_, fun hk => ⟨hle, hck, fun _ => trivial, fun _ => ?_⟩⟩
  · unfold kind at hk
    by_cases e : pos = 0
    · subst e
      rw [if_pos rfl] at hk
      rw [List.drop_zero] at hk hne
      rw [shp_step hne, hk, Bool.false_and]
    · rw [if_neg e] at hk
      rw [h4 (by omega), allq_step hne, hk, Bool.false_and]
  · unfold kind at hk
    by_cases e : pos = 0
    · subst e
      rw [if_pos rfl] at hk
      rw [List.drop_zero] at hk hne ⊢
      rw [shp_step hne, hk, Bool.true_and, Nat.zero_add]
    · rw [if_neg e] at hk
      rw [h4 (by omega), allq_step hne, hk, Bool.true_and, List.drop_drop]
theorem Seen.done {p q : Int → Bool} {l : List UInt8} {pos : Nat} (h : Seen p q l pos) (hp : ¬ pos < l.length) : shp p q l = !l.isEmpty := by
  obtain ⟨h1, h2, _, h4⟩ := h
  by_cases e : pos = 0
  · have : l = [] := List.eq_nil_of_length_eq_zero (by omega)
    subst this; rfl
  · rw [h4 (by omega), List.drop_of_length_le (by omega), allq_nil]
    cases l with
    | nil => simp at h1; omega
    | cons a b => rfl

/-- The language's reading where all is right. -/
theorem decode_right {l : List UInt8} {pos : Nat} (hp : pos < l.length) (h : (rune (l.drop pos)).2 ≠ 0) : Utf8.decode (text l) pos = rune (l.drop pos) := by
  rcases decode_rune l pos hp with ⟨z, _⟩ | ⟨_, _, e⟩
  · exact absurd z h
  · exact e

theorem str_text (s : ByteArray) : s = text s.data.toList := by cases s; rfl
theorem text_list (l : List UInt8) : (text l).toList = l := by rw [Lib.toList_data, text_data]
theorem text_eq_iff (l m : List UInt8) : text l = text m ↔ l = m := by
  constructor
  · intro h
    have := congrArg (fun b => b.data.toList) h
    simpa [text_data] using this
  · rintro rfl; rfl

end Go.Proofs.YtblpckeimdmpaaaDoor.Names
