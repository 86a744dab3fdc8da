/- A text's bytes, as a new slice: it reads as they do in each world that keeps the slice's block. -/
import Derived.Test.YtkmdclfkmmlloaaGreatDoorRow
import Derived.Lib.ConvBytes
import Derived.Laws.AppendOwn
set_option linter.unusedVariables false
set_option linter.unusedSimpArgs false
namespace Go.Proofs.YtkmdclfkmmlloaaGreatDoor
open Go Go.RowKit
set_option maxRecDepth 100000

theorem conv_at {P : Program} (l : List UInt8) (hs : l.length ≤ 281474976710656) (src dst e : TypeId) (h1 : P.underlying src = some .string) (h2 : P.underlying dst = some (.slice e)) (h3 : P.underlying e = some (.int .u8)) (w : World) :
    ∃ v w', (convert src dst (.string (text l))).run P w = .ok v w' ∧ (∀ W : World, W.heap[w.heap.size]? = w'.heap[w.heap.size]? → Bytes W v l) ∧ Below w.heap.size w w' ∧ w'.heap.size = w.heap.size + 1 := by
  have hsz : (text l).size = l.length := text_size l
  refine ⟨_, _, Lib.run_convert_string_bytes w src dst e (text l) h1 h2 h3, fun W hW => ?_, (Below.refl _ w).grown (row := none) ⟨rfl, rfl, rfl, by rw [Lib.bytesWorld_size]; omega, fun k hk _ => Lib.bytesWorld_at_old w e (text l) k hk⟩ (Nat.le_refl _) (by simp), Lib.bytesWorld_size _ _ _⟩
  have hx : ∀ j, W.cell? ⟨w.heap.size, j, none⟩ = (Lib.bytesWorld w e (text l)).cell? ⟨w.heap.size, j, none⟩ := fun j => World.cell?_of_block (a := ⟨w.heap.size, j, none⟩) hW
  have key : ∀ (x : ByteArray), x.data.toList = l → x.size = l.length → x = text l → Bytes W (.slice (some ⟨w.heap.size, 0, none⟩) (text l).size (grownCap w (text l).size 0 e)) l := by
    intro x e1 e2 e3
    rw [hsz]
    unfold Bytes
    refine ⟨⟨_, _, rfl, grownCap_ge _ _ _ _, grownCap_le_maxLen _ _ _ _ (by unfold maxLen; omega), hs, (fun e => by cases e), fun _ => ⟨w.heap.size, 0, rfl, fun j u hj => ?_⟩⟩, by rw [cellsOf_length, Nat.mul_one]⟩
    have hj2 : j < l.length := by
      have := (List.getElem?_eq_some_iff.1 hj).1
      rwa [cellsOf_length] at this
    rw [Nat.zero_add, hx, Lib.bytesWorld_cell w e (text l) j (by omega)]
    simp only [cellsOf, List.getElem?_map] at hj
    rw [List.getElem?_eq_getElem hj2] at hj
    simp only [Option.map_some, Option.some.injEq] at hj
    rw [← hj, text_data, List.getD_eq_getElem?_getD, List.getElem?_eq_getElem hj2]
    rfl
  exact key (text l) (text_data l) hsz rfl
end Go.Proofs.YtkmdclfkmmlloaaGreatDoor
