/- Layer 2: contracts of the document's own answers: Words, Right. -/
import Derived.Test.YtblpckeimdmpaaaGreatDoorNamesQ
import Derived.Test.YtblpckeimdmpaaaGreatDoorNamesT
import Derived.Test.YtblpckeimdmpaaaGreatDoorNamesMath2
import Derived.Laws.Concat
set_option linter.unusedVariables false
set_option linter.unusedSimpArgs false
namespace Go.Proofs.YtblpckeimdmpaaaGreatDoor.Names
open Go Go.Proofs.YtblpckeimdmpaaaGreatDoor Go.Proofs.YtblpckeimdmpaaaGreatDoor.Utf Go.RowKit
set_option maxRecDepth 100000

theorem infoS : (Tryz.prog.info? 9).map (fun i => (i.zero, i.size, i.bytes)) = some (some (.string ByteArray.empty), 1, 16) := by kernel_rfl

theorem text_cat {P : Program} (a b : List UInt8) (h : a.length + b.length ≤ 9223372036854775807) (t : TypeId) (W : World) : (binOp .add t (.string (text a)) (.string (text b))).run P W = .ok (.string (text (a ++ b))) W := by
  have h1 := run_string_add_sum (P := P) (w := W) (text a) (text b) (by rw [text_size, text_size]; exact h)
  rw [text_append] at h1
  simpa [binOp] using h1
theorem owns_first (w : World) : (w.alloc (.cells #[.string ⟨#[]⟩] 9)).ownsRow w.heap.size 9 1 (.slice (some ⟨w.heap.size, 0, none⟩) 1 1) 1 (strsOf [[]]) :=
  ⟨rfl, .inr ⟨w.heap.size, 1, #[.string ⟨#[]⟩], rfl, Nat.le_refl _, heap_alloc_new w _, Nat.le_refl _, (by unfold maxLen; omega), rfl, rfl⟩⟩

end Go.Proofs.YtblpckeimdmpaaaGreatDoor.Names
