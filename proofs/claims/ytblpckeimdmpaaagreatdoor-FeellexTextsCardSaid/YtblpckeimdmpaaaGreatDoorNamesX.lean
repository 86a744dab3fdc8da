/- Layer 2: contracts of SplitSeq, Words and Right. -/
import Derived.Test.YtblpckeimdmpaaaGreatDoorNamesW
import Derived.Test.YtblpckeimdmpaaaGreatDoorNamesK
import Derived.Test.YtblpckeimdmpaaaGreatDoorNamesQ
import Derived.Test.YtblpckeimdmpaaaGreatDoorNamesU
import Derived.Maps.AppendAt
import Derived.Maps.OwnIn
set_option linter.unusedVariables false
set_option linter.unusedSimpArgs false
namespace Go.Proofs.YtblpckeimdmpaaaGreatDoor.Names
open Go Go.Proofs.YtblpckeimdmpaaaGreatDoor Go.Proofs.YtblpckeimdmpaaaGreatDoor.Utf Go.RowKit Go.Shelf
set_option maxRecDepth 100000
attribute [local go_sem] Oper.semAt_some

theorem loadVar_plain {P : Program} {t : TypeId} {d : TypeDesc} (ht : P.underlying t = some d) (hd : (match d with | .struct _ | .array _ _ => true | _ => false) = false) {W : World} {a : Addr} {v : Value} (hc : W.cell? a = some v) : (loadVar t a).run P W = .ok v W := by
  have h1 : (isAgg t).run P W = .ok false W := run_isAgg_plain ht hd W
  simp [loadVar, Sem.run_bind, h1, Result.andThen, hc]

/-- Two results that lie in boxes. -/
theorem results_boxes {P : Program} {fn : Func} {p q : Tmp} {t u : TypeId} (h : fn.results = #[.cell p t, .cell q u]) {tmps : Array Value} {W : World} {b c : Nat} {x y : Value}
    (hp : tmps.getD p undef = .pointer (some ⟨b, 0, none⟩)) (hq : tmps.getD q undef = .pointer (some ⟨c, 0, none⟩))
    (h1 : (loadVar t ⟨b, 0, none⟩).run P W = .ok x W) (h2 : (loadVar u ⟨c, 0, none⟩).run P W = .ok y W) : (results fn tmps).run P W = .ok (.tuple #[x, y]) W := by
  simp only [results, h]
  have hp' : tmps[p]?.getD undef = .pointer (some ⟨b, 0, none⟩) := by simpa using hp
  have hq' : tmps[q]?.getD undef = .pointer (some ⟨c, 0, none⟩) := by simpa using hq
  simp [Sem.run_bind, Result.andThen, hp', hq', asAddr, h1, h2]

theorem boxed_later {W W' : World} {B : Nat} {t : TypeId} {v : Value} (h : Boxed W B t v) (hb : Below W.heap.size W W') : Boxed W' B t v := (hb.block B h.lt).trans h

def rightB (l : List UInt8) : Bool := (wordsO l).isSome
end Go.Proofs.YtblpckeimdmpaaaGreatDoor.Names
