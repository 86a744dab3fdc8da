/- Layer 3: contracts of the maps of what is escaped. -/
import Derived.Test.YtdpknpgknbkiiaaGreatDoorEntMath
import Derived.Test.YtdpknpgknbkiiaaGreatDoorEntA
import Derived.Test.YtdpknpgknbkiiaaGreatDoorMapLit
import Derived.Maps.Views
import Derived.Maps.StringElems
set_option linter.unusedVariables false
set_option linter.unusedSimpArgs false
namespace Go.Proofs.YtdpknpgknbkiiaaGreatDoor.Ent
open Go Go.Proofs.YtdpknpgknbkiiaaGreatDoor Go.Proofs.YtdpknpgknbkiiaaGreatDoor.Utf Go.RowKit
set_option maxRecDepth 100000

theorem underR : Tryz.prog.underlying 21 = some (.int .i32) := Tryz.underlying21

/-- What a map tells of a key. -/
def Looks (D : DataW Unit) (c : Nat) (o : Option (List UInt8)) : Prop :=
  (∃ es, D = .map es) ∧ Maps.has D (.int .i32 c) = o.isSome ∧ D.atKey (.int .i32 c) (.lit (.string [])) = .lit (.string (o.getD []))
theorem Looks.nil (c : Nat) : Looks (.map []) c none := ⟨⟨_, rfl⟩, rfl, rfl⟩
theorem Looks.put {D : DataW Unit} {c : Nat} {o : Option (List UInt8)} (h : Looks D c o) (k : Nat) (t : List UInt8) : Looks (D.put (.int .i32 k) (.lit (.string t))) c (if c = k then some t else o) := by
  obtain ⟨hD, h1, h2⟩ := h
  refine ⟨?_, ?_⟩
  · obtain ⟨es, rfl⟩ := hD; exact ⟨_, rfl⟩
  · by_cases e : c = k
    · subst e
      rw [if_pos rfl]
      exact ⟨Maps.has_put_same hD (by simp [WideAt.IsKeyLit]) _, Maps.atKey_put_same hD (by simp [WideAt.IsKeyLit]) _ _⟩
    · rw [if_neg e]
      have hne : (Lit.int .i32 (c : Int)) ≠ .int .i32 (k : Int) := by
        intro x; injection x with _ x; exact e (by omega)
      exact ⟨by rw [Maps.has_put_other hne]; exact h1, by rw [Maps.atKey_put_other hne]; exact h2⟩

def escD0 : DataW Unit := ((((DataW.map [] : DataW Unit).put (.int .i32 38) (.lit (.string [38, 97, 109, 112, 59]))).put (.int .i32 60) (.lit (.string [38, 108, 116, 59]))).put (.int .i32 62) (.lit (.string [38, 103, 116, 59]))).put (.int .i32 13) (.lit (.string [38, 35, 49, 51, 59]))
def escD1 : DataW Unit := ((escD0.put (.int .i32 34) (.lit (.string [38, 113, 117, 111, 116, 59]))).put (.int .i32 9) (.lit (.string [38, 35, 57, 59]))).put (.int .i32 10) (.lit (.string [38, 35, 49, 48, 59]))
theorem looks0 (c : Nat) : Looks escD0 c (escT false c) := by
  have h := ((((Looks.nil c).put 38 [38, 97, 109, 112, 59]).put 60 [38, 108, 116, 59]).put 62 [38, 103, 116, 59]).put 13 [38, 35, 49, 51, 59]
  have e : escT false c = if c = 13 then some [38, 35, 49, 51, 59] else if c = 62 then some [38, 103, 116, 59] else if c = 60 then some [38, 108, 116, 59] else if c = 38 then some [38, 97, 109, 112, 59] else none := by
    unfold escT
    repeat' split
    all_goals first | rfl | (exfalso; simp_all; done) | (exfalso; omega)
  rw [e]; exact h
theorem looks1 (c : Nat) : Looks escD1 c (escT true c) := by
  have h := (((looks0 c).put 34 [38, 113, 117, 111, 116, 59]).put 9 [38, 35, 57, 59]).put 10 [38, 35, 49, 48, 59]
  have e : escT true c = if c = 10 then some [38, 35, 49, 48, 59] else if c = 9 then some [38, 35, 57, 59] else if c = 34 then some [38, 113, 117, 111, 116, 59] else escT false c := by
    unfold escT
    repeat' split
    all_goals first | rfl | (exfalso; simp_all; done) | (exfalso; omega)
  rw [e]; exact h
def escD : Bool → DataW Unit
  | false => escD0
  | true => escD1
theorem looks (v : Bool) (c : Nat) : Looks (escD v) c (escT v c) := by
  cases v
  · exact looks0 c
  · exact looks1 c

/-- The block holds the map of what is escaped. -/
def EscMap (v : Bool) (w : World) (b : Nat) : Prop := ∃ n, n ≤ 7 ∧ w.ownsMap Tryz.prog 21 (plainElem (H := Unit) Tryz.prog 9) b n (escD v)
theorem EscMap.below {v : Bool} {w w' : World} {b B : Nat} (h : EscMap v w b) (hb : Below B w w') (hB : b < B) : EscMap v w' b := by
  obtain ⟨n, hn, es, clock, h1, r⟩ := h
  exact ⟨n, hn, es, clock, (hb.block b hB).trans h1, r⟩

end Go.Proofs.YtdpknpgknbkiiaaGreatDoor.Ent
