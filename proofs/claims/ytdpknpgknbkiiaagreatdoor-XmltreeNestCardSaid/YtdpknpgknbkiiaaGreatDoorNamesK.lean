/- Layer 2: contracts of keywords (the map), Keyword and Word. -/
import Derived.Test.YtdpknpgknbkiiaaGreatDoorNamesA
import Derived.Test.YtdpknpgknbkiiaaGreatDoorMapLit
import Derived.Maps.Own
import Derived.Maps.OwnSet
set_option linter.unusedVariables false
set_option linter.unusedSimpArgs false
namespace Go.Proofs.YtdpknpgknbkiiaaGreatDoor.Names
open Go Go.Proofs.YtdpknpgknbkiiaaGreatDoor Go.Proofs.YtdpknpgknbkiiaaGreatDoor.Utf Go.RowKit
set_option maxRecDepth 100000

theorem underM : Tryz.prog.underlying 123 = some (.map 9 4) := Tryz.underlying123
theorem underO : Tryz.prog.underlying 4 = some .bool := Tryz.underlying4

/-- The keywords' map, as it reads. -/
def keyD : DataW Unit := .map (keys.map fun k => (.string k, .lit (.bool true)))
def KeyMap (w : World) (b : Nat) : Prop := w.ownsMap Tryz.prog 9 (plainElem (H := Unit) Tryz.prog 4) b 17 keyD

theorem KeyMap.below {w w' : World} {b : Nat} (h : KeyMap w b) (hb : Below w.heap.size w w') : KeyMap w' b := by
  have hl := h.lt
  obtain ⟨es, clock, h1, r⟩ := h
  exact ⟨es, clock, (hb.block b hl).trans h1, r⟩

theorem key_put : ((((((((((((((((((DataW.map [] : DataW Unit).put (.string [97, 110, 100]) (.lit (.bool true))).put (.string [98, 101, 116, 119, 101, 101, 110]) (.lit (.bool true))).put (.string [101, 108, 115, 101]) (.lit (.bool true))).put (.string [101, 118, 101, 114, 121]) (.lit (.bool true))).put (.string [102, 97, 108, 115, 101]) (.lit (.bool true))).put (.string [102, 111, 114]) (.lit (.bool true))).put (.string [102, 117, 110, 99, 116, 105, 111, 110]) (.lit (.bool true))).put (.string [105, 102]) (.lit (.bool true))).put (.string [105, 110]) (.lit (.bool true))).put (.string [110, 111, 116]) (.lit (.bool true))).put (.string [110, 117, 108, 108]) (.lit (.bool true))).put (.string [111, 114]) (.lit (.bool true))).put (.string [114, 101, 116, 117, 114, 110]) (.lit (.bool true))).put (.string [115, 97, 116, 105, 115, 102, 105, 101, 115]) (.lit (.bool true))).put (.string [115, 111, 109, 101]) (.lit (.bool true))).put (.string [116, 104, 101, 110]) (.lit (.bool true))).put (.string [116, 114, 117, 101]) (.lit (.bool true))) = keyD := by rfl

theorem atKey_keys (l : List UInt8) : ∀ ks : List (List UInt8), (DataW.map (ks.map fun k => (Lit.string k, DataW.lit (H := Unit) (.bool true)))).atKey (.string l) (.lit (.bool false)) = .lit (.bool (ks.contains l))
  | [] => rfl
  | a :: r => by
    have ih := atKey_keys l r
    unfold DataW.atKey at ih ⊢
    dsimp only at ih ⊢
    rw [List.map_cons, List.find?_cons]
    by_cases h : a = l
    · subst h
      simp [Lit.sameKey]
    · have : (Lit.string a).sameKey (.string l) = false := by simp [Lit.sameKey, h]
      simp only [this]
      rw [ih]
      simp [Ne.symm h]

theorem plainElem_bool_inv {H : Type} {P : Program} {e : TypeId} (he : P.underlying e = some .bool) {v : Value} {x : Bool} {ps : List MemPlace} (h : plainElem (H := H) P e v = some (.lit (.bool x), ps)) : v = .bool x := by
  unfold plainElem at h
  rw [he] at h
  cases v <;> simp at h
  rw [h.1]

theorem key_lookup {w : World} {b : Nat} (h : KeyMap w b) (l : List UInt8) (hl : l.length ≤ 281474976710656) :
    (Instr.lookup 123 (.map (some b)) (.string (text l)) false).run Tryz.prog w = .ok (.bool (keyB l)) w := by
  have hk : keyOf Tryz.prog 9 (.string (text l)) = some (.string l) := by
    have := WideMaps.keyOf_string_mk (P := Tryz.prog) under9 (s := text l) (by rw [text_size]; unfold maxLen; omega)
    rw [text_data] at this
    exact this
  obtain ⟨v, ps, hrun, hv⟩ := World.ownsMap.lookup h (Maps.string_keyed under9) underM (Tryz.zeroValue4 w) (plainElem_bool underO false) hk
  unfold keyD at hv
  rw [atKey_keys] at hv
  rw [hrun, plainElem_bool_inv underO hv]
  rfl

end Go.Proofs.YtdpknpgknbkiiaaGreatDoor.Names
