/- Layer 2: contracts of keywords (the map), Keyword and Word. -/
import Derived.Test.YthggoohchjifnaaDoorNamesA
import Derived.Test.YthggoohchjifnaaDoorMapLit
import Derived.Maps.Own
import Derived.Maps.OwnSet
set_option linter.unusedVariables false
set_option linter.unusedSimpArgs false
namespace Go.Proofs.YthggoohchjifnaaDoor.Names
open Go Go.Proofs.YthggoohchjifnaaDoor Go.Proofs.YthggoohchjifnaaDoor.Utf Go.RowKit
set_option maxRecDepth 100000

theorem underM : Tryd.prog.underlying 93 = some (.map 9 4) := Tryd.underlying93
theorem underO : Tryd.prog.underlying 4 = some .bool := Tryd.underlying4

/-- The keywords' map, as it reads. -/
def keyD : DataW Unit := .map (keys.map fun k => (.string k, .lit (.bool true)))
def KeyMap (w : World) (b : Nat) : Prop := w.ownsMap Tryd.prog 9 (plainElem (H := Unit) Tryd.prog 4) b 17 keyD

theorem KeyMap.below {w w' : World} {b : Nat} (h : KeyMap w b) (hb : Below w.heap.size w w') : KeyMap w' b := by
  have hl := h.lt
  obtain ⟨es, clock, h1, r⟩ := h
  exact ⟨es, clock, (hb.block b hl).trans h1, r⟩

theorem key_put : ((((((((((((((((((DataW.map [] : DataW Unit).put (.string [97, 110, 100]) (.lit (.bool true))).put (.string [98, 101, 116, 119, 101, 101, 110]) (.lit (.bool true))).put (.string [101, 108, 115, 101]) (.lit (.bool true))).put (.string [101, 118, 101, 114, 121]) (.lit (.bool true))).put (.string [102, 97, 108, 115, 101]) (.lit (.bool true))).put (.string [102, 111, 114]) (.lit (.bool true))).put (.string [102, 117, 110, 99, 116, 105, 111, 110]) (.lit (.bool true))).put (.string [105, 102]) (.lit (.bool true))).put (.string [105, 110]) (.lit (.bool true))).put (.string [110, 111, 116]) (.lit (.bool true))).put (.string [110, 117, 108, 108]) (.lit (.bool true))).put (.string [111, 114]) (.lit (.bool true))).put (.string [114, 101, 116, 117, 114, 110]) (.lit (.bool true))).put (.string [115, 97, 116, 105, 115, 102, 105, 101, 115]) (.lit (.bool true))).put (.string [115, 111, 109, 101]) (.lit (.bool true))).put (.string [116, 104, 101, 110]) (.lit (.bool true))).put (.string [116, 114, 117, 101]) (.lit (.bool true))) = keyD := by rfl

set_option maxHeartbeats 2000000 in
theorem keywords_any (w : World) : Calls Tryd.prog 77 #[] w fun e w' => ∃ b, e = .returned (.map (some b)) ∧ KeyMap w' b ∧ w.heap.size ≤ b ∧ Below w.heap.size w w' := by
  have hmm := @run_makeMap Tryd.prog
  have hown := World.ownsMap_made (H := Unit) w Tryd.prog 9 (plainElem (H := Unit) Tryd.prog 4)
  have hB := ba (b0 w) (.map #[] 0)
  have hsz : w.heap.size < (w.alloc (.map #[] 0)).heap.size := by simp
  go_enter Tryd.func77, Tryd.ntmps77
  go_wp2_with (refine wpList_insert_own _ rfl _ _ _ 93 rfl 9 4 (Maps.string_keyed under9) underM (plainElem (H := Unit) Tryd.prog 4) _ _ _ rfl hown (by unfold maxLen; omega) _ _ _ rfl rfl (WideMaps.keyOf_string_mk under9 (by decide)) (.lit (.bool true)) [] (plainElem_bool underO true) ?_; clear hown; intro w1 hown hg1; replace hB := hB.grown hg1 hB.size (fun k e => by cases e; exact Nat.le_refl _); clear hg1)
  go_ret
  refine ⟨_, rfl, ?_, Nat.le_refl _, hB⟩
  unfold KeyMap
  rw [← key_put]
  exact hown

theorem atKey_keys (l : List UInt8) : ∀ ks : List (List UInt8), (DataW.map (ks.map fun k => (Lit.string k, DataW.lit (H := Unit) (.bool true)))).atKey (.string l) (.lit (.bool false)) = .lit (.bool (ks.contains l))
  | [] => rfl
  | a :: r => by
    have ih := atKey_keys l r
    unfold DataW.atKey at ih ⊢
    dsimp only at ih ⊢
    rw [List.map_cons, List.find?_cons]
    by_cases h : a = l
    · subst h
      simp [Lit.sameKey]
    · have : (Lit.string a).sameKey (.string l) = false := by simp [Lit.sameKey, h]
      simp only [this]
      rw [ih]
      simp [Ne.symm h]

theorem plainElem_bool_inv {H : Type} {P : Program} {e : TypeId} (he : P.underlying e = some .bool) {v : Value} {x : Bool} {ps : List MemPlace} (h : plainElem (H := H) P e v = some (.lit (.bool x), ps)) : v = .bool x := by
  unfold plainElem at h
  rw [he] at h
  cases v <;> simp at h
  rw [h.1]

theorem key_lookup {w : World} {b : Nat} (h : KeyMap w b) (l : List UInt8) (hl : l.length ≤ 281474976710656) :
    (Instr.lookup 93 (.map (some b)) (.string (text l)) false).run Tryd.prog w = .ok (.bool (keyB l)) w := by
  have hk : keyOf Tryd.prog 9 (.string (text l)) = some (.string l) := by
    have := WideMaps.keyOf_string_mk (P := Tryd.prog) under9 (s := text l) (by rw [text_size]; unfold maxLen; omega)
    rw [text_data] at this
    exact this
  obtain ⟨v, ps, hrun, hv⟩ := World.ownsMap.lookup h (Maps.string_keyed under9) underM (Tryd.zeroValue4 w) (plainElem_bool underO false) hk
  unfold keyD at hv
  rw [atKey_keys] at hv
  rw [hrun, plainElem_bool_inv underO hv]
  rfl

end Go.Proofs.YthggoohchjifnaaDoor.Names
