/- Layer 2: contracts of keywords (the map), Keyword and Word. -/
import Derived.Test.YtblpckeimdmpaaaGreatDoorNamesA
import Derived.Test.YtblpckeimdmpaaaGreatDoorMapLit
import Derived.Maps.Own
import Derived.Maps.OwnSet
set_option linter.unusedVariables false
set_option linter.unusedSimpArgs false
namespace Go.Proofs.YtblpckeimdmpaaaGreatDoor.Names
open Go Go.Proofs.YtblpckeimdmpaaaGreatDoor Go.Proofs.YtblpckeimdmpaaaGreatDoor.Utf Go.RowKit
set_option maxRecDepth 100000

theorem underM : Tryz.prog.underlying 45 = some (.map 9 4) := Tryz.underlying45
theorem underO : Tryz.prog.underlying 4 = some .bool := Tryz.underlying4

/-- The keywords' map, as it reads. -/
def keyD : DataW Unit := .map (keys.map fun k => (.string k, .lit (.bool true)))
def KeyMap (w : World) (b : Nat) : Prop := w.ownsMap Tryz.prog 9 (plainElem (H := Unit) Tryz.prog 4) b 17 keyD

theorem KeyMap.below {w w' : World} {b : Nat} (h : KeyMap w b) (hb : Below w.heap.size w w') : KeyMap w' b := by
  have hl := h.lt
  obtain ⟨es, clock, h1, r⟩ := h
  exact ⟨es, clock, (hb.block b hl).trans h1, r⟩

theorem key_put : ((((((((((((((((((DataW.map [] : DataW Unit).put (.string [97, 110, 100]) (.lit (.bool true))).put (.string [98, 101, 116, 119, 101, 101, 110]) (.lit (.bool true))).put (.string [101, 108, 115, 101]) (.lit (.bool true))).put (.string [101, 118, 101, 114, 121]) (.lit (.bool true))).put (.string [102, 97, 108, 115, 101]) (.lit (.bool true))).put (.string [102, 111, 114]) (.lit (.bool true))).put (.string [102, 117, 110, 99, 116, 105, 111, 110]) (.lit (.bool true))).put (.string [105, 102]) (.lit (.bool true))).put (.string [105, 110]) (.lit (.bool true))).put (.string [110, 111, 116]) (.lit (.bool true))).put (.string [110, 117, 108, 108]) (.lit (.bool true))).put (.string [111, 114]) (.lit (.bool true))).put (.string [114, 101, 116, 117, 114, 110]) (.lit (.bool true))).put (.string [115, 97, 116, 105, 115, 102, 105, 101, 115]) (.lit (.bool true))).put (.string [115, 111, 109, 101]) (.lit (.bool true))).put (.string [116, 104, 101, 110]) (.lit (.bool true))).put (.string [116, 114, 117, 101]) (.lit (.bool true))) = keyD := by rfl

set_option maxHeartbeats 2000000 in
theorem keywords_any (w : World) : Calls Tryz.prog 52 #[] w fun e w' => ∃ b, e = .returned (.map (some b)) ∧ KeyMap w' b ∧ w.heap.size ≤ b ∧ Below w.heap.size w w' := by
  have hmm := @run_makeMap Tryz.prog
  have hown := World.ownsMap_made (H := Unit) w Tryz.prog 9 (plainElem (H := Unit) Tryz.prog 4)
  have hB := ba (b0 w) (.map #[] 0)
  have hsz : w.heap.size < (w.alloc (.map #[] 0)).heap.size := by simp
  go_enter Tryz.func52, Tryz.ntmps52
  go_wp2_with (refine wpList_insert_own _ rfl _ _ _ 45 rfl 9 4 (Maps.string_keyed under9) underM (plainElem (H := Unit) Tryz.prog 4) _ _ _ rfl hown (by unfold maxLen; omega) _ _ _ rfl rfl (WideMaps.keyOf_string_mk under9 (by decide)) (.lit (.bool true)) [] (plainElem_bool underO true) ?_; clear hown; intro w1 hown hg1; replace hB := hB.grown hg1 hB.size (fun k e => by cases e; exact Nat.le_refl _); clear hg1)
  go_ret
  refine ⟨_, rfl, ?_, Nat.le_refl _, hB⟩
  unfold KeyMap
  rw [← key_put]
  exact hown

theorem atKey_keys (l : List UInt8) : ∀ ks : List (List UInt8), (DataW.map (ks.map fun k => (Lit.string k, DataW.lit (H := Unit) (.bool true)))).atKey (.string l) (.lit (.bool false)) = .lit (.bool (ks.contains l))
  | [] => rfl
  | a :: r => by
    have ih := atKey_keys l r
    unfold DataW.atKey at ih ⊢
    dsimp only at ih ⊢
    rw [List.map_cons, List.find?_cons]
    by_cases h : a = l
    · subst h
      simp [Lit.sameKey]
    · have : (Lit.string a).sameKey (.string l) = false := by simp [Lit.sameKey, h]
      simp only [this]
      rw [ih]
      simp [Ne.symm h]

theorem plainElem_bool_inv {H : Type} {P : Program} {e : TypeId} (he : P.underlying e = some .bool) {v : Value} {x : Bool} {ps : List MemPlace} (h : plainElem (H := H) P e v = some (.lit (.bool x), ps)) : v = .bool x := by
  unfold plainElem at h
  rw [he] at h
  cases v <;> simp at h
  rw [h.1]

theorem key_lookup {w : World} {b : Nat} (h : KeyMap w b) (l : List UInt8) (hl : l.length ≤ 281474976710656) :
    (Instr.lookup 45 (.map (some b)) (.string (text l)) false).run Tryz.prog w = .ok (.bool (keyB l)) w := by
  have hk : keyOf Tryz.prog 9 (.string (text l)) = some (.string l) := by
    have := WideMaps.keyOf_string_mk (P := Tryz.prog) under9 (s := text l) (by rw [text_size]; unfold maxLen; omega)
    rw [text_data] at this
    exact this
  obtain ⟨v, ps, hrun, hv⟩ := World.ownsMap.lookup h (Maps.string_keyed under9) underM (Tryz.zeroValue4 w) (plainElem_bool underO false) hk
  unfold keyD at hv
  rw [atKey_keys] at hv
  rw [hrun, plainElem_bool_inv underO hv]
  rfl

theorem Keyword_any (l : List UInt8) (hl : l.length ≤ 281474976710656) (w : World) :
    Calls Tryz.prog 27 #[.string (text l)] w fun e w' => e = .returned (.bool (keyB l)) ∧ Below w.heap.size w w' := by
  have H := hid (fun w b (h : KeyMap w b) => key_lookup h l hl)
  go_enter Tryz.func27, Tryz.ntmps27
  go_wp2_with (go_at_call 52; refine (keywords_any _).mono ?_; rintro e w1 ⟨b, rfl, hm, hle, hb⟩; have hlk := H.out w1 b hm; clear hm)
  go_ret
  exact ⟨rfl, hb⟩

theorem Word_any (l : List UInt8) (hl : l.length ≤ 281474976710656) (w : World) :
    Calls Tryz.prog 26 #[.string (text l)] w fun e w' => e = .returned (.bool (wordB l)) ∧ Below w.heap.size w w' := by
  have H := hid (fun w => wordy_any l hl w)
  have K := hid (fun w => Keyword_any l hl w)
  have W := hid (show wordB l = (wordyB l && !keyB l) from rfl)
  cases hw : wordyB l
  · rw [hw] at H W
    clear hw
    go_enter Tryz.func26, Tryz.ntmps26
    go_wp2_with (first
      | (go_at_call 51; refine (H.out _).mono ?_; rintro e w1 ⟨rfl, hb1⟩)
      | (go_at_call 27; refine (K.out _).mono ?_; rintro e w2 ⟨rfl, hb2⟩))
    go_ret
    exact ⟨by rw [W.out]; rfl, hb1⟩
  · rw [hw] at H W
    clear hw
    go_enter Tryz.func26, Tryz.ntmps26
    go_wp2_with (first
      | (go_at_call 51; refine (H.out _).mono ?_; rintro e w1 ⟨rfl, hb1⟩)
      | (go_at_call 27; refine (K.out _).mono ?_; rintro e w2 ⟨rfl, hb2⟩))
    go_ret
    exact ⟨by rw [W.out]; rfl, bt hb1 hb2⟩
end Go.Proofs.YtblpckeimdmpaaaGreatDoor.Names
