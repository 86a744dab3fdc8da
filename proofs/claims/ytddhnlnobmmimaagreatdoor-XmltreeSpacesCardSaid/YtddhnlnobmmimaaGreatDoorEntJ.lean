/- Layer 3: contracts of the maps of what is escaped. -/
import Derived.Test.YtddhnlnobmmimaaGreatDoorEntMath
import Derived.Test.YtddhnlnobmmimaaGreatDoorEntA
import Derived.Test.YtddhnlnobmmimaaGreatDoorMapLit
import Derived.Maps.Views
import Derived.Maps.StringElems
set_option linter.unusedVariables false
set_option linter.unusedSimpArgs false
namespace Go.Proofs.YtddhnlnobmmimaaGreatDoor.Ent
open Go Go.Proofs.YtddhnlnobmmimaaGreatDoor Go.Proofs.YtddhnlnobmmimaaGreatDoor.Utf Go.RowKit
set_option maxRecDepth 100000

theorem underM : Tryz.prog.underlying 205 = some (.map 21 9) := Tryz.underlying205
theorem underR : Tryz.prog.underlying 21 = some (.int .i32) := Tryz.underlying21

/-- What a map tells of a key. -/
def Looks (D : DataW Unit) (c : Nat) (o : Option (List UInt8)) : Prop :=
  (∃ es, D = .map es) ∧ Maps.has D (.int .i32 c) = o.isSome ∧ D.atKey (.int .i32 c) (.lit (.string [])) = .lit (.string (o.getD []))
theorem Looks.nil (c : Nat) : Looks (.map []) c none := ⟨⟨_, rfl⟩, rfl, rfl⟩
theorem Looks.put {D : DataW Unit} {c : Nat} {o : Option (List UInt8)} (h : Looks D c o) (k : Nat) (t : List UInt8) : Looks (D.put (.int .i32 k) (.lit (.string t))) c (if c = k then some t else o) := by
  obtain ⟨hD, h1, h2⟩ := h
  refine ⟨?_, ?_⟩
  · obtain ⟨es, rfl⟩ := hD; exact ⟨_, rfl⟩
  · by_cases e : c = k
    · subst e
      rw [if_pos rfl]
      exact ⟨Maps.has_put_same hD (by simp [WideAt.IsKeyLit]) _, Maps.atKey_put_same hD (by simp [WideAt.IsKeyLit]) _ _⟩
    · rw [if_neg e]
      have hne : (Lit.int .i32 (c : Int)) ≠ .int .i32 (k : Int) := by
        intro x; injection x with _ x; exact e (by omega)
      exact ⟨by rw [Maps.has_put_other hne]; exact h1, by rw [Maps.atKey_put_other hne]; exact h2⟩

def escD0 : DataW Unit := ((((DataW.map [] : DataW Unit).put (.int .i32 38) (.lit (.string [38, 97, 109, 112, 59]))).put (.int .i32 60) (.lit (.string [38, 108, 116, 59]))).put (.int .i32 62) (.lit (.string [38, 103, 116, 59]))).put (.int .i32 13) (.lit (.string [38, 35, 49, 51, 59]))
def escD1 : DataW Unit := ((escD0.put (.int .i32 34) (.lit (.string [38, 113, 117, 111, 116, 59]))).put (.int .i32 9) (.lit (.string [38, 35, 57, 59]))).put (.int .i32 10) (.lit (.string [38, 35, 49, 48, 59]))
theorem looks0 (c : Nat) : Looks escD0 c (escT false c) := by
  have h := ((((Looks.nil c).put 38 [38, 97, 109, 112, 59]).put 60 [38, 108, 116, 59]).put 62 [38, 103, 116, 59]).put 13 [38, 35, 49, 51, 59]
  have e : escT false c = if c = 13 then some [38, 35, 49, 51, 59] else if c = 62 then some [38, 103, 116, 59] else if c = 60 then some [38, 108, 116, 59] else if c = 38 then some [38, 97, 109, 112, 59] else none := by
    unfold escT
    repeat' split
    all_goals first | rfl | (exfalso; simp_all; done) | (exfalso; omega)
  rw [e]; exact h
theorem looks1 (c : Nat) : Looks escD1 c (escT true c) := by
  have h := (((looks0 c).put 34 [38, 113, 117, 111, 116, 59]).put 9 [38, 35, 57, 59]).put 10 [38, 35, 49, 48, 59]
  have e : escT true c = if c = 10 then some [38, 35, 49, 48, 59] else if c = 9 then some [38, 35, 57, 59] else if c = 34 then some [38, 113, 117, 111, 116, 59] else escT false c := by
    unfold escT
    repeat' split
    all_goals first | rfl | (exfalso; simp_all; done) | (exfalso; omega)
  rw [e]; exact h
def escD : Bool → DataW Unit
  | false => escD0
  | true => escD1
theorem looks (v : Bool) (c : Nat) : Looks (escD v) c (escT v c) := by
  cases v
  · exact looks0 c
  · exact looks1 c

/-- The block holds the map of what is escaped. -/
def EscMap (v : Bool) (w : World) (b : Nat) : Prop := ∃ n, n ≤ 7 ∧ w.ownsMap Tryz.prog 21 (plainElem (H := Unit) Tryz.prog 9) b n (escD v)
theorem EscMap.below {v : Bool} {w w' : World} {b B : Nat} (h : EscMap v w b) (hb : Below B w w') (hB : b < B) : EscMap v w' b := by
  obtain ⟨n, hn, es, clock, h1, r⟩ := h
  exact ⟨n, hn, es, clock, (hb.block b hB).trans h1, r⟩

theorem esc_look {v : Bool} {w : World} {b : Nat} (h : EscMap v w b) (c : Nat) (hc : (c : Int) ≤ 1114111) :
    (Instr.lookup 205 (.map (some b)) (.int .i32 c) true).run Tryz.prog w = .ok (.tuple #[.string (text ((escT v c).getD [])), .bool (escT v c).isSome]) w := by
  obtain ⟨n, _, hown⟩ := h
  have hmin : IntKind.i32.min = -2147483648 := by decide
  have hmax : IntKind.i32.max = 2147483647 := by decide
  have hk : keyOf Tryz.prog 21 (.int .i32 (c : Int)) = some (.int .i32 c) := Maps.keyOf_int_mk underR (by simp [Lit.wf, hmin, hmax]; omega)
  obtain ⟨x, ps, hrun, hv⟩ := World.ownsMap.look_ok hown (Maps.int_keyed underR) underM (Tryz.zeroValue9 w) (plainElem_string under9 (by decide)) hk
  obtain ⟨_, h1, h2⟩ := looks v c
  have e0 : (⟨#[]⟩ : ByteArray).data.toList = [] := rfl
  obtain ⟨s, rfl, hs, _⟩ := plainElem_string_inv under9 hv
  injection hs with hs _
  have h3 : (escD v).atKey (.int .i32 c) (.lit (.string [])) = .lit (.string s.data.toList) := hs
  rw [h2] at h3
  injection h3 with h3
  injection h3 with h3
  have e : s = text ((escT v c).getD []) := by rw [h3]; cases s; simp [text]
  rw [hrun, h1, e]

set_option maxHeartbeats 2000000 in
theorem textEscapes_any (w : World) : Calls Tryz.prog 151 #[] w fun e w' => e = .returned (.map (some w.heap.size)) ∧ w'.ownsMap Tryz.prog 21 (plainElem (H := Unit) Tryz.prog 9) w.heap.size 4 escD0 ∧ Below w.heap.size w w' ∧ w.heap.size < w'.heap.size := by
  have hmm := @run_makeMap Tryz.prog
  have hown := World.ownsMap_made (H := Unit) w Tryz.prog 21 (plainElem (H := Unit) Tryz.prog 9)
  have hB := ba (b0 w) (.map #[] 0)
  have hsz : w.heap.size < (w.alloc (.map #[] 0)).heap.size := by simp
  go_enter Tryz.func151, Tryz.ntmps151
  go_wp2_with (refine wpList_insert_own _ rfl _ _ _ 205 rfl 21 9 (Maps.int_keyed underR) underM (plainElem (H := Unit) Tryz.prog 9) _ _ _ rfl hown (by unfold maxLen; omega) _ _ _ rfl rfl (Maps.keyOf_int_mk underR (by decide)) _ [] (plainElem_string under9 (by decide)) ?_; clear hown; intro w1 hown hg1; replace hsz := Nat.lt_of_lt_of_le hsz hg1.size; replace hB := hB.grown hg1 hB.size (fun k e => by cases e; exact Nat.le_refl _); clear hg1)
  go_ret
  exact ⟨rfl, hown, hB, hsz⟩

set_option maxHeartbeats 2000000 in
theorem valueEscapes_any (w : World) : Calls Tryz.prog 150 #[] w fun e w' => e = .returned (.map (some w.heap.size)) ∧ EscMap true w' w.heap.size ∧ Below w.heap.size w w' ∧ w.heap.size < w'.heap.size := by
  have H := hid (textEscapes_any w)
  go_enter Tryz.func150, Tryz.ntmps150
  go_wp2_with fail
  refine H.out.mono ?_
  rintro e w1 ⟨rfl, hown, hB, hsz⟩
  go_wp2_with (refine wpList_mapUpdate_own _ rfl _ _ _ 205 rfl 21 9 (Maps.int_keyed underR) underM (plainElem (H := Unit) Tryz.prog 9) _ _ _ rfl hown (by unfold maxLen; omega) _ _ _ rfl rfl (Maps.keyOf_int_mk underR (by decide)) _ [] (plainElem_string under9 (by decide)) ?_; clear hown; intro w1 hown hg1; replace hsz := Nat.lt_of_lt_of_le hsz hg1.size; replace hB := hB.grown hg1 hB.size (fun k e => by cases e; exact Nat.le_refl _); clear hg1)
  go_ret
  exact ⟨rfl, ⟨7, Nat.le_refl _, hown⟩, hB, hsz⟩
theorem textEscapes_map (w : World) : Calls Tryz.prog 151 #[] w fun e w' => e = .returned (.map (some w.heap.size)) ∧ EscMap false w' w.heap.size ∧ Below w.heap.size w w' ∧ w.heap.size < w'.heap.size := by
  refine (textEscapes_any w).mono ?_
  rintro e w' ⟨rfl, h, hb, hs⟩
  exact ⟨rfl, ⟨4, by omega, h⟩, hb, hs⟩
end Go.Proofs.YtddhnlnobmmimaaGreatDoor.Ent
