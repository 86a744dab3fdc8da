/- Layer 10: contracts of Scoped and Free. -/
import Derived.Test.YtkmdclfkmmlloaaGreatDoorXpE
import Derived.Test.YtkmdclfkmmlloaaGreatDoorIterShelf
set_option linter.unusedVariables false
set_option linter.unusedSimpArgs false
namespace Go.Proofs.YtkmdclfkmmlloaaGreatDoor.Xp
open Go Go.Proofs.YtkmdclfkmmlloaaGreatDoor Go.Proofs.YtkmdclfkmmlloaaGreatDoor.Utf Go.Proofs.YtkmdclfkmmlloaaGreatDoor.Names Go.Proofs.YtkmdclfkmmlloaaGreatDoor.Sc Go.RowKit Go.Shelf Go.Maps
set_option maxRecDepth 100000

attribute [local go_sem] run_store_fn run_store_nofn
def isStr : Lit → Bool
  | .string _ => true
  | _ => false
/-- All keys are texts. -/
def StrD (D : DataW Unit) : Prop := ∃ es, D = .map es ∧ es.any (fun p => !isStr p.1) = false
theorem StrD.put {D : DataW Unit} (h : StrD D) (x : Nam) (d : DataW Unit) : StrD (D.put (.string x) d) := by
  obtain ⟨es, rfl, h1⟩ := h
  refine ⟨_, rfl, ?_⟩
  rw [Maps.any_insert, Bool.or_eq_false_iff]
  refine ⟨rfl, ?_⟩
  rw [List.any_eq_false] at h1 ⊢
  intro p hp
  exact h1 p (List.mem_filter.1 hp).1
/-- The block holds these names, and texts alone. -/
def SetS (w : World) (b : Nat) (F : List Nam) (n : Nat) : Prop :=
  ∃ D : DataW Unit, w.ownsMap Tryz.prog 9 (plainElem (H := Unit) Tryz.prog 4) b n D ∧ StrD D ∧ ∀ x : Nam, Maps.has D (.string x) = decide (x ∈ F)
theorem SetS.keep {w w' : World} {b n : Nat} {F : List Nam} {A : Nat → Prop} (h : SetS w b F n) (hk : Keep A w w') (hb : ¬ A b) : SetS w' b F n := by
  obtain ⟨D, ⟨es, clock, h1, r⟩, h2⟩ := h
  exact ⟨D, ⟨es, clock, hk.cell h1 hb, r⟩, h2⟩
theorem SetS.made (w : World) : SetS (w.alloc (.map #[] 0)) w.heap.size [] 0 := by
  have := World.ownsMap_made (H := Unit) w Tryz.prog 9 (plainElem (H := Unit) Tryz.prog 4)
  exact ⟨_, this, ⟨[], rfl, rfl⟩, fun x => rfl⟩
theorem SetS.plus {w : World} {b n : Nat} {F : List Nam} (h : SetS w b F n) (hn : n < 281474976710656) (x : Nam) (hx : x.length ≤ 2000000) :
    ∃ w', (Instr.mapUpdate 54 (.map (some b)) (.string (text x)) (.bool true)).run Tryz.prog w = .ok () w' ∧ SetS w' b (x :: F) (n + 1) ∧ w.grownBy w' (some b) := by
  obtain ⟨D, h1, h2, h3⟩ := h
  obtain ⟨w1, hrun, own1, hg1⟩ := h1.update (Maps.string_keyed undStr) undSet (by unfold maxLen; omega) (key_of x hx) (plainElem_bool (H := Unit) undBool true)
  refine ⟨w1, hrun, ⟨_, own1, h2.put x _, fun y => ?_⟩, hg1⟩
  by_cases e : y = x
  · subst e
    rw [Maps.has_put_same h1.isMap (isKey y)]
    simp
  · rw [Maps.has_put_other (str_ne e), h3 y]
    simp [e]
end Go.Proofs.YtkmdclfkmmlloaaGreatDoor.Xp
