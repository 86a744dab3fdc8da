/- Layer 10: contracts of Scoped and Free. -/
import Derived.Test.YtkmdclfkmmlloaaGreatDoorXpE
import Derived.Test.YtkmdclfkmmlloaaGreatDoorIterShelf
set_option linter.unusedVariables false
set_option linter.unusedSimpArgs false
namespace Go.Proofs.YtkmdclfkmmlloaaGreatDoor.Xp
open Go Go.Proofs.YtkmdclfkmmlloaaGreatDoor Go.Proofs.YtkmdclfkmmlloaaGreatDoor.Utf Go.Proofs.YtkmdclfkmmlloaaGreatDoor.Names Go.Proofs.YtkmdclfkmmlloaaGreatDoor.Sc Go.RowKit Go.Shelf Go.Maps
set_option maxRecDepth 100000

attribute [local go_sem] run_store_fn run_store_nofn
/-- What Scoped tells. -/
def scopedV (N : List Nam) (e : Ex) : Int := if 200 < e.depth then 9 else (rd N 4096 13 e [] []).1
/-- What Free tells. -/
def freeV (e : Ex) : List Nam := if 200 < e.depth then [] else norm (rd [] 9223372036854775807 0 e [] []).2
def isStr : Lit → Bool
  | .string _ => true
  | _ => false
/-- All keys are texts. -/
def StrD (D : DataW Unit) : Prop := ∃ es, D = .map es ∧ es.any (fun p => !isStr p.1) = false
theorem StrD.put {D : DataW Unit} (h : StrD D) (x : Nam) (d : DataW Unit) : StrD (D.put (.string x) d) := by
  obtain ⟨es, rfl, h1⟩ := h
  refine ⟨_, rfl, ?_⟩
  rw [Maps.any_insert, Bool.or_eq_false_iff]
  refine ⟨rfl, ?_⟩
  rw [List.any_eq_false] at h1 ⊢
  intro p hp
  exact h1 p (List.mem_filter.1 hp).1
/-- The block holds these names, and texts alone. -/
def SetS (w : World) (b : Nat) (F : List Nam) (n : Nat) : Prop :=
  ∃ D : DataW Unit, w.ownsMap Tryz.prog 9 (plainElem (H := Unit) Tryz.prog 4) b n D ∧ StrD D ∧ ∀ x : Nam, Maps.has D (.string x) = decide (x ∈ F)
theorem SetS.keep {w w' : World} {b n : Nat} {F : List Nam} {A : Nat → Prop} (h : SetS w b F n) (hk : Keep A w w') (hb : ¬ A b) : SetS w' b F n := by
  obtain ⟨D, ⟨es, clock, h1, r⟩, h2⟩ := h
  exact ⟨D, ⟨es, clock, hk.cell h1 hb, r⟩, h2⟩
theorem SetS.made (w : World) : SetS (w.alloc (.map #[] 0)) w.heap.size [] 0 := by
  have := World.ownsMap_made (H := Unit) w Tryz.prog 9 (plainElem (H := Unit) Tryz.prog 4)
  exact ⟨_, this, ⟨[], rfl, rfl⟩, fun x => rfl⟩
theorem SetS.plus {w : World} {b n : Nat} {F : List Nam} (h : SetS w b F n) (hn : n < 281474976710656) (x : Nam) (hx : x.length ≤ 2000000) :
    ∃ w', (Instr.mapUpdate 54 (.map (some b)) (.string (text x)) (.bool true)).run Tryz.prog w = .ok () w' ∧ SetS w' b (x :: F) (n + 1) ∧ w.grownBy w' (some b) := by
  obtain ⟨D, h1, h2, h3⟩ := h
  obtain ⟨w1, hrun, own1, hg1⟩ := h1.update (Maps.string_keyed undStr) undSet (by unfold maxLen; omega) (key_of x hx) (plainElem_bool (H := Unit) undBool true)
  refine ⟨w1, hrun, ⟨_, own1, h2.put x _, fun y => ?_⟩, hg1⟩
  by_cases e : y = x
  · subst e
    rw [Maps.has_put_same h1.isMap (isKey y)]
    simp
  · rw [Maps.has_put_other (str_ne e), h3 y]
    simp [e]
/-- What is lacking is noted in a map. -/
def NoteAt (fb fm : Nat) (X : World) (F : List Nam) : Prop := X.heap[fb]? = some (.cells #[.map (some fm)] 54 (0, 0)) ∧ SetS X fm F F.length
/-- The keys of a set of names, sorted. -/
theorem keys_norm {D : DataW Unit} {F ss : List Nam} (ht : Maps.Tidy D) (hstr : StrD D) (hD : ∀ x : Nam, Maps.has D (.string x) = decide (x ∈ F)) (hp : ss.Perm (strKeys D)) : ss.mergeSort (fun x y => decide (x ≤ y)) = norm F := by
  obtain ⟨es, rfl, hn⟩ := ht
  have hs : ∀ p ∈ es, ∃ x, p.1 = .string x := by
    obtain ⟨es', e1, e2⟩ := hstr
    injection e1 with e1
    subst e1
    intro p hp
    have := List.any_eq_false.1 e2 p hp
    cases hq : p.1 with
    | string x => exact ⟨x, rfl⟩
    | _ => rw [hq] at this; exact absurd rfl this
  have hmem : ∀ x, x ∈ strKeys (.map es : DataW Unit) ↔ x ∈ F := by
    intro x
    have h1 := hD x
    rw [Maps.has_eq, Bool.eq_iff_iff, List.any_eq_true, decide_eq_true_iff] at h1
    rw [← h1]
    simp only [strKeys, List.mem_map]
    constructor
    · rintro ⟨p, hp, rfl⟩
      obtain ⟨y, hy⟩ := hs p hp
      exact ⟨p, hp, by rw [hy]; simp [strOf, Lit.sameKey]⟩
    · rintro ⟨p, hp, h⟩
      obtain ⟨y, hy⟩ := hs p hp
      refine ⟨p, hp, ?_⟩
      rw [hy] at h ⊢
      simpa [strOf, Lit.sameKey] using h
  have hnd : (strKeys (.map es : DataW Unit)).Nodup := by
    simp only [strKeys]
    refine List.pairwise_map.2 (hn.imp_of_mem fun {p q} hp hq h => ?_)
    obtain ⟨y, hy⟩ := hs p hp
    obtain ⟨z, hz⟩ := hs q hq
    rw [hy, hz] at h ⊢
    simpa [strOf] using h
  have hnd2 : (srt ss).Nodup := ((srt_perm ss).nodup_iff).2 ((hp.nodup_iff).2 hnd)
  refine Rise.unique ?_ (norm_facts F).1 fun z => ?_
  · have h1 := srt_rise ss
    refine List.Pairwise.imp₂ (fun a b h2 h3 => ?_) h1 hnd2
    rcases less_total h3 with h | h
    · exact h
    · rw [h] at h2; cases h2
  · rw [(norm_facts F).2.1, ← hmem, ← hp.mem_iff]
    exact (srt_perm ss).mem_iff
end Go.Proofs.YtkmdclfkmmlloaaGreatDoor.Xp
