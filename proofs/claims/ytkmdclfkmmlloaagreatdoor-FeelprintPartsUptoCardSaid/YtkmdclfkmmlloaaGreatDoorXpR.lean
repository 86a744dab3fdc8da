/- Layer 10: the reader's map of names that are met; contracts of has, meet, leave, brought. -/
import Derived.Test.YtkmdclfkmmlloaaGreatDoorXpT
import Derived.Test.YtkmdclfkmmlloaaGreatDoorXbX
import Derived.Test.YtkmdclfkmmlloaaGreatDoorXbS
import Derived.Maps.Views
import Derived.Maps.OwnSet
set_option linter.unusedVariables false
set_option linter.unusedSimpArgs false
namespace Go.Proofs.YtkmdclfkmmlloaaGreatDoor.Xp
open Go Go.Proofs.YtkmdclfkmmlloaaGreatDoor Go.Proofs.YtkmdclfkmmlloaaGreatDoor.Utf Go.Proofs.YtkmdclfkmmlloaaGreatDoor.Names Go.Proofs.YtkmdclfkmmlloaaGreatDoor.Sc Go.RowKit
set_option maxRecDepth 100000

theorem undI : Tryz.prog.underlying 3 = some (.int .i64) := Tryz.underlying3
theorem undStr : Tryz.prog.underlying 9 = some .string := Tryz.underlying9
theorem key_of (x : Nam) (hx : x.length ≤ 2000000) : keyOf Tryz.prog 9 (.string (text x)) = some (.string x) := by
  have := WideMaps.keyOf_string_mk (P := Tryz.prog) undStr (s := text x) (by rw [text_size]; unfold maxLen; omega)
  rw [text_data] at this
  exact this
/-- The block holds how often each name was met. -/
def MetAt (w : World) (b : Nat) (B : List Nam) (n : Nat) : Prop :=
  ∃ D : DataW Unit, w.ownsMap Tryz.prog 9 (plainElem (H := Unit) Tryz.prog 3) b n D ∧ Maps.size D = few B ∧
    ∀ x : Nam, Maps.has D (.string x) = decide (x ∈ B) ∧ D.atKey (.string x) (.lit (.int .i64 0)) = .lit (.int .i64 (B.count x))
section
variable {w w' : World} {b n : Nat} {B C : List Nam}
theorem MetAt.lt (h : MetAt w b B n) : b < w.heap.size := by obtain ⟨D, h, _⟩ := h; exact h.lt
theorem MetAt.kept {row : Option Nat} (h : MetAt w b B n) (hg : w.grownBy w' row) (hne : some b ≠ row) : MetAt w' b B n := by
  obtain ⟨D, h1, h2⟩ := h
  exact ⟨D, h1.kept hg hne, h2⟩
theorem MetAt.keep {A : Nat → Prop} (h : MetAt w b B n) (hk : Keep A w w') (hb : ¬ A b) : MetAt w' b B n := by
  obtain ⟨D, ⟨es, clock, h1, r⟩, h2⟩ := h
  exact ⟨D, ⟨es, clock, hk.cell h1 hb, r⟩, h2⟩
theorem MetAt.mono {m : Nat} (h : MetAt w b B n) (hm : n ≤ m) : MetAt w b B m := by obtain ⟨D, h1, h2⟩ := h; exact ⟨D, h1.mono hm, h2⟩
theorem MetAt.made (w : World) : MetAt (w.alloc (.map #[] 0)) w.heap.size [] 0 := by
  have := World.ownsMap_made (H := Unit) w Tryz.prog 9 (plainElem (H := Unit) Tryz.prog 3)
  exact ⟨_, this, few_nil.symm, fun x => ⟨rfl, rfl⟩⟩
theorem isKey (x : Nam) : WideAt.IsKeyLit (.string x) := by simp [WideAt.IsKeyLit]
theorem str_ne {x y : Nam} (h : y ≠ x) : (Lit.string y) ≠ .string x := fun q => h (by injection q)
end
theorem MetAt.map {w : World} {b n : Nat} {B : List Nam} (h : MetAt w b B n) : ∃ es c, w.heap[b]? = some (.map es c) := by
  obtain ⟨D, ⟨es, c, h, _⟩, _⟩ := h
  exact ⟨es, c, h⟩
/-- A row isn't the map's block. -/
theorem row_map {w : World} {b n : Nat} {v : Value} {xs : List Value} {sz : Nat} (hs : 0 < sz) (h : Row sz w v n xs) (hn : 0 < n) {es : Array MapEntry} {c : Nat} (hm : w.heap[b]? = some (.map es c)) {k : Nat} (hk : v.ownBlock = some k) : k ≠ b := by
  intro e
  subst e
  obtain ⟨⟨a, cp, hv, h5⟩, h6⟩ := h
  have hx : 0 < xs.length := by rw [h6]; exact Nat.mul_pos hn hs
  obtain ⟨b', off, rfl, h9⟩ := h5.2.2.2.2 hx
  have hb : b' = k := by rw [hv] at hk; simpa [Value.ownBlock] using hk
  subst hb
  have hc := h9 0 _ (List.getElem?_eq_getElem hx)
  simp [World.cell?, hm] at hc
section
variable {W0 : World} {rb mb n : Nat} {p : Option Addr} {N B : List Nam} {most : Int} {f : Value}
end
theorem strs_lit (w : World) (l : List Nam) (hl : l.length ≤ 1000) : Strs (w.alloc (.cells (strsOf l).toArray 9)) (.slice (some ⟨w.heap.size, 0, none⟩) l.length l.length) l := by
  have := Row.ofBuild (sz := 1) w (strsOf l).toArray 9 l.length (by simp [strsOf_length]) (by omega)
  simpa [Strs] using this
end Go.Proofs.YtkmdclfkmmlloaaGreatDoor.Xp
