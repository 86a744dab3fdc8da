/- Layer 10: expressions in memory. -/
import Derived.Test.YtkmdclfkmmlloaaGreatDoorXbX
import Derived.Test.YtkmdclfkmmlloaaGreatDoorXpLib
set_option linter.unusedVariables false
set_option linter.unusedSimpArgs false
namespace Go.Proofs.YtkmdclfkmmlloaaGreatDoor.Xp
open Go Go.Proofs.YtkmdclfkmmlloaaGreatDoor Go.RowKit
set_option maxRecDepth 100000

theorem undE : Tryz.prog.underlying 23 = some (.slice 25) := Tryz.underlying23
theorem sizE (W : World) : (sizeOf 25).run Tryz.prog W = .ok 4 W := Tryz.sizeOf25 W
theorem undS : Tryz.prog.underlying 22 = some (.slice 9) := Tryz.underlying22
theorem sizS (W : World) : (sizeOf 9).run Tryz.prog W = .ok 1 W := Tryz.sizeOf9 W
/-- The cells of an expression whose Names' row and whose parts' row are these. -/
def ecells (x : Ex × Value × Value) : List Value := [.int .i64 x.1.kind, .string (text x.1.s), x.2.1, x.2.2]
inductive IsE (w : World) : Ex → Value → Value → Prop
  | mk {k : Int} {s : List UInt8} {nm : List (List UInt8)} {nv pv : Value} (r : List (Ex × Value × Value)) (hn : Strs w nv nm) (hp : Row 4 w pv r.length (r.flatMap ecells)) (hr : ∀ x ∈ r, IsE w x.1 x.2.1 x.2.2) : IsE w (.mk k s nm (r.map (·.1))) nv pv
/-- Expressions in a row. -/
def Exs (w : World) (v : Value) (l : List Ex) : Prop := ∃ r : List (Ex × Value × Value), r.map (·.1) = l ∧ Row 4 w v r.length (r.flatMap ecells) ∧ ∀ x ∈ r, IsE w x.1 x.2.1 x.2.2
theorem IsE.later {w w' : World} {e : Ex} {nv pv : Value} (h : IsE w e nv pv) (hb : Below w.heap.size w w') : IsE w' e nv pv := by
  induction h with
  | mk r hn hp hr ih => exact .mk r (hn.below hb (Nat.le_refl _)) (hp.below hb (Nat.le_refl _)) (fun x hx => ih x hx)
theorem Exs.later {w w' : World} {v : Value} {l : List Ex} (h : Exs w v l) (hb : Below w.heap.size w w') : Exs w' v l := by
  obtain ⟨r, h1, h2, h3⟩ := h
  exact ⟨r, h1, h2.below hb (Nat.le_refl _), fun x hx => (h3 x hx).later hb⟩
theorem IsE.parts {w : World} {e : Ex} {nv pv : Value} (h : IsE w e nv pv) : Strs w nv e.nm ∧ Exs w pv e.l := by
  cases h with
  | mk r hn hp hr => exact ⟨hn, r, rfl, hp, hr⟩
theorem IsE.of {w : World} {k : Int} {s : List UInt8} {nm : List (List UInt8)} {l : List Ex} {nv pv : Value} (hn : Strs w nv nm) (hp : Exs w pv l) : IsE w (.mk k s nm l) nv pv := by
  obtain ⟨r, rfl, h2, h3⟩ := hp
  exact .mk r hn h2 h3
theorem Exs.nil (w : World) : Exs w (.slice none 0 0) [] := ⟨[], rfl, Row.nil 4 w, fun x hx => by cases hx⟩
/-- An expression's value. -/
def exV (e : Ex) (nv pv : Value) : Value := .agg #[.int .i64 e.kind, .string (text e.s), nv, pv]
theorem Strs.one {w : World} {v : Value} {l : List (List UInt8)} (h : Strs w v l) : v.oneCell' = true := by
  obtain ⟨⟨a, c, rfl, _⟩, _⟩ := h
  rfl
theorem Strs.form {w : World} {v : Value} {l : List (List UInt8)} (h : Strs w v l) : ∃ o n c, v = .slice o n c := by
  obtain ⟨⟨a, c, h1, _⟩, _⟩ := h
  exact ⟨_, _, _, h1⟩
theorem Exs.one {w : World} {v : Value} {l : List Ex} (h : Exs w v l) : v.oneCell' = true := by
  obtain ⟨r, _, ⟨⟨a, c, rfl, _⟩, _⟩, _⟩ := h
  rfl
theorem Exs.form {w : World} {v : Value} {l : List Ex} (h : Exs w v l) : ∃ o n c, v = .slice o n c := by
  obtain ⟨r, _, ⟨⟨a, c, h1, _⟩, _⟩, _⟩ := h
  exact ⟨_, _, _, h1⟩
theorem Exs.le {w : World} {v : Value} {l : List Ex} (h : Exs w v l) : l.length ≤ 281474976710656 := by
  obtain ⟨r, rfl, h2, _⟩ := h
  rw [List.length_map]
  exact h2.le
/-- An expression at a place. -/
structure ExAt (w : World) (b o : Nat) (e : Ex) (nv pv : Value) : Prop where
  c0 : w.cell? ⟨b, o, none⟩ = some (.int .i64 e.kind)
  c1 : w.cell? ⟨b, o + 1, none⟩ = some (.string (text e.s))
  c2 : w.cell? ⟨b, o + 2, none⟩ = some nv
  c3 : w.cell? ⟨b, o + 3, none⟩ = some pv
  is : IsE w e nv pv
theorem ExAt.later {w w' : World} {b o : Nat} {e : Ex} {nv pv : Value} (h : ExAt w b o e nv pv) (hb : Below w.heap.size w w') : ExAt w' b o e nv pv := by
  have hl := World.block_lt_of_cell? _ _ h.c0
  exact ⟨(hb.cell (p := ⟨b, o, none⟩) hl).trans h.c0, (hb.cell (p := ⟨b, o + 1, none⟩) hl).trans h.c1, (hb.cell (p := ⟨b, o + 2, none⟩) hl).trans h.c2, (hb.cell (p := ⟨b, o + 3, none⟩) hl).trans h.c3, h.is.later hb⟩
/-- One of a row. -/
theorem Exs.at {w : World} {v : Value} {l : List Ex} (h : Exs w v l) (i : Nat) (hi : i < l.length) :
    ∃ b o nv pv, (∀ k W, (Instr.indexAt 23 v (.int k i)).run Tryz.prog W = .ok (.pointer (some ⟨b, o, none⟩)) W) ∧ ExAt w b o l[i] nv pv := by
  obtain ⟨r, rfl, h2, h3⟩ := h
  have hi' : i < r.length := by simpa using hi
  obtain ⟨b, o, a1, a2⟩ := Row.at h2 (by omega) i hi' 23 25 undE sizE
  have g : ∀ j, j < 4 → (r.flatMap ecells)[i * 4 + j]? = (ecells r[i])[j]? := fun j hj => by
    rw [flat_get 4 ecells (fun _ => rfl) r i j hj, List.getElem?_eq_getElem hi']; rfl
  have e : (r.map (·.1))[i] = r[i].1 := by simp
  rw [e]
  exact ⟨b, o, r[i].2.1, r[i].2.2, a1, ⟨by simpa using a2 0 _ (by omega) (by rw [g 0 (by omega)]; rfl), a2 1 _ (by omega) (by rw [g 1 (by omega)]; rfl), a2 2 _ (by omega) (by rw [g 2 (by omega)]; rfl), a2 3 _ (by omega) (by rw [g 3 (by omega)]; rfl), h3 _ (List.getElem_mem hi')⟩⟩
theorem Exs.len {w : World} {v : Value} {l : List Ex} (h : Exs w v l) (ty : TypeId) (W : World) : (Builtin.len_ #[23] ty #[v]).run Tryz.prog W = .ok (.int .i64 l.length) W := by
  obtain ⟨r, rfl, h2, _⟩ := h
  rw [List.length_map]
  exact Row.len h2 23 ty 25 undE W
/-- All but the first ones. -/
theorem Exs.drop {w : World} {v : Value} {l : List Ex} (h : Exs w v l) (i : Nat) (hi : i ≤ l.length) :
    ∃ v', (∀ W k, (Instr.slice 23 v (some (.int k i)) none none).run Tryz.prog W = .ok v' W) ∧ Exs w v' (l.drop i) := by
  obtain ⟨r, rfl, h2, h3⟩ := h
  have hi' : i ≤ r.length := by simpa using hi
  obtain ⟨v', _, hrun, _, hrow⟩ := Row.sub h2 i r.length hi' (Nat.le_refl _) 23 25 undE sizE
  have e1 : ((r.flatMap ecells).drop (i * 4)).take ((r.length - i) * 4) = (r.drop i).flatMap ecells := by
    have h4 : (r.take i).flatMap ecells ++ (r.drop i).flatMap ecells = r.flatMap ecells := by rw [← List.flatMap_append, List.take_append_drop]
    have h5 := flat_len 4 ecells (fun _ => rfl) (r.take i)
    have h6 := flat_len 4 ecells (fun _ => rfl) (r.drop i)
    rw [List.length_take, Nat.min_eq_left hi'] at h5
    rw [List.length_drop] at h6
    rw [← h4, ← h5, List.drop_left, ← h6, List.take_length]
  rw [e1] at hrow
  exact ⟨v', fun W k => hrun rfl k W, r.drop i, by rw [List.map_drop], by rw [List.length_drop]; exact hrow, fun x hx => h3 x (List.mem_of_mem_drop hx)⟩
/-- A row that is written out. -/
theorem Exs.made {w : World} (r : List (Ex × Value × Value)) (hr : ∀ x ∈ r, IsE w x.1 x.2.1 x.2.2) (hl : r.length ≤ 1000) (m : Nat × Nat := (0, 0)) :
    Exs (w.alloc (.cells (r.flatMap ecells).toArray 25 m)) (.slice (some ⟨w.heap.size, 0, none⟩) r.length r.length) (r.map (·.1)) := by
  have hfl := flat_len 4 ecells (fun _ => rfl) r
  have := Row.ofBuild (sz := 4) w (r.flatMap ecells).toArray 25 r.length (by simpa using hfl) (by omega) m
  exact ⟨r, rfl, by simpa using this, fun x hx => (hr x hx).later ((Below.refl _ w).alloc (Nat.le_refl _) _)⟩
end Go.Proofs.YtkmdclfkmmlloaaGreatDoor.Xp
