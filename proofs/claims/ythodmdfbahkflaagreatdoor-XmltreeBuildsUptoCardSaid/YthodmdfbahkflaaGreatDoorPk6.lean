/- Layer 5: contracts of the document's fail, space, gives, may. | Plain mathematics of layer 5: what the document's element knows on its way. | Layer 5: the document's element: what it has in memory. -/
import Derived.Test.YthodmdfbahkflaaGreatDoorPk5
import Derived.Test.YthodmdfbahkflaaGreatDoorTrB
import Derived.Test.YthodmdfbahkflaaGreatDoorTkY
import Derived.BigQuiet
import Derived.Deep.QuietTactic
set_option linter.unusedVariables false
set_option linter.unusedSimpArgs false
namespace Go.Proofs.YthodmdfbahkflaaGreatDoor.Tree
open Go Go.Proofs.YthodmdfbahkflaaGreatDoor Go.Proofs.YthodmdfbahkflaaGreatDoor.Utf Go.Proofs.YthodmdfbahkflaaGreatDoor.Names Go.Proofs.YthodmdfbahkflaaGreatDoor.Ent Go.Proofs.YthodmdfbahkflaaGreatDoor.Tok Go.RowKit
set_option maxRecDepth 100000
/-- The document's builder. -/
def rbC (tv : Value) (i : Nat) (en a e : Int) : Array Value := #[tv, .int .i64 i, .int .i64 en, .int .i64 a, .int .i64 e]
def RB (w : World) (B : Nat) (tv : Value) (i : Nat) (en a e : Int) : Prop := w.heap[B]? = some (.cells (rbC tv i en a e) 53 (0, 0))
theorem RB.lt {w : World} {B : Nat} {tv : Value} {i : Nat} {en a e : Int} (h : RB w B tv i en a e) : B < w.heap.size := lt_of_some h
theorem RB.cells {w : World} {B : Nat} {tv : Value} {i : Nat} {en a e : Int} (h : RB w B tv i en a e) :
    w.cell? ⟨B, 0, none⟩ = some tv ∧ w.cell? ⟨B, 1, none⟩ = some (.int .i64 i) ∧ w.cell? ⟨B, 2, none⟩ = some (.int .i64 en) ∧ w.cell? ⟨B, 3, none⟩ = some (.int .i64 a) ∧ w.cell? ⟨B, 4, none⟩ = some (.int .i64 e) := by
  unfold RB at h
  refine ⟨?_, ?_, ?_, ?_, ?_⟩ <;> (rw [Lib.cell_of_heap h]; rfl)
theorem RB.frozen {w : World} {B : Nat} {tv : Value} {i : Nat} {en a e : Int} (h : RB w B tv i en a e) (j : Nat) : w.frozen? ⟨B, j, none⟩ = false := Lib.frozen_of_heap h j
theorem RB.same {w w' : World} {B : Nat} {tv : Value} {i : Nat} {en a e : Int} (h : RB w B tv i en a e) (hb : w'.heap[B]? = w.heap[B]?) : RB w' B tv i en a e := hb.trans h
theorem RB.set1 {w : World} {B : Nat} {tv : Value} {i : Nat} {en a e : Int} (h : RB w B tv i en a e) (j : Nat) : RB (w.setCell ⟨B, 1, none⟩ (.int .i64 j)) B tv j en a e := by
  unfold RB at h ⊢
  simp [World.setCell, Array.getElem?_modify, h, rbC]
theorem RB.set34 {w : World} {B : Nat} {tv : Value} {i : Nat} {en a e : Int} (h : RB w B tv i en a e) (a' e' : Int) : RB ((w.setCell ⟨B, 3, none⟩ (.int .i64 a')).setCell ⟨B, 4, none⟩ (.int .i64 e')) B tv i en a' e' := by
  unfold RB at h ⊢
  simp [World.setCell, Array.getElem?_modify, h, rbC]
theorem Keep.mono {A A' : Nat → Prop} {w w' : World} (h : Keep A w w') (hA : ∀ b, A b → A' b) : Keep A' w w' := ⟨h.os, h.tape, h.output, h.size, fun b hb hn => h.block b hb (fun q => hn (hA b q))⟩
theorem Keep.tr {A : Nat → Prop} {w w1 w2 : World} (h : Keep A w w1) (k : Keep A w1 w2) : Keep A w w2 := h.trans k (fun _ _ q => q)
/-- What is wrong first. -/
def fstA (a e a' : Int) : Int := if e = 0 then a' else a
def fstE (e e' : Int) : Int := if e = 0 then e' else e
set_option maxHeartbeats 1000000 in
theorem fail_any {B : Nat} {tv : Value} {i : Nat} {en a e : Int} (a' e' : Int) (w : World) (h : RB w B tv i en a e) :
    Calls Tryz.prog 13 #[.pointer (some ⟨B, 0, none⟩), .int .i64 a', .int .i64 e'] w fun r w' => r = .returned (.tuple #[]) ∧ RB w' B tv i en (fstA a e a') (fstE e e') ∧ Keep (fun b => b = B) w w' := by
  obtain ⟨c0, c1, c2, c3, c4⟩ := h.cells
  have f3 := h.frozen 3
  have f4 := h.frozen 4
  have H := hid h
  by_cases he : e = 0
  · have E : fstA a e a' = a' ∧ fstE e e' = e' := by unfold fstA fstE; rw [if_pos he, if_pos he]; exact ⟨rfl, rfl⟩
    rw [E.1, E.2]
    subst he
    clear h E
    go_enter Tryz.func13, Tryz.ntmps13
    go_wp2
    go_end0
    exact ⟨rfl, H.out.set34 a' e', (Keep.set (A := fun b => b = B) w B 3 (.int .i64 a') rfl).tr (Keep.set (A := fun b => b = B) (w.setCell ⟨B, 3, none⟩ (.int .i64 a')) B 4 (.int .i64 e') rfl)⟩
  · have E : fstA a e a' = a ∧ fstE e e' = e := by unfold fstA fstE; rw [if_neg he, if_neg he]; exact ⟨rfl, rfl⟩
    rw [E.1, E.2]
    have q : (e == 0) = false := by rw [beq_eq_false_iff_ne]; exact he
    clear h E he
    go_enter Tryz.func13, Tryz.ntmps13
    go_wp2
    go_end0
    exact ⟨rfl, H.out, Keep.refl _ _⟩
/-! The namespaces that are given, the last one behind. -/
def gcells (x : List UInt8 × List UInt8) : List Value := [.string (text x.1), .string (text x.2)]
def Givs (w : World) (v : Value) (g : Sp) : Prop := Row 2 w v g.length (g.reverse.flatMap gcells)
theorem gcells_one (l : Sp) : ∀ u ∈ l.flatMap gcells, u.oneCell' = true := by
  intro u hu
  obtain ⟨p, _, h⟩ := List.mem_flatMap.1 hu
  simp only [gcells, List.mem_cons, List.mem_nil_iff, or_false] at h
  rcases h with rfl | rfl <;> rfl
theorem undG : Tryz.prog.underlying 59 = some (.slice 58) := Tryz.underlying59
theorem sizG (W : World) : (sizeOf 58).run Tryz.prog W = .ok 2 W := Tryz.sizeOf58 W
theorem Givs.below {w w' : World} {v : Value} {g : Sp} (h : Givs w v g) (hb : Below w.heap.size w w') : Givs w' v g := Row.below h hb (Nat.le_refl _)
theorem Givs.at {w : World} {v : Value} {g : Sp} (h : Givs w v g) (i : Nat) (hi : i < g.length) : ∃ b o, (∀ k W, (Instr.indexAt 59 v (.int k i)).run Tryz.prog W = .ok (.pointer (some ⟨b, o, none⟩)) W) ∧
      w.cell? ⟨b, o, none⟩ = some (.string (text (g.reverse[i]'(by simpa using hi)).1)) ∧ w.cell? ⟨b, o + 1, none⟩ = some (.string (text (g.reverse[i]'(by simpa using hi)).2)) := by
  have hi' : i < g.reverse.length := by simpa using hi
  obtain ⟨b, o, a1, a2⟩ := Row.at h (by omega) i hi 59 58 undG sizG
  have q : ∀ j, j < 2 → (g.reverse.flatMap gcells)[i * 2 + j]? = (gcells g.reverse[i])[j]? := fun j hj => by
    rw [flat_get 2 gcells (fun _ => rfl) g.reverse i j hj, List.getElem?_eq_getElem hi']; rfl
  exact ⟨b, o, a1, by have := a2 0 _ (by omega) (by rw [q 0 (by omega)]; rfl); rw [Nat.add_zero] at this; exact this, a2 1 _ (by omega) (by rw [q 1 (by omega)]; rfl)⟩
/-- A row of structs that lies off what changes. -/
theorem Givs.keep {w w' : World} {A : Nat → Prop} {v : Value} {g : Sp} (h : Givs w v g) (hk : Keep A w w') (ho : Off A v g.length) : Givs w' v g := Row.same (by omega) h (fun hn b hb hl => hk.block b hl (ho hn b hb))
theorem get_rev (g : Sp) (p : List UInt8) (k : Nat) (hk : k < g.length) (hn : ∀ j (hj : j < g.length), k < j → (g.reverse[j]'(by simpa using hj)).1 ≠ p) (he : (g.reverse[k]'(by simpa using hk)).1 = p) : get g p = some (g.reverse[k]'(by simpa using hk)).2 := by
  have hr : ∀ j (hj : j < g.length), g.reverse[j]'(by simpa using hj) = g[g.length - 1 - j]'(by omega) := fun j hj => by rw [List.getElem_reverse]
  have key : ∀ (g : Sp) (m : Nat) (hm : m < g.length), (∀ j (hj : j < m), (g[j]'(by omega)).1 ≠ p) → g[m].1 = p → get g p = some g[m].2 := by
    intro g
    induction g with
    | nil => intro m hm; simp at hm
    | cons x r ih =>
      intro m hm h1 h2
      cases m with
      | zero =>
        simp only [List.getElem_cons_zero] at h2 ⊢
        unfold get
        rw [List.find?_cons, h2]
        simp
      | succ m =>
        have h0 := h1 0 (by omega)
        simp only [List.getElem_cons_zero] at h0
        have hb : (x.1 == p) = false := beq_eq_false_iff_ne.2 h0
        unfold get
        rw [List.find?_cons, hb]
        have := ih m (by simpa using hm) (fun j hj => by have := h1 (j + 1) (by omega); simpa using this) (by simpa using h2)
        unfold get at this
        simpa using this
  rw [hr k hk] at he ⊢
  refine key g _ _ (fun j hj => ?_) he
  have := hn (g.length - 1 - j) (by omega) (by omega)
  rw [hr _ (by omega)] at this
  have e : g.length - 1 - (g.length - 1 - j) = j := by omega
  simpa [e] using this
theorem get_rev_none (g : Sp) (p : List UInt8) (hn : ∀ j (hj : j < g.length), (g.reverse[j]'(by simpa using hj)).1 ≠ p) : get g p = none := by
  rw [get_last]
  intro x hx
  have hx' : x ∈ g.reverse := by simpa using hx
  obtain ⟨j, hj, rfl⟩ := List.getElem_of_mem hx'
  exact hn j (by simpa using hj)
set_option maxHeartbeats 2000000 in
theorem space_any (v : Value) (g : Sp) (p : List UInt8) (w : World) (h : Givs w v g) (hg : g.length ≤ 1000000000) :
    Calls Tryz.prog 25 #[v, .string (text p)] w fun r w' => r = .returned (.tuple #[.string (text ((get g p).getD [])), .bool (get g p).isSome]) ∧ w = w' := by
  have glen := fun X => Row.len h (P := Tryz.prog) 59 3 58 undG X
  have H := hid h
  obtain ⟨R, hR⟩ : ∃ R, get g p = R := ⟨_, rfl⟩
  rw [hR]
  have HR := hid hR
  have hw0 : wrap64 ((g.length : Int) - 1) = (g.length : Int) - 1 := IntWalk.wrap64_in _ ⟨by omega, by omega⟩
  clear h hR
  go_enter Tryz.func25, Tryz.ntmps25
  go_wp2_with fail
  go_loopg [6] (g.length + 1) (fun gk iv X => ∃ m : Nat, iv = .int .i64 ((m : Int) - 1) ∧ m + 1 = gk ∧ m ≤ g.length ∧ Hid (∀ j (hj : j < g.length), m ≤ j → (g.reverse[j]'(by simpa using hj)).1 ≠ p) ∧ w = X)
  case atStart => exact ⟨g.length, rfl, rfl, Nat.le_refl _, hid (fun j hj h => absurd h (by omega)), rfl⟩
  case round =>
    rename World => X
    obtain ⟨m, rfl, hmk, hm, HN, rfl⟩ := hrel
    cases m with
    | zero =>
      have E := hid (show R = none by rw [← HR.out]; exact get_rev_none g p (fun j hj => HN.out j hj (by omega)))
      have q : decide ((0 : Int) ≤ ((0 : Nat) : Int) - 1) = false := by decide
      go_wp2
      go_ret2
      rw [E.out]
      exact ⟨rfl, rfl⟩
    | succ i =>
      have hi : i < g.length := by omega
      obtain ⟨b, o, ix, c0, c1⟩ := H.out.at i hi
      have hgr := get_rev g p i hi (fun j hj h => HN.out j hj (by omega))
      have hnn := fun (hne : (g.reverse[i]'(by simpa using hi)).1 ≠ p) j (hj : j < g.length) (h : i ≤ j) => (by
        by_cases e : j = i
        · subst e; exact hne
        · exact HN.out j hj (by omega) : (g.reverse[j]'(by simpa using hj)).1 ≠ p)
      generalize g.reverse[i]'(by simpa using hi) = x at *
      have tq := text_eq x.1 p
      have e1 : (((i + 1 : Nat) : Int) - 1) = (i : Int) := by omega
      rw [e1]
      have ix' := ix .i64
      by_cases hx : x.1 = p
      · rw [decide_eq_true hx] at tq
        have E := hid (show R = some x.2 by rw [← HR.out]; exact hgr hx)
        clear hx hgr hnn ix
        go_wp2
        go_ret2
        rw [E.out]
        exact ⟨rfl, rfl⟩
      · rw [decide_eq_false hx] at tq
        have HM := hid (hnn hx)
        clear hx hgr hnn ix
        go_wp2
        go_roundg (gk - 1)
        case measure => omega
        case rel => exact ⟨i, by go_num, by omega, by omega, HM, rfl⟩
set_option maxHeartbeats 2000000 in
/-- gives, of a name that is right. -/
theorem rgives_any (nm : List UInt8) (w : World) (hs : splitO nm ≠ none) (hl : nm.length ≤ 1000000) :
    Calls Tryz.prog 23 #[.string (text nm)] w fun r w' => (∃ q, r = .returned (.tuple #[.string (text q), .bool (givesB nm)]) ∧ (givesB nm = true → q = givenTo nm)) ∧ Below w.heap.size w w' := by
  cases hso : splitO nm with
  | none => exact absurd hso hs
  | some x =>
    obtain ⟨p, s⟩ := x
    obtain ⟨g1, g2⟩ := gives_split hso
    have SP := fun X => RSplit_any nm (by omega) X
    have ea : splitA nm = p := by unfold splitA; rw [hso]
    have eb : splitB nm = s := by unfold splitB; rw [hso]
    rw [ea, eb] at SP
    have HSP := hid SP
    by_cases hp : p = []
    · by_cases hx : s = xmlns
      · have G : givesB nm = true ∧ givenTo nm = [] := ⟨by rw [g1]; simp [hp, hx], by rw [g2, if_pos hp]⟩
        rw [G.1, G.2]
        have q1 : ((text p).toList == []) = true := list_yes hp
        have q2 : ((text s).toList == [120, 109, 108, 110, 115]) = true := list_yes hx
        clear hs hso g1 g2 SP ea eb hp hx G
        go_enter Tryz.func23, Tryz.ntmps23
        go_wp2_with fail
        refine (HSP.out _).mono ?_
        rintro e w1 ⟨rfl, hb⟩
        have HB := hid hb
        clear hb
        go_wp2
        go_ret2
        exact ⟨⟨[], rfl, fun _ => rfl⟩, HB.out⟩
      · have G : givesB nm = false := by rw [g1, hp]; simp [hx]; decide
        rw [G]
        have q1 : ((text p).toList == []) = true := list_yes hp
        have q2 : ((text s).toList == [120, 109, 108, 110, 115]) = false := list_no hx
        have q3 : ((text p).toList == [120, 109, 108, 110, 115]) = false := list_no (by rw [hp]; decide)
        clear hs hso g1 g2 SP ea eb hp hx G
        go_enter Tryz.func23, Tryz.ntmps23
        go_wp2_with fail
        refine (HSP.out _).mono ?_
        rintro e w1 ⟨rfl, hb⟩
        have HB := hid hb
        clear hb
        go_wp2
        go_ret2
        exact ⟨⟨s, rfl, fun h => by cases h⟩, HB.out⟩
    · have q1 : ((text p).toList == []) = false := list_no hp
      by_cases hx : p = xmlns
      · have G : givesB nm = true ∧ givenTo nm = s := ⟨by rw [g1]; simp [hx], by rw [g2, if_neg hp]⟩
        rw [G.1, G.2]
        have q3 : ((text p).toList == [120, 109, 108, 110, 115]) = true := list_yes hx
        clear hs hso g1 g2 SP ea eb hp hx G
        go_enter Tryz.func23, Tryz.ntmps23
        go_wp2_with fail
        refine (HSP.out _).mono ?_
        rintro e w1 ⟨rfl, hb⟩
        have HB := hid hb
        clear hb
        go_wp2
        go_ret2
        exact ⟨⟨s, rfl, fun _ => rfl⟩, HB.out⟩
      · have G : givesB nm = false := by rw [g1]; simp [hp, hx]
        rw [G]
        have q3 : ((text p).toList == [120, 109, 108, 110, 115]) = false := list_no hx
        clear hs hso g1 g2 SP ea eb hp hx G
        go_enter Tryz.func23, Tryz.ntmps23
        go_wp2_with fail
        refine (HSP.out _).mono ?_
        rintro e w1 ⟨rfl, hb⟩
        have HB := hid hb
        clear hb
        go_wp2
        go_ret2
        exact ⟨⟨s, rfl, fun h => by cases h⟩, HB.out⟩
/-- May a namespace be given? -/
def mayP (p v : List UInt8) : Bool :=
  if v = xmlSpace ∨ v = xmlnsSpace then false
  else if p = [] then true
  else if p = xml ∨ p = xmlns then false
  else !(v == [])
set_option maxHeartbeats 2000000 in
theorem rmay_any (p v : List UInt8) (w : World) :
    Calls Tryz.prog 24 #[.string (text p), .string (text v)] w fun r w' => r = .returned (.bool (mayP p v)) ∧ w = w' := by
  by_cases h1 : v = xmlSpace
  · have q1 : ((text v).toList == [104, 116, 116, 112, 58, 47, 47, 119, 119, 119, 46, 119, 51, 46, 111, 114, 103, 47, 88, 77, 76, 47, 49, 57, 57, 56, 47, 110, 97, 109, 101, 115, 112, 97, 99, 101]) = true := list_yes h1
    have hm : mayP p v = false := by unfold mayP; rw [if_pos (.inl h1)]
    rw [hm]
    clear hm h1
    go_enter Tryz.func24, Tryz.ntmps24
    go_wp2
    go_ret
    exact ⟨rfl, rfl⟩
  have q1 : ((text v).toList == [104, 116, 116, 112, 58, 47, 47, 119, 119, 119, 46, 119, 51, 46, 111, 114, 103, 47, 88, 77, 76, 47, 49, 57, 57, 56, 47, 110, 97, 109, 101, 115, 112, 97, 99, 101]) = false := list_no h1
  by_cases h2 : v = xmlnsSpace
  · have q2 : ((text v).toList == [104, 116, 116, 112, 58, 47, 47, 119, 119, 119, 46, 119, 51, 46, 111, 114, 103, 47, 50, 48, 48, 48, 47, 120, 109, 108, 110, 115, 47]) = true := list_yes h2
    have hm : mayP p v = false := by unfold mayP; rw [if_pos (.inr h2)]
    rw [hm]
    clear hm h1 h2
    go_enter Tryz.func24, Tryz.ntmps24
    go_wp2
    go_ret
    exact ⟨rfl, rfl⟩
  have q2 : ((text v).toList == [104, 116, 116, 112, 58, 47, 47, 119, 119, 119, 46, 119, 51, 46, 111, 114, 103, 47, 50, 48, 48, 48, 47, 120, 109, 108, 110, 115, 47]) = false := list_no h2
  have hm0 : ¬ (v = xmlSpace ∨ v = xmlnsSpace) := fun e => e.elim h1 h2
  by_cases h3 : p = []
  · have q3 : ((text p).toList == []) = true := list_yes h3
    have hm : mayP p v = true := by unfold mayP; rw [if_neg hm0, if_pos h3]
    rw [hm]
    clear hm h1 h2 h3 hm0
    go_enter Tryz.func24, Tryz.ntmps24
    go_wp2
    go_ret
    exact ⟨rfl, rfl⟩
  have q3 : ((text p).toList == []) = false := list_no h3
  by_cases h4 : p = xml
  · have q4 : ((text p).toList == [120, 109, 108]) = true := list_yes h4
    have hm : mayP p v = false := by unfold mayP; rw [if_neg hm0, if_neg h3, if_pos (.inl h4)]
    rw [hm]
    clear hm h1 h2 h3 hm0 h4
    go_enter Tryz.func24, Tryz.ntmps24
    go_wp2
    go_ret
    exact ⟨rfl, rfl⟩
  have q4 : ((text p).toList == [120, 109, 108]) = false := list_no h4
  by_cases h5 : p = xmlns
  · have q5 : ((text p).toList == [120, 109, 108, 110, 115]) = true := list_yes h5
    have hm : mayP p v = false := by unfold mayP; rw [if_neg hm0, if_neg h3, if_pos (.inr h5)]
    rw [hm]
    clear hm h1 h2 h3 hm0 h4 h5
    go_enter Tryz.func24, Tryz.ntmps24
    go_wp2
    go_ret
    exact ⟨rfl, rfl⟩
  have q5 : ((text p).toList == [120, 109, 108, 110, 115]) = false := list_no h5
  have hm1 : ¬ (p = xml ∨ p = xmlns) := fun e => e.elim h4 h5
  have hm : mayP p v = !(v == []) := by unfold mayP; rw [if_neg hm0, if_neg h3, if_neg hm1]
  by_cases h6 : v = []
  · have q6 : (text v).toList.isEmpty = true := by rw [Ent.text_list, h6]; rfl
    rw [hm, h6]
    rw [h6] at q1 q2 q6
    clear hm h1 h2 h3 hm0 h4 h5 hm1 h6
    go_enter Tryz.func24, Tryz.ntmps24
    go_wp2
    go_ret
    exact ⟨rfl, rfl⟩
  · have q6 : (text v).toList.isEmpty = false := by rw [Ent.text_list]; simp [h6]
    have hmm : mayP p v = true := by rw [hm]; simp [h6]
    rw [hmm]
    clear hm h1 h2 h3 hm0 h4 h5 hm1 h6 hmm
    go_enter Tryz.func24, Tryz.ntmps24
    go_wp2
    go_ret
    exact ⟨rfl, rfl⟩
end Go.Proofs.YthodmdfbahkflaaGreatDoor.Tree
namespace Go.Proofs.YthodmdfbahkflaaGreatDoor.Tree
open Go Go.Proofs.YthodmdfbahkflaaGreatDoor Go.Proofs.YthodmdfbahkflaaGreatDoor.Utf Go.Proofs.YthodmdfbahkflaaGreatDoor.Names Go.Proofs.YthodmdfbahkflaaGreatDoor.Ent Go.Proofs.YthodmdfbahkflaaGreatDoor.Tok Go.RowKit
set_option maxRecDepth 100000
/-- It is wrong, and where. -/
def ErrS {α : Type} (o : Except (Int × Nat) α) (a e : Int) : Prop := ∃ x : Int × Nat, o = .error x ∧ a = x.1 ∧ e = x.2 ∧ x.2 ≠ 0
theorem ErrS.ne {α : Type} {o : Except (Int × Nat) α} {a e : Int} (h : ErrS o a e) : e ≠ 0 := by
  obtain ⟨x, _, _, rfl, hx⟩ := h; omega
theorem ErrS.fst {α : Type} {o : Except (Int × Nat) α} {a e : Int} (h : ErrS o a e) (a' e' : Int) : ErrS o (fstA a e a') (fstE e e') := by
  have := h.ne
  unfold fstA fstE
  rw [if_neg this, if_neg this]
  exact h
theorem ErrS.new {α : Type} {o : Except (Int × Nat) α} {a p : Int} {k : Nat} (h : o = .error (p, k)) (hk : k ≠ 0) : ErrS o (fstA a 0 p) (fstE 0 k) := ⟨(p, k), h, by simp [fstA], by simp [fstE], hk⟩
section
variable {g0 : Sp} {t : Tok}
/-- After n attributes, of those that give. -/
def T1 (g0 : Sp) (t : Tok) (n : Nat) (g : Sp) (a e : Int) : Prop := (e = 0 ∧ within g0 t.attrs = within g (t.attrs.drop n)) ∨ ErrS (headW g0 t) a e
theorem headW_w {x : Int × Nat} (h : within g0 t.attrs = .error x) : headW g0 t = .error x := by unfold headW; rw [h]
theorem T1.skip {n : Nat} {g : Sp} {a e : Int} (h : T1 g0 t n g a e) (hn : n < t.attrs.length) (hg : givesB t.attrs[n].name = false) : T1 g0 t (n + 1) g a e := by
  rcases h with ⟨h1, h2⟩ | h
  · refine .inl ⟨h1, ?_⟩
    rw [h2, List.drop_eq_getElem_cons hn]
    rw [within, if_pos hg]
  · exact .inr h
theorem T1.bad {n : Nat} {g g' : Sp} {a e : Int} (h : T1 g0 t n g a e) (hn : n < t.attrs.length) (hg : givesB t.attrs[n].name = true) (hm : mayB t.attrs[n] = false) : T1 g0 t (n + 1) g' (fstA a e t.attrs[n].place) (fstE e 2) := by
  rcases h with ⟨h1, h2⟩ | h
  · subst h1
    refine .inr (ErrS.new (k := 2) (headW_w ?_) (by decide))
    rw [h2, List.drop_eq_getElem_cons hn, within, if_neg (by rw [hg]; decide), if_pos hm]
  · exact .inr (h.fst _ _)
theorem T1.more {n : Nat} {g : Sp} {a e : Int} (h : T1 g0 t n g a e) (hn : n < t.attrs.length) (hg : givesB t.attrs[n].name = true) (hm : mayB t.attrs[n] = true) : T1 g0 t (n + 1) ((givenTo t.attrs[n].name, t.attrs[n].value) :: g) a e := by
  rcases h with ⟨h1, h2⟩ | h
  · refine .inl ⟨h1, ?_⟩
    rw [h2, List.drop_eq_getElem_cons hn, within, if_neg (by rw [hg]; decide), if_neg (by rw [hm]; decide)]
  · exact .inr h
/-- The name is told, too. -/
def T3 (g0 : Sp) (t : Tok) (g : Sp) (nm : Nm) (a e : Int) : Prop := (e = 0 ∧ within g0 t.attrs = .ok g ∧ nameIn g t.s ((get g []).getD []) = .ok nm) ∨ ErrS (headW g0 t) a e
theorem T1.name {n : Nat} {g : Sp} {a e : Int} {p s : List UInt8} (h : T1 g0 t n g a e) (hn : t.attrs.length ≤ n) (hs : splitO t.s = some (p, s)) (hg : get g p ≠ none) : T3 g0 t g ((get g p).getD [], s) a e := by
  rcases h with ⟨h1, h2⟩ | h
  · rw [List.drop_eq_nil_of_le hn] at h2
    refine .inl ⟨h1, h2, ?_⟩
    unfold nameIn
    rw [hs]
    dsimp only
    split
    · rename_i hp; rw [hp]
    · cases hq : get g p with
      | none => exact absurd hq hg
      | some u => rfl
  · exact .inr h
theorem T1.noname {n : Nat} {g : Sp} {a e : Int} {p s : List UInt8} {nm : Nm} (h : T1 g0 t n g a e) (hn : t.attrs.length ≤ n) (hs : splitO t.s = some (p, s)) (hg : get g p = none) (hb : get g [] ≠ none) : T3 g0 t g nm (fstA a e t.place) (fstE e 7) := by
  rcases h with ⟨h1, h2⟩ | h
  · rw [List.drop_eq_nil_of_le hn] at h2
    subst h1
    refine .inr (ErrS.new (k := 7) ?_ (by decide))
    have hp : p ≠ [] := fun q => hb (by rw [← q]; exact hg)
    unfold headW
    rw [h2, show within g [] = .ok g from rfl]
    dsimp only
    have : nameIn g t.s ((get g []).getD []) = .error 7 := by
      unfold nameIn
      rw [hs]
      dsimp only
      rw [if_neg hp, hg]
    rw [this]
  · exact .inr (h.fst _ _)
/-- The names ahead. -/
def seenA (al : List Att) : List Nm := (al.map (·.nm)).reverse
theorem seenA_snoc (al : List Att) (x : Att) : seenA (al ++ [x]) = x.nm :: seenA al := by unfold seenA; simp
/-- After n attributes, of those that don't give. -/
def T4 (g0 : Sp) (t : Tok) (g : Sp) (nm : Nm) (n : Nat) (al : List Att) (a e : Int) : Prop :=
  (e = 0 ∧ headW g0 t = match joinT al (attrsIn g (seenA al) (t.attrs.drop n)) with | .error x => .error x | .ok l => .ok (g, nm, l)) ∨ ErrS (headW g0 t) a e
theorem T3.start {g : Sp} {nm : Nm} {a e : Int} (h : T3 g0 t g nm a e) : T4 g0 t g nm 0 [] a e := by
  rcases h with ⟨h1, h2, h3⟩ | h
  · refine .inl ⟨h1, ?_⟩
    rw [joinT_nil, List.drop_zero, show seenA [] = [] from rfl]
    unfold headW
    rw [h2]
    dsimp only
    rw [h3]
    dsimp only
    cases attrsIn g [] t.attrs <;> rfl
  · exact .inr h
section
variable {g : Sp} {nm : Nm} {n : Nat} {al : List Att} {a e : Int}
theorem T4.skip (h : T4 g0 t g nm n al a e) (hn : n < t.attrs.length) (hg : givesB t.attrs[n].name = true) : T4 g0 t g nm (n + 1) al a e := by
  rcases h with ⟨h1, h2⟩ | h
  · refine .inl ⟨h1, ?_⟩
    rw [h2, List.drop_eq_getElem_cons hn, attrsIn_skip hg]
  · exact .inr h
theorem nameIn_p {g : Sp} {w p s : List UInt8} (hs : splitO w = some (p, s)) : nameIn g w [] = if p = [] then .ok ([], s) else match get g p with | none => .error 7 | some u => .ok (u, s) := by
  unfold nameIn; rw [hs]; rfl
theorem T4.noname {p s : List UInt8} (h : T4 g0 t g nm n al a e) (hn : n < t.attrs.length) (hg : givesB t.attrs[n].name = false) (hs : splitO t.attrs[n].name = some (p, s)) (hp : p ≠ []) (hq : get g p = none) : ErrS (headW g0 t) (fstA a e t.attrs[n].place) (fstE e 7) := by
  rcases h with ⟨h1, h2⟩ | h
  · subst h1
    refine ErrS.new (k := 7) ?_ (by decide)
    rw [h2, List.drop_eq_getElem_cons hn, attrsIn_name (e := 7) hg (by rw [nameIn_p hs, if_neg hp, hq])]
    rfl
  · exact h.fst _ _
theorem seenA_mem {al : List Att} {x : Nm} : (seenA al).contains x = true ↔ ∃ j, ∃ hj : j < al.length, al[j].nm = x := by
  unfold seenA
  rw [List.contains_iff_mem]
  simp only [List.mem_reverse, List.mem_map]
  constructor
  · rintro ⟨y, hy, rfl⟩
    obtain ⟨j, hj, rfl⟩ := List.getElem_of_mem hy
    exact ⟨j, hj, rfl⟩
  · rintro ⟨j, hj, rfl⟩
    exact ⟨_, List.getElem_mem hj, rfl⟩
/-- An attribute's name is told. -/
def NmT (g : Sp) (w : List UInt8) (x : Nm) : Prop := nameIn g w [] = .ok x
theorem T4.twice {x : Nm} (h : T4 g0 t g nm n al a e) (hn : n < t.attrs.length) (hg : givesB t.attrs[n].name = false) (hx : NmT g t.attrs[n].name x) (hj : ∃ j, ∃ hj : j < al.length, al[j].nm = x) : ErrS (headW g0 t) (fstA a e t.attrs[n].place) (fstE e 8) := by
  rcases h with ⟨h1, h2⟩ | h
  · subst h1
    refine ErrS.new (k := 8) ?_ (by decide)
    rw [h2, List.drop_eq_getElem_cons hn, attrsIn_twice hg hx (seenA_mem.2 hj)]
    rfl
  · exact h.fst _ _
theorem T4.more {x : Nm} (h : T4 g0 t g nm n al a e) (hn : n < t.attrs.length) (hg : givesB t.attrs[n].name = false) (hx : NmT g t.attrs[n].name x) (hj : ∀ j (hj : j < al.length), al[j].nm ≠ x) : T4 g0 t g nm (n + 1) (al ++ [⟨x, t.attrs[n].value⟩]) a e := by
  rcases h with ⟨h1, h2⟩ | h
  · refine .inl ⟨h1, ?_⟩
    have hsc : (seenA al).contains x = false := by
      rw [Bool.eq_false_iff]
      intro q
      obtain ⟨j, hj2, q⟩ := seenA_mem.1 q
      exact hj j hj2 q
    rw [h2, List.drop_eq_getElem_cons hn, attrsIn_ok hg hx hsc, joinT_join, seenA_snoc]
  · exact .inr h
theorem T4.done (h : T4 g0 t g nm n al a e) (hn : t.attrs.length ≤ n) : (e = 0 ∧ headW g0 t = .ok (g, nm, al)) ∨ ErrS (headW g0 t) a e := by
  rcases h with ⟨h1, h2⟩ | h
  · refine .inl ⟨h1, ?_⟩
    rw [h2, List.drop_eq_nil_of_le hn]
    simp [attrsIn, joinT]
  · exact .inr h
end
end
/-- What the document's element, or what is within it, tells. -/
def TellE {α : Type} (en : Int) (ts : List Tok) (o : Except Wr (α × List Tok)) (m : α) (j : Nat) (a e : Int) : Prop :=
  match o with
  | .ok k => m = k.1 ∧ e = 0 ∧ k.2 = ts.drop j
  | .error x => e ≠ 0 ∧ a = (wrOf en x).1 ∧ e = (wrOf en x).2
end Go.Proofs.YthodmdfbahkflaaGreatDoor.Tree
namespace Go.Proofs.YthodmdfbahkflaaGreatDoor.Tree
open Go Go.Proofs.YthodmdfbahkflaaGreatDoor Go.Proofs.YthodmdfbahkflaaGreatDoor.Utf Go.Proofs.YthodmdfbahkflaaGreatDoor.Names Go.Proofs.YthodmdfbahkflaaGreatDoor.Ent Go.Proofs.YthodmdfbahkflaaGreatDoor.Tok Go.RowKit
set_option maxRecDepth 100000
/-- The tokens, as they came. -/
structure Env (ts : List Tok) (tv : Value) (W0 : World) : Prop where
  toks : Toks W0 tv ts
  fit : ∀ t ∈ ts, t.attrs.length ≤ 1000000 ∧ (∀ p ∈ t.attrs, p.name.length ≤ 1000000 ∧ p.value.length ≤ 4000000) ∧ t.s.length ≤ 2000000
  names : ∀ t ∈ ts, NameT t
  kinds : Kinds ts
  few : ts.length ≤ 1000000
/-- The document's element on its way: w is the world in which it was called. -/
structure El0 (w : World) (B : Nat) (tv : Value) (i : Nat) (en a e : Int) (t : Tok) (ta : Value) (nc : Array Value) (X : World) : Prop where
  keep : Keep (fun b => b = B) w X
  low : B < w.heap.size
  rb : RB X B tv i en a e
  res : X.heap[w.heap.size]? = some (.cells #[.int .i64 0, .string ⟨#[]⟩, .string ⟨#[]⟩, .slice none 0 0, .slice none 0 0, .string ⟨#[]⟩] 32 (0, 0))
  tok : X.heap[w.heap.size + 1]? = some (.cells #[.int .i64 t.kind, .int .i64 t.place, .string (text t.s), ta] 45 (0, 0))
  nod : X.heap[w.heap.size + 2]? = some (.cells nc 32 (0, 0))
section
variable {w X Y : World} {B i : Nat} {tv ta : Value} {en a e : Int} {t : Tok} {nc : Array Value}
theorem El0.size (h : El0 w B tv i en a e t ta nc X) : w.heap.size + 3 ≤ X.heap.size := by have := lt_of_some h.nod; omega
theorem El0.later (h : El0 w B tv i en a e t ta nc X) (hb : Below X.heap.size X Y) : El0 w B tv i en a e t ta nc Y :=
  ⟨h.keep.tr (Keep.of_below hb), h.low, h.rb.same (hb.block _ h.rb.lt), (hb.block _ (lt_of_some h.res)).trans h.res, (hb.block _ (lt_of_some h.tok)).trans h.tok, (hb.block _ (lt_of_some h.nod)).trans h.nod⟩
theorem El0.rbs (h : El0 w B tv i en a e t ta nc X) {j : Nat} {a' e' : Int} (hr : RB Y B tv j en a' e') (hk : Keep (fun b => b = B) X Y) : El0 w B tv j en a' e' t ta nc Y :=
  ⟨h.keep.tr hk, h.low, hr, (hk.block _ (lt_of_some h.res) (by have := h.low; omega)).trans h.res, (hk.block _ (lt_of_some h.tok) (by have := h.low; omega)).trans h.tok, (hk.block _ (lt_of_some h.nod) (by have := h.low; omega)).trans h.nod⟩
theorem El0.tcell (h : El0 w B tv i en a e t ta nc X) : X.cell? ⟨w.heap.size + 1, 0, none⟩ = some (.int .i64 t.kind) ∧ X.cell? ⟨w.heap.size + 1, 1, none⟩ = some (.int .i64 t.place) ∧ X.cell? ⟨w.heap.size + 1, 2, none⟩ = some (.string (text t.s)) ∧ X.cell? ⟨w.heap.size + 1, 3, none⟩ = some ta := by
  refine ⟨?_, ?_, ?_, ?_⟩ <;> (rw [Lib.cell_of_heap h.tok]; rfl)
theorem El0.ncell (h : El0 w B tv i en a e t ta nc X) (j : Nat) (x : Value) (hx : nc[j]? = some x) : X.cell? ⟨w.heap.size + 2, j, none⟩ = some x := by rw [Lib.cell_of_heap h.nod]; exact hx
theorem El0.nfroz (h : El0 w B tv i en a e t ta nc X) (j : Nat) : X.frozen? ⟨w.heap.size + 2, j, none⟩ = false := Lib.frozen_of_heap h.nod j
theorem El0.rcell (h : El0 w B tv i en a e t ta nc X) (j : Nat) (x : Value) (hx : (#[.int .i64 0, .string ⟨#[]⟩, .string ⟨#[]⟩, .slice none 0 0, .slice none 0 0, .string ⟨#[]⟩] : Array Value)[j]? = some x) : X.cell? ⟨w.heap.size, j, none⟩ = some x := by rw [Lib.cell_of_heap h.res]; exact hx
theorem El0.rfroz (h : El0 w B tv i en a e t ta nc X) (j : Nat) : X.frozen? ⟨w.heap.size, j, none⟩ = false := Lib.frozen_of_heap h.res j
end
/-- What the document's element leaves. -/
def GotRE (w : World) (B : Nat) (tv : Value) (ts : List Tok) (i : Nat) (en : Int) (o : Except Wr (Node × List Tok)) (r : Ending) (w' : World) : Prop :=
  ∃ (m : Node) (ao : Option Addr) (an ac : Nat) (ko : Option Addr) (kn kc : Nat) (j : Nat) (a e : Int), r = .returned (nodeV m (.slice ao an ac) (.slice ko kn kc)) ∧ IsN w' (fun b => b < w.heap.size) m (.slice ao an ac) (.slice ko kn kc) ∧
    RB w' B tv j en a e ∧ Keep (fun b => b = B) w w' ∧ i < j ∧ j ≤ ts.length ∧ TellE en ts o m j a e
/-- What is within an element. -/
def GotRI (w : World) (B Nb : Nat) (tv : Value) (ts : List Tok) (i : Nat) (en : Int) (c0 c1 c2 c3 : Value) (o : Except Wr (List Node × List Tok)) (r : Ending) (w' : World) : Prop :=
  ∃ (ks : List Node) (kv : Value) (j : Nat) (a e : Int), r = .returned (.tuple #[]) ∧ w'.heap[Nb]? = some (.cells #[c0, c1, c2, c3, kv, .string ⟨#[]⟩] 32 (0, 0)) ∧ Kids w' (fun b => b < w.heap.size) kv ks ∧
    RB w' B tv j en a e ∧ Keep (fun b => b = B ∨ b = Nb) w w' ∧ i ≤ j ∧ j ≤ ts.length ∧ TellE en ts o ks j a e
/-- Namespaces that are given, off the builder. -/
structure GivO (w : World) (B : Nat) (v : Value) (g : Sp) : Prop where
  row : Givs w v g
  off : Off (fun b => b = B) v g.length
  bare : get g [] ≠ none
  spl : SpL 4000000 g
def InsOk (ts : List Tok) (tv : Value) (W0 : World) (B : Nat) (en : Int) (N : Nat) : Prop :=
  ∀ (w : World) (i : Nat) (a : Int) (lv : Value) (g : Sp) (deep : Nat) (name : List UInt8) (Nb : Nat) (c0 c1 c2 c3 : Value) (f : Nat), Below W0.heap.size W0 w → RB w B tv i en a 0 → GivO w B lv g → g.length ≤ 2 + 1048576 * deep → deep ≤ 200 → 1 ≤ deep →
    i ≤ ts.length → ts.length - i ≤ N → ts.length - i < f → w.heap[Nb]? = some (.cells #[c0, c1, c2, c3, .slice none 0 0, .string ⟨#[]⟩] 32 (0, 0)) → W0.heap.size ≤ Nb → Off (fun b => b = Nb) lv g.length →
    Calls Tryz.prog 26 #[.pointer (some ⟨B, 0, none⟩), .pointer (some ⟨Nb, 0, none⟩), .string (text name), lv, .int .i64 deep] w (GotRI w B Nb tv ts i en c0 c1 c2 c3 (insF f g name deep [] [] (ts.drop i)))
/-- Off the element's node, too. -/
def GivX (w : World) (B : Nat) (w' : World) (v : Value) (g : Sp) : Prop := GivO w' B v g ∧ Off (fun b => b = w.heap.size + 2) v g.length
theorem givX_new {w : World} {B Zs : Nat} {q vl : List UInt8} {g : Sp} (hz : w.heap.size + 3 ≤ Zs) (low : B < w.heap.size) (bare : get g [] ≠ none) (spl : SpL 4000000 g) (hvl : vl.length ≤ 4000000) (hl : g.length ≤ 1000000000) :
    ∀ (w10 : World) (v10 : Value), w10.ownsRow Zs 58 2 v10 (g.length + 1) (g.reverse.flatMap gcells ++ [.string (text q), .string (text vl)]) → GivX w B w10 v10 ((q, vl) :: g) := by
  intro w10 v10 h
  have hx : ((q, vl) :: g).reverse.flatMap gcells = g.reverse.flatMap gcells ++ [.string (text q), .string (text vl)] := by
    rw [List.reverse_cons, List.flatMap_append, List.flatMap_singleton]; rfl
  refine ⟨⟨?_, fun hn b hb e => ?_, ?_, ?_⟩, fun hn b hb e => ?_⟩
  · unfold Givs
    rw [hx, List.length_cons]
    exact Row.ofOwns h (by omega)
  · have := (h.lt b hb).1; omega
  · rw [get_cons]
    split
    · simp
    · exact bare
  · intro x hx2
    rcases List.mem_cons.1 hx2 with rfl | hx2
    · exact hvl
    · exact spl x hx2
  · have := (h.lt b hb).1; omega
theorem GivX.below {w X Y : World} {B : Nat} {v : Value} {g : Sp} (h : GivX w B X v g) (hb : Below X.heap.size X Y) : GivX w B Y v g := ⟨⟨h.1.row.below hb, h.1.off, h.1.bare, h.1.spl⟩, h.2⟩
theorem GivX.keep {w X Y : World} {B : Nat} {v : Value} {g : Sp} (h : GivX w B X v g) (hk : Keep (fun b => b = B) X Y) : GivX w B Y v g := ⟨⟨h.1.row.keep hk h.1.off, h.1.off, h.1.bare, h.1.spl⟩, h.2⟩
theorem bdrewB {B : Nat} {V w : World} (h : Below B V w) (q : Nat) : Below B V (w.drewN q) := ⟨h.os, h.tape, h.output, h.size, h.block⟩
theorem infoG : (Tryz.prog.info? 58).map (fun i => (i.zero, i.size, i.bytes)) = some (some (.agg #[.string ⟨#[]⟩, .string ⟨#[]⟩]), 2, 32) := by kernel_rfl
theorem keep_set (w : World) (B i : Nat) (v : Value) : Keep (fun b => b = B) w (w.setCell ⟨B, i, none⟩ v) := Keep.set w B i v rfl
/-- The element as it begins. -/
theorem El0.start {w : World} {B i : Nat} {tv ta : Value} {en a e : Int} {t : Tok} (h : RB w B tv i en a e) :
    El0 w B tv (i + 1) en a e t ta #[.int .i64 t.place, .string ⟨#[]⟩, .string ⟨#[]⟩, .slice none 0 0, .slice none 0 0, .string ⟨#[]⟩]
      ((((w.setCell ⟨B, 1, none⟩ (.int .i64 ((i : Int) + 1))).alloc (.cells #[.int .i64 0, .string ⟨#[]⟩, .string ⟨#[]⟩, .slice none 0 0, .slice none 0 0, .string ⟨#[]⟩] 32)).alloc (.cells #[.int .i64 t.kind, .int .i64 t.place, .string (text t.s), ta] 45)).alloc (.cells #[.int .i64 t.place, .string ⟨#[]⟩, .string ⟨#[]⟩, .slice none 0 0, .slice none 0 0, .string ⟨#[]⟩] 32)).drew := by
  have hl := h.lt
  obtain ⟨W0, h0⟩ : ∃ W0, w.setCell ⟨B, 1, none⟩ (.int .i64 ((i : Int) + 1)) = W0 := ⟨_, rfl⟩
  have hr0 : RB W0 B tv (i + 1) en a e := by rw [← h0]; exact h.set1 (i + 1)
  have k0 : Keep (fun b => b = B) w W0 := by rw [← h0]; exact keep_set w B 1 _
  have s0 : W0.heap.size = w.heap.size := by rw [← h0, set_size]
  rw [h0]
  clear h0
  obtain ⟨W1, h1⟩ : ∃ W1, W0.alloc (.cells #[.int .i64 0, .string ⟨#[]⟩, .string ⟨#[]⟩, .slice none 0 0, .slice none 0 0, .string ⟨#[]⟩] 32) = W1 := ⟨_, rfl⟩
  have s1 : W1.heap.size = w.heap.size + 1 := by rw [← h1]; simp [s0]
  have p1 : W1.heap[w.heap.size]? = some (.cells #[.int .i64 0, .string ⟨#[]⟩, .string ⟨#[]⟩, .slice none 0 0, .slice none 0 0, .string ⟨#[]⟩] 32) := by rw [← h1, ← s0]; exact heap_alloc_new W0 _
  have b1 : Below W0.heap.size W0 W1 := by rw [← h1]; exact ba (b0 W0) _
  rw [h1]
  clear h1
  obtain ⟨W2, h2⟩ : ∃ W2, W1.alloc (.cells #[.int .i64 t.kind, .int .i64 t.place, .string (text t.s), ta] 45) = W2 := ⟨_, rfl⟩
  have s2 : W2.heap.size = w.heap.size + 2 := by rw [← h2]; simp [s1]
  have p2 : W2.heap[w.heap.size + 1]? = some (.cells #[.int .i64 t.kind, .int .i64 t.place, .string (text t.s), ta] 45) := by rw [← h2, ← s1]; exact heap_alloc_new W1 _
  have b2 : Below W1.heap.size W1 W2 := by rw [← h2]; exact ba (b0 W1) _
  rw [h2]
  clear h2
  obtain ⟨W3, h3⟩ : ∃ W3, W2.alloc (.cells #[.int .i64 t.place, .string ⟨#[]⟩, .string ⟨#[]⟩, .slice none 0 0, .slice none 0 0, .string ⟨#[]⟩] 32) = W3 := ⟨_, rfl⟩
  have p3 : W3.heap[w.heap.size + 2]? = some (.cells #[.int .i64 t.place, .string ⟨#[]⟩, .string ⟨#[]⟩, .slice none 0 0, .slice none 0 0, .string ⟨#[]⟩] 32) := by rw [← h3, ← s2]; exact heap_alloc_new W2 _
  have b3 : Below W2.heap.size W2 W3 := by rw [← h3]; exact ba (b0 W2) _
  rw [h3]
  clear h3
  have b03 := bdrewB (bt (bt b1 b2) b3) 1
  exact ⟨k0.tr (Keep.of_below b03), hl, hr0.same (b03.block _ (by omega)), (b3.block _ (by omega)).trans ((b2.block _ (by omega)).trans p1), (b3.block _ (by omega)).trans p2, p3⟩
end Go.Proofs.YthodmdfbahkflaaGreatDoor.Tree
