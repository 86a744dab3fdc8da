/- Layer 5: nodes in memory, told apart from the blocks that may still change. Over any program. | Layer 5: contracts of gives, givenTo, mayGive. | Layer 5: the map of namespaces that are given; contracts of atFirst, of the copy, of the search. | Layer 5: contracts of within and name. | Layer 5: a map of the names that are ahead in an element; contract of attributes. | Layer 5: contract of attributes. | Layer 5: the builder in memory. | Layer 5: contract of add. | Layer 5: contract of add: the walk. | Layer 5: a node within an element: the stores. | Layer 5: contract of add, within an element. | Layer 5: contracts of given and of a text within an element. | Layer 5: contract of a text within an element. | Layer 5: the builder's rows cut, an element more, an element less. | Layer 5: contracts of add in all cases, and of end. | Layer 5: contract of endTexts. | Layer 5: contract of begin. -/
import Derived.Test.YthodmdfbahkflaaGreatDoorTrA
import Derived.Test.YthodmdfbahkflaaGreatDoorTkB
import Derived.Test.YthodmdfbahkflaaGreatDoorPk3
import Derived.Laws.OwnMore
import Derived.Test.YthodmdfbahkflaaGreatDoorPk4
import Derived.Test.YthodmdfbahkflaaGreatDoorTkE
import Derived.Shelf.SlMaps.Clone
import Derived.Maps.OwnSet
import Derived.Maps.StringElems
import Derived.DeepKeys4
import Derived.Deep.AppendLies
import Derived.BigQuiet
import Derived.Deep.QuietTactic
set_option linter.unusedVariables false
set_option linter.unusedSimpArgs false
namespace Go.Proofs.YthodmdfbahkflaaGreatDoor.Tree
open Go Go.Proofs.YthodmdfbahkflaaGreatDoor Go.Proofs.YthodmdfbahkflaaGreatDoor.Tok Go.RowKit
set_option maxRecDepth 100000

/-- Rows of things that are there lie outside of A. -/
def Off (A : Nat → Prop) (v : Value) (n : Nat) : Prop := 0 < n → ∀ b, v.ownBlock = some b → ¬ A b
/-- Old blocks outside of A are as they were. -/
structure Keep (A : Nat → Prop) (w w' : World) : Prop where
  os : w'.os = w.os
  tape : w'.tape = w.tape
  output : w'.output = w.output
  size : w.heap.size ≤ w'.heap.size
  block : ∀ b, b < w.heap.size → ¬ A b → w'.heap[b]? = w.heap[b]?
theorem Keep.refl (A : Nat → Prop) (w : World) : Keep A w w := ⟨rfl, rfl, rfl, Nat.le_refl _, fun _ _ _ => rfl⟩
theorem Keep.of_below {A : Nat → Prop} {w w' : World} (h : Below w.heap.size w w') : Keep A w w' := ⟨h.os, h.tape, h.output, h.size, fun b hb _ => h.block b hb⟩
theorem Keep.of_grown {A : Nat → Prop} {w w' : World} {o : Option Nat} (h : w.grownBy w' o) (ho : ∀ b, o = some b → A b) : Keep A w w' := ⟨h.os, h.tape, h.output, h.size, fun b hb hA => h.block b hb (fun e => hA (ho b e.symm))⟩
theorem Keep.trans {A A' : Nat → Prop} {w w1 w2 : World} (h : Keep A w w1) (k : Keep A' w1 w2) (hA : ∀ b, b < w.heap.size → A' b → A b) : Keep A w w2 :=
  ⟨k.os.trans h.os, k.tape.trans h.tape, k.output.trans h.output, Nat.le_trans h.size k.size, fun b hb hn => (k.block b (Nat.lt_of_lt_of_le hb h.size) (fun e => hn (hA b hb e))).trans (h.block b hb hn)⟩
theorem Keep.set {A : Nat → Prop} (w : World) (r i : Nat) (v : Value) (hr : A r) : Keep A w (w.setCell ⟨r, i, none⟩ v) :=
  ⟨rfl, rfl, rfl, by simp [World.setCell], fun b _ hA => Below.heap_setCell w ⟨r, i, none⟩ v b (fun e => hA (by rw [e]; exact hr))⟩
theorem Keep.cell {A : Nat → Prop} {w w' : World} (h : Keep A w w') {b : Nat} {x : Obj} (hx : w.heap[b]? = some x) (hA : ¬ A b) : w'.heap[b]? = some x := by
  have hlt : b < w.heap.size := by
    rcases Nat.lt_or_ge b w.heap.size with q | q
    · exact q
    · rw [Array.getElem?_eq_none q] at hx; cases hx
  exact (h.block b hlt hA).trans hx
/-- Those blocks, and all below a world's end. -/
def Up (W : World) (A : Nat → Prop) (b : Nat) : Prop := b < W.heap.size ∨ A b
theorem Up.sub {W w : World} {A A' : Nat → Prop} (h : ∀ b, b < w.heap.size → A' b → A b) : ∀ b, b < w.heap.size → Up W A' b → Up W A b := fun b hb hu => hu.imp id (h b hb)
theorem Keep.up {W w w' : World} {A : Nat → Prop} (h : Keep A w w') : Keep (Up W A) w w' := ⟨h.os, h.tape, h.output, h.size, fun b hb hA => h.block b hb (fun e => hA (.inr e))⟩
theorem Keep.below {A : Nat → Prop} {W w w' : World} (hb : Below W.heap.size W w) (h : Keep A w w') (hA : ∀ b, A b → W.heap.size ≤ b) : Below W.heap.size W w' :=
  ⟨h.os.trans hb.os, h.tape.trans hb.tape, h.output.trans hb.output, Nat.le_trans hb.size h.size, fun b hl => (h.block b (Nat.lt_of_lt_of_le hl hb.size) (fun e => by have := hA b e; omega)).trans (hb.block b hl)⟩

theorem Row.same {sz : Nat} {w w' : World} {v : Value} {n : Nat} {xs : List Value} (hs : 0 < sz) (h : Row sz w v n xs) (hb : 0 < n → ∀ b, v.ownBlock = some b → b < w.heap.size → w'.heap[b]? = w.heap[b]?) : Row sz w' v n xs := by
  obtain ⟨⟨a, c, rfl, h1, h2, h0, hz, h3⟩, h4⟩ := h
  refine ⟨⟨a, c, rfl, h1, h2, h0, hz, fun hx => ?_⟩, h4⟩
  obtain ⟨b, off, rfl, h9⟩ := h3 hx
  refine ⟨b, off, rfl, fun j u hj => ?_⟩
  have hc := h9 j u hj
  have hn : 0 < n := by
    rcases Nat.eq_zero_or_pos n with e | e
    · rw [h4, e, Nat.zero_mul] at hx; omega
    · exact e
  rw [World.cell?_of_block (a := ⟨b, off + j, none⟩) (hb hn b rfl (World.block_lt_of_cell? _ _ hc))]
  exact hc
/-- The block of a row that isn't empty is there. -/
theorem Row.blk {sz : Nat} {w : World} {v : Value} {n : Nat} {xs : List Value} (hs : 0 < sz) (h : Row sz w v n xs) (hn : 0 < n) {b : Nat} (hb : v.ownBlock = some b) : b < w.heap.size := by
  obtain ⟨⟨a, c, rfl, h1, h2, h0, hz, h3⟩, h4⟩ := h
  have hx : 0 < xs.length := by rw [h4]; exact Nat.mul_pos hn hs
  obtain ⟨b', off, rfl, h9⟩ := h3 hx
  have e : b' = b := by simpa [Value.ownBlock] using hb
  subst e
  have hc := h9 0 _ (List.getElem?_eq_getElem hx)
  exact World.block_lt_of_cell? _ _ hc
theorem Off.to {sz : Nat} {w : World} {v : Value} {n : Nat} {xs : List Value} {A A' : Nat → Prop} (hs : 0 < sz) (h : Row sz w v n xs) (ho : Off A v n) (hA : ∀ b, b < w.heap.size → A' b → A b) : Off A' v n :=
  fun hn b hb hx => ho hn b hb (hA b (Row.blk hs h hn hb) hx)

def attCells (a : Att) : List Value := [.string (text a.nm.1), .string (text a.nm.2), .string (text a.value)]
def Atts (w : World) (A : Nat → Prop) (v : Value) (l : List Att) : Prop := Row 3 w v l.length (l.flatMap attCells) ∧ Off A v l.length
def ncells (x : Node × Value × Value) : List Value := [.int .i64 x.1.place, .string (text x.1.nm.1), .string (text x.1.nm.2), x.2.1, x.2.2, .string (text x.1.text)]
/-- A node whose attributes' row and children's row are these. -/
inductive IsN (w : World) (A : Nat → Prop) : Node → Value → Value → Prop
  | mk {p : Int} {nm : Nm} {al : List Att} {tx : List UInt8} {av kv : Value} (r : List (Node × Value × Value)) (ha : Atts w A av al) (hk : Row 6 w kv r.length (r.flatMap ncells)) (ho : Off A kv r.length) (hr : ∀ x ∈ r, IsN w A x.1 x.2.1 x.2.2) : IsN w A (.mk p nm al (r.map (·.1)) tx) av kv
theorem Atts.to {w w' : World} {A A' : Nat → Prop} {v : Value} {l : List Att} (h : Atts w A v l) (hA : ∀ b, b < w.heap.size → A' b → A b) (hw : Keep A w w') : Atts w' A' v l :=
  ⟨Row.same (by omega) h.1 (fun hn b hb hl => hw.block b hl (h.2 hn b hb)), Off.to (by omega) h.1 h.2 hA⟩
theorem IsN.to {w w' : World} {A A' : Nat → Prop} {n : Node} {av kv : Value} (h : IsN w A n av kv) (hA : ∀ b, b < w.heap.size → A' b → A b) (hw : Keep A w w') : IsN w' A' n av kv := by
  induction h with
  | mk r ha hk ho hr ih => exact .mk r (ha.to hA hw) (Row.same (by omega) hk (fun hn b hb hl => hw.block b hl (ho hn b hb))) (Off.to (by omega) hk ho hA) (fun x hx => ih x hx)
/-- Children. -/
def Kids (w : World) (A : Nat → Prop) (v : Value) (l : List Node) : Prop := ∃ r : List (Node × Value × Value), r.map (·.1) = l ∧ Row 6 w v r.length (r.flatMap ncells) ∧ Off A v r.length ∧ ∀ x ∈ r, IsN w A x.1 x.2.1 x.2.2
theorem Kids.to {w w' : World} {A A' : Nat → Prop} {v : Value} {l : List Node} (h : Kids w A v l) (hA : ∀ b, b < w.heap.size → A' b → A b) (hw : Keep A w w') : Kids w' A' v l := by
  obtain ⟨r, h1, h2, h3, h4⟩ := h
  exact ⟨r, h1, Row.same (by omega) h2 (fun hn b hb hl => hw.block b hl (h3 hn b hb)), Off.to (by omega) h2 h3 hA, fun x hx => (h4 x hx).to hA hw⟩
theorem IsN.parts {w : World} {A : Nat → Prop} {n : Node} {av kv : Value} (h : IsN w A n av kv) : Atts w A av n.attrs ∧ Kids w A kv n.kids := by
  cases h with
  | mk r ha hk ho hr => exact ⟨ha, r, rfl, hk, ho, hr⟩
theorem IsN.of {w : World} {A : Nat → Prop} {p : Int} {nm : Nm} {al : List Att} {ks : List Node} {tx : List UInt8} {av kv : Value} (ha : Atts w A av al) (hk : Kids w A kv ks) : IsN w A (.mk p nm al ks tx) av kv := by
  obtain ⟨r, rfl, h2, h3, h4⟩ := hk
  exact .mk r ha h2 h3 h4
theorem Atts.nil (w : World) (A : Nat → Prop) : Atts w A (.slice none 0 0) [] := ⟨Row.nil 3 w, fun h => absurd h (by simp)⟩
theorem Kids.nil (w : World) (A : Nat → Prop) : Kids w A (.slice none 0 0) [] := ⟨[], rfl, Row.nil 6 w, fun h => absurd h (by simp), fun x hx => by cases hx⟩
/-- A node's value. -/
def nodeV (n : Node) (av kv : Value) : Value := .agg #[.int .i64 n.place, .string (text n.nm.1), .string (text n.nm.2), av, kv, .string (text n.text)]
theorem Atts.one {w : World} {A : Nat → Prop} {v : Value} {l : List Att} (h : Atts w A v l) : v.oneCell' = true := by
  obtain ⟨⟨⟨a, c, rfl, _⟩, _⟩, _⟩ := h
  rfl
theorem Kids.one {w : World} {A : Nat → Prop} {v : Value} {l : List Node} (h : Kids w A v l) : v.oneCell' = true := by
  obtain ⟨r, _, ⟨⟨a, c, rfl, _⟩, _⟩, _⟩ := h
  rfl
/-- One child. -/
theorem Kids.at {P : Program} {w : World} {A : Nat → Prop} {v : Value} {l : List Node} (h : Kids w A v l) (i : Nat) (hi : i < l.length) (t e : TypeId) (ht : P.underlying t = some (.slice e)) (hs : ∀ W, (sizeOf e).run P W = .ok 6 W) :
    ∃ b o av kv, (∀ k W, (Instr.indexAt t v (.int k i)).run P W = .ok (.pointer (some ⟨b, o, none⟩)) W) ∧
      w.cell? ⟨b, o, none⟩ = some (.int .i64 l[i].place) ∧ w.cell? ⟨b, o + 1, none⟩ = some (.string (text l[i].nm.1)) ∧ w.cell? ⟨b, o + 2, none⟩ = some (.string (text l[i].nm.2)) ∧
      w.cell? ⟨b, o + 3, none⟩ = some av ∧ w.cell? ⟨b, o + 4, none⟩ = some kv ∧ w.cell? ⟨b, o + 5, none⟩ = some (.string (text l[i].text)) ∧ IsN w A l[i] av kv ∧ ¬ A b := by
  obtain ⟨r, rfl, h2, h3, h4⟩ := h
  have hi' : i < r.length := by simpa using hi
  have hpos : 0 < r.length := by omega
  obtain ⟨⟨a, c, hv, h5⟩, h6⟩ := h2
  obtain ⟨b, o, a1, a2⟩ := Row.at ⟨⟨a, c, hv, h5⟩, h6⟩ (by omega) i hi' t e ht hs
  have g : ∀ j, j < 6 → (r.flatMap ncells)[i * 6 + j]? = (ncells r[i])[j]? := fun j hj => by
    rw [flat_get 6 ncells (fun _ => rfl) r i j hj, List.getElem?_eq_getElem hi']; rfl
  have e : (r.map (·.1))[i] = r[i].1 := by simp
  have hA : ¬ A b := by
    refine h3 hpos b ?_
    have hx : 0 < (r.flatMap ncells).length := by rw [h6]; omega
    obtain ⟨b', off, rfl, h9⟩ := h5.2.2.2.2 hx
    have h7 := a1 .i64 w
    subst hv
    simp [Instr.indexAt, asIntOf, run_underlying ht, hs, Addr.add_lit] at h7
    split at h7
    all_goals (try simp at h7)
    all_goals first | rfl | (obtain ⟨e1, e2⟩ := h7; subst e1; rfl) | (exfalso; omega) | cases h7
  rw [e]
  exact ⟨b, o, r[i].2.1, r[i].2.2, a1, by simpa using a2 0 _ (by omega) (by rw [g 0 (by omega)]; rfl), a2 1 _ (by omega) (by rw [g 1 (by omega)]; rfl), a2 2 _ (by omega) (by rw [g 2 (by omega)]; rfl), a2 3 _ (by omega) (by rw [g 3 (by omega)]; rfl), a2 4 _ (by omega) (by rw [g 4 (by omega)]; rfl), a2 5 _ (by omega) (by rw [g 5 (by omega)]; rfl),
    h4 _ (List.getElem_mem hi'), hA⟩
theorem Kids.len {P : Program} {w : World} {A : Nat → Prop} {v : Value} {l : List Node} (h : Kids w A v l) (t ty e : TypeId) (ht : P.underlying t = some (.slice e)) (W : World) : (Builtin.len_ #[t] ty #[v]).run P W = .ok (.int .i64 l.length) W := by
  obtain ⟨r, rfl, h2, _⟩ := h
  rw [List.length_map]
  exact Row.len h2 t ty e ht W
end Go.Proofs.YthodmdfbahkflaaGreatDoor.Tree
namespace Go.Proofs.YthodmdfbahkflaaGreatDoor.Tree
open Go Go.Proofs.YthodmdfbahkflaaGreatDoor Go.Proofs.YthodmdfbahkflaaGreatDoor.Utf Go.Proofs.YthodmdfbahkflaaGreatDoor.Names Go.Proofs.YthodmdfbahkflaaGreatDoor.Ent Go.Proofs.YthodmdfbahkflaaGreatDoor.Tok Go.RowKit
set_option maxRecDepth 100000

theorem lt_of_some {w : World} {k : Nat} {o : Obj} (h : w.heap[k]? = some o) : k < w.heap.size := by
  rcases Nat.lt_or_ge k w.heap.size with h' | h'
  · exact h'
  · simp [Array.getElem?_eq_none h'] at h
theorem splitE_ok {l : List UInt8} (h : splitO l ≠ none) : splitE l = 0 := by
  unfold splitE
  cases hs : splitO l with
  | none => exact absurd hs h
  | some p => rfl
theorem splitE_no {l : List UInt8} (h : splitO l = none) : splitE l = 6 := by unfold splitE; rw [h]; rfl
theorem text_eq (a b : List UInt8) : ((text a).toList == (text b).toList) = decide (a = b) := by
  rw [Ent.text_list, Ent.text_list]
  by_cases h : a = b
  · rw [decide_eq_true h, beq_iff_eq]; exact h
  · rw [decide_eq_false h, beq_eq_false_iff_ne]; exact h
theorem sizT (W : World) : (sizeOf 45).run Tryz.prog W = .ok 4 W := Tryz.sizeOf45 W
/-- A block that was new is as it was. -/
theorem kept_new {w w1 : World} {o : Obj} (hb : Below (w.alloc o).heap.size (w.alloc o) w1) : w1.heap[w.heap.size]? = some o := (hb.block _ (by simp)).trans (heap_alloc_new w o)
theorem below_new {w w1 : World} {o : Obj} (hb : Below (w.alloc o).heap.size (w.alloc o) w1) : Below w.heap.size w w1 := (ba (b0 w) o).trans (hb.mono (by simp))
/-- A pair's value. -/
def pV (k : Int) (nm vl : List UInt8) : Value := .agg #[.int .i64 k, .string (text nm), .string (text vl)]
set_option maxHeartbeats 1000000 in
theorem gives_any (k : Int) (nm vl : List UInt8) (w : World) :
    Calls Tryz.prog 63 #[pV k nm vl] w fun e w' => e = .returned (.bool (givesB nm)) ∧ Below w.heap.size w w' := by
  unfold pV
  by_cases h : nm = xmlns
  · have q : ((text nm).toList == [120, 109, 108, 110, 115]) = true := list_yes h
    have hg : givesB nm = true := by unfold givesB; simp [h]
    rw [hg]
    clear hg h
    go_enter Tryz.func63, Tryz.ntmps63
    go_wp2
    go_ret
    exact ⟨rfl, ba (b0 w) _⟩
  · have q : ((text nm).toList == [120, 109, 108, 110, 115]) = false := list_no h
    have hg : givesB nm = pre [120, 109, 108, 110, 115, 58] nm := by
      unfold givesB
      rw [show (nm == xmlns) = false from by rw [beq_eq_false_iff_ne]; exact h]
      rfl
    rw [hg]
    have H := hid (fun w => has_any nm [120, 109, 108, 110, 115, 58] _ rfl #[120, 109, 108, 110, 115, 58] rfl w)
    clear hg h
    go_enter Tryz.func63, Tryz.ntmps63
    go_wp2_with fail
    refine (H.out _).mono ?_
    rintro e w1 ⟨rfl, rfl⟩
    go_wp2
    go_ret
    exact ⟨rfl, ba (b0 w) _⟩
set_option maxHeartbeats 1000000 in
theorem givenTo_any (k : Int) (nm vl : List UInt8) (hl : nm.length ≤ 281474976710656) (w : World) :
    Calls Tryz.prog 66 #[pV k nm vl] w fun e w' => e = .returned (.string (text (givenTo nm))) ∧ Below w.heap.size w w' := by
  have hi := fun w => Cut_any 58 nm hl w
  unfold cutV at hi
  unfold pV
  cases hf : firstAt 58 nm with
  | none =>
    rw [hf] at hi
    have hg : givenTo nm = [] := by unfold givenTo; rw [hf]
    rw [hg]
    have H := hid hi
    clear hg hi hf
    go_enter Tryz.func66, Tryz.ntmps66
    go_wp2_with fail
    refine (H.out _).mono ?_
    rintro e w1 ⟨rfl, hb⟩
    have HB := hid hb
    clear hb
    go_wp2
    go_ret
    exact ⟨rfl, (ba (b0 w) _).trans (HB.out.mono (by simp))⟩
  | some i =>
    rw [hf] at hi
    have hg : givenTo nm = nm.drop (i + 1) := by unfold givenTo; rw [hf]
    rw [hg]
    have H := hid hi
    clear hg hi hf
    go_enter Tryz.func66, Tryz.ntmps66
    go_wp2_with fail
    refine (H.out _).mono ?_
    rintro e w1 ⟨rfl, hb⟩
    have HB := hid hb
    clear hb
    go_wp2
    go_ret
    exact ⟨rfl, (ba (b0 w) _).trans (HB.out.mono (by simp))⟩
set_option maxHeartbeats 4000000 in
theorem mayGive_any (k : Int) (nm vl : List UInt8) (hl : nm.length ≤ 281474976710656) (w : World) :
    Calls Tryz.prog 65 #[pV k nm vl] w fun e w' => e = .returned (.bool (mayB ⟨k, nm, vl⟩)) ∧ Below w.heap.size w w' := by
  have G := hid (fun w => givenTo_any k nm vl hl w)
  have G1 := hid (fun (w1 : World) (hb : Below (w.alloc (.cells #[.int .i64 k, .string (text nm), .string (text vl)] 73)).heap.size (w.alloc (.cells #[.int .i64 k, .string (text nm), .string (text vl)] 73)) w1) => ((ba (b0 w) _).trans (hb.mono (by simp)) : Below w.heap.size w w1))
  unfold pV at G ⊢
  by_cases h1 : vl = xmlSpace
  · have q1 : ((text vl).toList == [104, 116, 116, 112, 58, 47, 47, 119, 119, 119, 46, 119, 51, 46, 111, 114, 103, 47, 88, 77, 76, 47, 49, 57, 57, 56, 47, 110, 97, 109, 101, 115, 112, 97, 99, 101]) = true := list_yes h1
    have hm : mayB ⟨k, nm, vl⟩ = false := by unfold mayB; rw [if_pos (.inl h1)]
    rw [hm]
    clear hm h1
    go_enter Tryz.func65, Tryz.ntmps65
    go_wp2
    go_ret
    exact ⟨rfl, ba (b0 w) _⟩
  have q1 : ((text vl).toList == [104, 116, 116, 112, 58, 47, 47, 119, 119, 119, 46, 119, 51, 46, 111, 114, 103, 47, 88, 77, 76, 47, 49, 57, 57, 56, 47, 110, 97, 109, 101, 115, 112, 97, 99, 101]) = false := list_no h1
  by_cases h2 : vl = xmlnsSpace
  · have q2 : ((text vl).toList == [104, 116, 116, 112, 58, 47, 47, 119, 119, 119, 46, 119, 51, 46, 111, 114, 103, 47, 50, 48, 48, 48, 47, 120, 109, 108, 110, 115, 47]) = true := list_yes h2
    have hm : mayB ⟨k, nm, vl⟩ = false := by unfold mayB; rw [if_pos (.inr h2)]
    rw [hm]
    clear hm h1 h2
    go_enter Tryz.func65, Tryz.ntmps65
    go_wp2
    go_ret
    exact ⟨rfl, ba (b0 w) _⟩
  have q2 : ((text vl).toList == [104, 116, 116, 112, 58, 47, 47, 119, 119, 119, 46, 119, 51, 46, 111, 114, 103, 47, 50, 48, 48, 48, 47, 120, 109, 108, 110, 115, 47]) = false := list_no h2
  have hm0 : ¬ (vl = xmlSpace ∨ vl = xmlnsSpace) := fun e => e.elim h1 h2
  by_cases h3 : givenTo nm = []
  · have q3 : ((text (givenTo nm)).toList == []) = true := list_yes h3
    have hm : mayB ⟨k, nm, vl⟩ = true := by unfold mayB; rw [if_neg hm0, if_pos h3]
    rw [hm]
    clear hm h1 h2 h3 hm0
    go_enter Tryz.func65, Tryz.ntmps65
    go_wp2_with fail
    refine (G.out _).mono ?_
    rintro e w1 ⟨rfl, hb⟩
    have HB := hid (G1.out w1 hb)
    clear hb
    go_wp2
    go_ret
    exact ⟨rfl, HB.out⟩
  have q3 : ((text (givenTo nm)).toList == []) = false := list_no h3
  by_cases h4 : givenTo nm = xml
  · have q4 : ((text (givenTo nm)).toList == [120, 109, 108]) = true := list_yes h4
    have hm : mayB ⟨k, nm, vl⟩ = false := by unfold mayB; rw [if_neg hm0, if_neg h3, if_pos (.inl h4)]
    rw [hm]
    clear hm h1 h2 h3 h4 hm0
    go_enter Tryz.func65, Tryz.ntmps65
    go_wp2_with fail
    refine (G.out _).mono ?_
    rintro e w1 ⟨rfl, hb⟩
    have HB := hid (G1.out w1 hb)
    clear hb
    go_wp2
    go_ret
    exact ⟨rfl, HB.out⟩
  have q4 : ((text (givenTo nm)).toList == [120, 109, 108]) = false := list_no h4
  by_cases h5 : givenTo nm = xmlns
  · have q5 : ((text (givenTo nm)).toList == [120, 109, 108, 110, 115]) = true := list_yes h5
    have hm : mayB ⟨k, nm, vl⟩ = false := by unfold mayB; rw [if_neg hm0, if_neg h3, if_pos (.inr h5)]
    rw [hm]
    clear hm h1 h2 h3 h4 h5 hm0
    go_enter Tryz.func65, Tryz.ntmps65
    go_wp2_with fail
    refine (G.out _).mono ?_
    rintro e w1 ⟨rfl, hb⟩
    have HB := hid (G1.out w1 hb)
    clear hb
    go_wp2
    go_ret
    exact ⟨rfl, HB.out⟩
  have q5 : ((text (givenTo nm)).toList == [120, 109, 108, 110, 115]) = false := list_no h5
  have hm : mayB ⟨k, nm, vl⟩ = !(vl == []) := by unfold mayB; rw [if_neg hm0, if_neg h3, if_neg (fun e => e.elim h4 h5)]
  rw [hm]
  have q6 : ((text vl).toList == []) = (vl == []) := by rw [Ent.text_list]
  have q7 : ((text vl).toList != []) = !(vl == []) := by rw [bne, q6]
  clear hm h1 h2 h3 h4 h5 hm0
  generalize hz : (vl == []) = z at *
  clear hz
  go_enter Tryz.func65, Tryz.ntmps65
  go_wp2_with fail
  refine (G.out _).mono ?_
  rintro e w1 ⟨rfl, hb⟩
  have HB := hid (G1.out w1 hb)
  have c2 : w1.cell? ⟨w.heap.size, 2, none⟩ = some (.string (text vl)) := by rw [Lib.cell_of_heap (kept_new hb)]; rfl
  clear hb
  go_wp2
  go_ret
  exact ⟨rfl, HB.out⟩
end Go.Proofs.YthodmdfbahkflaaGreatDoor.Tree
namespace Go.Proofs.YthodmdfbahkflaaGreatDoor.Tree
open Go Go.Proofs.YthodmdfbahkflaaGreatDoor Go.Proofs.YthodmdfbahkflaaGreatDoor.Utf Go.Proofs.YthodmdfbahkflaaGreatDoor.Names Go.Proofs.YthodmdfbahkflaaGreatDoor.Ent Go.Proofs.YthodmdfbahkflaaGreatDoor.Tok Go.RowKit
set_option maxRecDepth 100000

theorem undS : Tryz.prog.underlying 97 = some (.map 9 9) := Tryz.underlying97
theorem undP : Tryz.prog.underlying 43 = some (.slice 73) := Tryz.underlying43
theorem sizPr (W : World) : (sizeOf 73).run Tryz.prog W = .ok 3 W := Tryz.sizeOf73 W
/-- The block holds the namespaces that are given. -/
def Spc (w : World) (b : Nat) (g : Sp) : Prop :=
  ∃ (D : DataW Unit) (n : Nat), n ≤ g.length ∧ w.ownsMap Tryz.prog 9 (plainElem (H := Unit) Tryz.prog 9) b n D ∧ (∃ es, D = .map es) ∧
    ∀ x : List UInt8, Maps.has D (.string x) = (get g x).isSome ∧ D.atKey (.string x) (.lit (.string [])) = .lit (.string ((get g x).getD []))
theorem get_cons (k v x : List UInt8) (g : Sp) : get ((k, v) :: g) x = if x = k then some v else get g x := by
  unfold get
  rw [List.find?_cons]
  by_cases h : x = k
  · subst h; simp
  · have : (k == x) = false := by rw [beq_eq_false_iff_ne]; exact fun e => h e.symm
    simp [this, h]
theorem key_of (x : List UInt8) (hx : x.length ≤ 281474976710656) : keyOf Tryz.prog 9 (.string (text x)) = some (.string x) := by
  have := WideMaps.keyOf_string_mk (P := Tryz.prog) under9 (s := text x) (by rw [text_size]; unfold maxLen; omega)
  rw [_root_.Go.Proofs.YthodmdfbahkflaaGreatDoor.text_data] at this
  exact this
theorem elem_of (x : List UInt8) (hx : x.length ≤ 281474976710656) : plainElem (H := Unit) Tryz.prog 9 (.string (text x)) = some (.lit (.string x), []) := by
  have := plainElem_string (H := Unit) (P := Tryz.prog) under9 (s := text x) (by rw [text_size]; unfold maxLen; omega)
  rw [_root_.Go.Proofs.YthodmdfbahkflaaGreatDoor.text_data] at this
  exact this
section
variable {w w' : World} {b : Nat} {g : Sp}
theorem Spc.lt (h : Spc w b g) : b < w.heap.size := by
  obtain ⟨D, n, _, h, _⟩ := h
  exact h.lt
theorem Spc.kept {row : Option Nat} (h : Spc w b g) (hg : w.grownBy w' row) (hne : some b ≠ row) : Spc w' b g := by
  obtain ⟨D, n, h1, h2, h3⟩ := h
  exact ⟨D, n, h1, h2.kept hg hne, h3⟩
theorem Spc.same (h : Spc w b g) (hb : w'.heap[b]? = w.heap[b]?) : Spc w' b g := by
  obtain ⟨D, n, h1, ⟨es, clock, h2, r⟩, h3⟩ := h
  exact ⟨D, n, h1, ⟨es, clock, hb.trans h2, r⟩, h3⟩
theorem Spc.later (h : Spc w b g) (hb : Below w.heap.size w w') : Spc w' b g := h.same (hb.block b h.lt)
theorem Spc.isMap (h : Spc w b g) : ∃ es c, w.heap[b]? = some (.map es c) := by
  obtain ⟨D, n, h1, ⟨es, clock, h2, r⟩, h3⟩ := h
  exact ⟨es, clock, h2⟩
theorem Spc.made (w : World) : Spc (w.alloc (.map #[] 0)) w.heap.size [] := by
  have := World.ownsMap_made (H := Unit) w Tryz.prog 9 (plainElem (H := Unit) Tryz.prog 9)
  exact ⟨_, _, Nat.le_refl _, this, ⟨_, rfl⟩, fun x => ⟨rfl, rfl⟩⟩
theorem Spc.look_ok (h : Spc w b g) (x : List UInt8) (hx : x.length ≤ 281474976710656) :
    (Instr.lookup 97 (.map (some b)) (.string (text x)) true).run Tryz.prog w = .ok (.tuple #[.string (text ((get g x).getD [])), .bool (get g x).isSome]) w := by
  obtain ⟨D, n, _, h, _, hD⟩ := h
  obtain ⟨u, ps, hrun, hv⟩ := World.ownsMap.look_ok h (Maps.string_keyed under9) undS (Tryz.zeroValue9 w) (plainElem_string under9 (by decide)) (key_of x hx)
  obtain ⟨s, rfl, hs, _⟩ := plainElem_string_inv under9 hv
  injection hs with hs _
  have h3 : D.atKey (.string x) (.lit (.string [])) = .lit (.string s.data.toList) := hs
  rw [(hD x).2] at h3
  injection h3 with h3
  injection h3 with h3
  have e : s = text ((get g x).getD []) := by rw [h3]; cases s; simp [text]
  rw [hrun, (hD x).1, e]
theorem Spc.look (h : Spc w b g) (x : List UInt8) (hx : x.length ≤ 281474976710656) :
    (Instr.lookup 97 (.map (some b)) (.string (text x)) false).run Tryz.prog w = .ok (.string (text ((get g x).getD []))) w := by
  obtain ⟨D, n, _, h, _, hD⟩ := h
  obtain ⟨u, ps, hrun, hv⟩ := World.ownsMap.lookup h (Maps.string_keyed under9) undS (Tryz.zeroValue9 w) (plainElem_string under9 (by decide)) (key_of x hx)
  obtain ⟨s, rfl, hs, _⟩ := plainElem_string_inv under9 hv
  injection hs with hs _
  have h3 : D.atKey (.string x) (.lit (.string [])) = .lit (.string s.data.toList) := hs
  rw [(hD x).2] at h3
  injection h3 with h3
  injection h3 with h3
  have e : s = text ((get g x).getD []) := by rw [h3]; cases s; simp [text]
  rw [hrun, e]
theorem spc_put {D : DataW Unit} {n : Nat} (hn : n ≤ g.length) (hI : ∃ es, D = .map es)
    (hD : ∀ x : List UInt8, Maps.has D (.string x) = (get g x).isSome ∧ D.atKey (.string x) (.lit (.string [])) = .lit (.string ((get g x).getD []))) (k v : List UInt8)
    (h : w'.ownsMap Tryz.prog 9 (plainElem (H := Unit) Tryz.prog 9) b (n + 1) (D.put (.string k) (.lit (.string v)))) : Spc w' b ((k, v) :: g) := by
  refine ⟨_, _, by simp; omega, h, ?_, fun y => ?_⟩
  · obtain ⟨es, rfl⟩ := hI; exact ⟨_, rfl⟩
  · rw [get_cons]
    by_cases e : y = k
    · subst e
      rw [if_pos rfl]
      exact ⟨Maps.has_put_same hI (by simp [WideAt.IsKeyLit]) _, Maps.atKey_put_same hI (by simp [WideAt.IsKeyLit]) _ _⟩
    · have hne : (Lit.string y) ≠ .string k := by intro q; injection q with q; exact e q
      rw [if_neg e]
      exact ⟨by rw [Maps.has_put_other hne]; exact (hD y).1, by rw [Maps.atKey_put_other hne]; exact (hD y).2⟩
/-- A store. -/
theorem Spc.store (h : Spc w b g) (hg : g.length ≤ 281474976710656) (k v : List UInt8) (hk : k.length ≤ 281474976710656) (hv : v.length ≤ 281474976710656) :
    ∃ w', (Instr.mapUpdate 97 (.map (some b)) (.string (text k)) (.string (text v))).run Tryz.prog w = .ok () w' ∧ Spc w' b ((k, v) :: g) ∧ w.grownBy w' (some b) := by
  obtain ⟨D, n, hn, h, hI, hD⟩ := h
  obtain ⟨w', h1, h2, h3⟩ := h.update (Maps.string_keyed under9) undS (by unfold maxLen; omega) (key_of k hk) (elem_of v hv)
  exact ⟨w', h1, spc_put hn hI hD k v h2, h3⟩
end

set_option maxHeartbeats 2000000 in
theorem atFirst_any (w : World) : Calls Tryz.prog 61 #[] w fun e w' => (∃ b, e = .returned (.map (some b)) ∧ Spc w' b atFirst ∧ w.heap.size ≤ b) ∧ Below w.heap.size w w' := by
  have hmm := @run_makeMap Tryz.prog
  have hown := World.ownsMap_made (H := Unit) w Tryz.prog 9 (plainElem (H := Unit) Tryz.prog 9)
  have hB := ba (b0 w) (.map #[] 0)
  go_enter Tryz.func61, Tryz.ntmps61
  go_wp2_with (refine wpList_insert_own _ rfl _ _ _ 97 rfl 9 9 (Maps.string_keyed under9) undS (plainElem (H := Unit) Tryz.prog 9) _ _ _ rfl hown (by unfold maxLen; omega) _ _ _ rfl rfl (WideMaps.keyOf_string_mk under9 (by decide)) _ [] (plainElem_string under9 (by decide)) ?_; clear hown; intro w1 hown hg1; replace hB := hB.grown hg1 hB.size (fun k e => by cases e; exact Nat.le_refl _); clear hg1)
  go_ret
  refine ⟨⟨_, rfl, ?_, Nat.le_refl _⟩, hB⟩
  have h0 : ∀ x : List UInt8, Maps.has (DataW.map [] : DataW Unit) (.string x) = (get [] x).isSome ∧ (DataW.map [] : DataW Unit).atKey (.string x) (.lit (.string [])) = .lit (.string ((get [] x).getD [])) := fun x => ⟨rfl, rfl⟩
  have h1 : ∀ x : List UInt8, Maps.has ((DataW.map [] : DataW Unit).put (.string []) (.lit (.string []))) (.string x) = (get [([], [])] x).isSome ∧ ((DataW.map [] : DataW Unit).put (.string []) (.lit (.string []))).atKey (.string x) (.lit (.string [])) = .lit (.string ((get [([], [])] x).getD [])) := by
    intro x
    rw [get_cons]
    by_cases e : x = []
    · subst e
      exact ⟨Maps.has_put_same ⟨_, rfl⟩ (by simp [WideAt.IsKeyLit]) _, Maps.atKey_put_same ⟨_, rfl⟩ (by simp [WideAt.IsKeyLit]) _ _⟩
    · have hne : (Lit.string x) ≠ .string [] := by intro q; injection q with q; exact e q
      rw [if_neg e]
      exact ⟨by rw [Maps.has_put_other hne]; exact (h0 x).1, by rw [Maps.atKey_put_other hne]; exact (h0 x).2⟩
  exact spc_put (g := [([], [])]) (n := 1) (by simp) ⟨_, rfl⟩ h1 xml xmlSpace hown

set_option maxHeartbeats 2000000 in
theorem clone_any (b : Nat) (g : Sp) (w : World) (h : Spc w b g) :
    Calls Tryz.prog 64 #[.map (some b)] w fun e w' => e = .returned (.map (some w.heap.size)) ∧ Spc w' w.heap.size g ∧ Below w.heap.size w w' := by
  obtain ⟨es, clock, hb⟩ := h.isMap
  have HH := hid h
  have hq := fun w => run_eql_map_nil_sl (P := Tryz.prog) w 97 _ _ (some b) undS
  clear h
  go_enter Tryz.func64, Tryz.ntmps64
  go_wp2_with fail
  rw [run_callFunc_extern Tryz.func93 (by kernel_rfl) (by kernel_rfl) (by kernel_rfl) (e := Extern.MapsClone.clone) (by kernel_rfl), run_maps_clone_sl w 97 hb]
  simp only [Result.andThen]
  rw [Oper.upon_value]
  go_wp2_with fail
  rw [run_typeAssert_map_sl _ 97 20 _ _ _ undS]
  simp only [Result.andThen]
  rw [Oper.upon_value]
  go_wp2
  go_ret
  refine ⟨rfl, ?_, ba (b0 w) _⟩
  obtain ⟨D, n, h1, ⟨es', clock', h2, r⟩, h3⟩ := HH.out
  rw [hb] at h2
  injection h2 with h2
  injection h2 with e1 e2
  subst e1 e2
  exact ⟨D, n, h1, ⟨es, clock, heap_alloc_new w _, r⟩, h3⟩

theorem efGives : ∀ args w, (callFunc 63 args).run Tryz.prog w = .ok (.enter 63 args) w := enters_of Tryz.func63 (by kernel_rfl) rfl
/-- Does one give a namespace? -/
def someGives (l : List Pr) : Bool := l.any (fun p => givesB p.name)
theorem some_no {l : List Pr} (h : ∀ i (hi : i < l.length), givesB l[i].name = false) : someGives l = false := by
  unfold someGives
  rw [List.any_eq_false]
  intro x hx
  obtain ⟨i, hi, rfl⟩ := List.mem_iff_getElem.1 hx
  rw [h i hi]; decide
theorem some_yes {l : List Pr} (i : Nat) (hi : i < l.length) (h : givesB l[i].name = true) : someGives l = true := by
  unfold someGives
  rw [List.any_eq_true]
  exact ⟨l[i], List.getElem_mem hi, h⟩
set_option maxHeartbeats 2000000 in
theorem index_any (l : List Pr) (v : Value) (w : World) (hp : Prs w v l) :
    Calls Tryz.prog 92 #[v, .func (.func 63) #[] #[]] w fun e w' => (∃ k : Int, e = .returned (.int .i64 k) ∧ (decide (0 ≤ k)) = someGives l) ∧ Below w.heap.size w w' := by
  have plen := fun X => hp.len (P := Tryz.prog) 43 3 73 undP X
  have hl : l.length ≤ 281474976710656 := Row.le hp
  have ef := efGives
  have HP := hid hp
  clear hp
  go_enter Tryz.func92, Tryz.ntmps92
  go_wp2_with fail
  go_loopg [8] l.length (fun g iv X => ∃ n : Nat, iv = .int .i64 n ∧ n + g = l.length ∧ Hid (∀ i (h1 : i < l.length), i < n → givesB l[i].name = false) ∧ Below w.heap.size w X)
  case atStart => exact ⟨0, rfl, by omega, hid (fun i _ h => absurd h (by omega)), b0 w⟩
  case round =>
    rename World => X
    obtain ⟨n, rfl, hng, HQ, hb⟩ := hrel
    have HB := hid hb
    clear hb
    by_cases hn : n < l.length
    · obtain ⟨b1, o1, i1, c0, c1, c2⟩ := (HP.out.below HB.out (Nat.le_refl _)).at (P := Tryz.prog) n hn 43 73 undP sizPr
      have HY := hid (fun h => some_yes (l := l) n hn h)
      have HNX := hid (fun (h : givesB l[n].name = false) i (h1 : i < l.length) (h3 : i < n + 1) => (by
        by_cases e : i = n
        · subst e; exact h
        · exact HQ.out i h1 (by omega) : givesB l[i].name = false))
      generalize l[n] = x at *
      have GV := hid (gives_any x.place x.name x.value X)
      unfold pV at GV
      cases hg : givesB x.name with
      | true =>
        have R := hid (HY.out hg)
        rw [hg] at GV
        clear hg HY HNX
        go_wp2_with fail
        refine GV.out.mono ?_
        rintro e w1 ⟨rfl, hb1⟩
        have HB1 := hid (HB.out.trans (hb1.mono HB.out.size))
        clear hb1
        go_wp2
        go_ret
        exact ⟨⟨n, rfl, by rw [R.out, decide_eq_true]; omega⟩, HB1.out⟩
      | false =>
        have R := hid (HNX.out hg)
        rw [hg] at GV
        clear hg HY HNX
        go_wp2_with fail
        refine GV.out.mono ?_
        rintro e w1 ⟨rfl, hb1⟩
        have HB1 := hid (HB.out.trans (hb1.mono HB.out.size))
        clear hb1
        go_wp2
        go_roundg (gk - 1)
        case measure => omega
        case rel => exact ⟨n + 1, by go_num, by omega, R, HB1.out⟩
    · have R := hid (some_no (l := l) (fun i h1 => HQ.out i h1 (by omega)))
      go_wp2
      go_ret
      exact ⟨⟨-1, rfl, by rw [R.out]; decide⟩, HB.out⟩
set_option maxHeartbeats 1000000 in
theorem contains_any (l : List Pr) (v : Value) (w : World) (hp : Prs w v l) :
    Calls Tryz.prog 62 #[v, .func (.func 63) #[] #[]] w fun e w' => e = .returned (.bool (someGives l)) ∧ Below w.heap.size w w' := by
  have H := hid (index_any l v w hp)
  clear hp
  go_enter Tryz.func62, Tryz.ntmps62
  go_wp2_with fail
  refine H.out.mono ?_
  rintro e w1 ⟨⟨k, rfl, hk⟩, hb⟩
  have HK := hid hk
  have HB := hid hb
  clear hk hb
  go_wp2
  go_ret
  exact ⟨by rw [← HK.out]; rfl, HB.out⟩
end Go.Proofs.YthodmdfbahkflaaGreatDoor.Tree
namespace Go.Proofs.YthodmdfbahkflaaGreatDoor.Tree
open Go Go.Proofs.YthodmdfbahkflaaGreatDoor Go.Proofs.YthodmdfbahkflaaGreatDoor.Utf Go.Proofs.YthodmdfbahkflaaGreatDoor.Names Go.Proofs.YthodmdfbahkflaaGreatDoor.Ent Go.Proofs.YthodmdfbahkflaaGreatDoor.Tok Go.RowKit
set_option maxRecDepth 100000

theorem within_none : ∀ (l : List Pr) (g : Sp), someGives l = false → within g l = .ok g
  | [], g, _ => rfl
  | p :: r, g, h => by
    unfold someGives at h
    rw [List.any_cons, Bool.or_eq_false_iff] at h
    unfold within
    rw [if_pos h.1]
    exact within_none r g h.2
theorem within_skip {g : Sp} {p : Pr} (r : List Pr) (h : givesB p.name = false) : within g (p :: r) = within g r := by
  rw [within, if_pos h]
theorem within_bad {g : Sp} {p : Pr} (r : List Pr) (h : givesB p.name = true) (hm : mayB p = false) : within g (p :: r) = .error (p.place, 2) := by
  rw [within, if_neg (by rw [h]; decide), if_pos hm]
theorem within_put {g : Sp} {p : Pr} (r : List Pr) (h : givesB p.name = true) (hm : mayB p = true) : within g (p :: r) = within ((givenTo p.name, p.value) :: g) r := by
  rw [within, if_neg (by rw [h]; decide), if_neg (by rw [hm]; decide)]
theorem givenTo_len (x : List UInt8) : (givenTo x).length ≤ x.length := by
  unfold givenTo
  split
  · rw [List.length_drop]; omega
  · simp
/-- What within tells. -/
def GotS (w : World) (b : Nat) (o : Except (Int × Nat) Sp) (e : Ending) (w' : World) : Prop :=
  match o with
  | .error x => e = .returned (.tuple #[.map none, .int .i64 x.1, .int .i64 x.2])
  | .ok g' => ∃ b', e = .returned (.tuple #[.map (some b'), .int .i64 0, .int .i64 0]) ∧ Spc w' b' g' ∧ (b' = b ∨ w.heap.size ≤ b')

set_option maxHeartbeats 4000000 in
theorem within_any (g : Sp) (b : Nat) (l : List Pr) (v : Value) (w : World) (h : Spc w b g) (hp : Prs w v l) (hl : l.length ≤ 1000000) (hn : ∀ p ∈ l, p.name.length ≤ 1000000 ∧ p.value.length ≤ 4000000) (hg : g.length ≤ 1000000000000) :
    Calls Tryz.prog 37 #[.map (some b), v] w fun e w' => GotS w b (within g l) e w' ∧ Below w.heap.size w w' := by
  have plen := fun X => hp.len (P := Tryz.prog) 43 3 73 undP X
  have CN := hid (contains_any l v w hp)
  cases hs : someGives l with
  | false =>
    rw [within_none l g hs]
    rw [hs] at CN
    have H := hid h
    clear h hp hs
    go_enter Tryz.func37, Tryz.ntmps37
    go_wp2_with fail
    refine CN.out.mono ?_
    rintro e w1 ⟨rfl, hb⟩
    have HB := hid hb
    clear hb
    go_wp2
    go_ret3
    exact ⟨⟨b, rfl, H.out.later HB.out, .inl rfl⟩, HB.out⟩
  | true =>
    rw [hs] at CN
    obtain ⟨A, hA⟩ : ∃ A, within g l = A := ⟨_, rfl⟩
    rw [hA]
    have HA := hid hA
    have H := hid h
    have HP := hid hp
    have HN := hid hn
    clear h hp hs hA hn
    go_enter Tryz.func37, Tryz.ntmps37
    go_wp2_with fail
    refine CN.out.mono ?_
    rintro e w1 ⟨rfl, hb⟩
    have HB := hid hb
    have CL := hid (clone_any b g w1 (H.out.later hb))
    clear hb
    go_wp2_with fail
    refine CL.out.mono ?_
    rintro e w2 ⟨rfl, hs2, hb2⟩
    have hb1 : w.heap.size ≤ w1.heap.size := HB.out.size
    have HB2 := hid (bt HB.out hb2)
    have HS2 := hid hs2
    generalize w1.heap.size = b1 at *
    clear hs2 hb2
    go_wp2_with fail
    go_loopg [18] l.length (fun gk iv X => ∃ (n : Nat) (g' : Sp), iv = .int .i64 n ∧ n + gk = l.length ∧ g'.length ≤ g.length + n ∧ Hid (A = within g' (l.drop n)) ∧ Hid (Spc X b1 g') ∧ Below w.heap.size w X)
    case atStart => exact ⟨0, g, rfl, by omega, by omega, hid (by rw [List.drop_zero]; exact HA.out.symm), HS2, HB2.out⟩
    case round =>
      rename World => X
      obtain ⟨n, g', rfl, hng, hgl, HE, HS, hbx⟩ := hrel
      have HBX := hid hbx
      clear hbx
      by_cases hi : n < l.length
      · obtain ⟨bp, op, ip, c0, c1, c2⟩ := (HP.out.below HBX.out (Nat.le_refl _)).at (P := Tryz.prog) n hi 43 73 undP sizPr
        have hnm := HN.out l[n] (List.getElem_mem hi)
        have he := HE.out
        rw [List.drop_eq_getElem_cons hi] at he
        generalize l[n] = p at *
        obtain ⟨pk, nm, vl⟩ := p
        dsimp only at *
        have GV := hid (fun X => gives_any pk nm vl X)
        have MV := hid (fun X => mayGive_any pk nm vl (by omega) X)
        have GT := hid (fun X => givenTo_any pk nm vl (by omega) X)
        have HY : Hid (Below X.heap.size X (X.alloc (.cells #[.int .i64 pk, .string (text nm), .string (text vl)] 73))) := hid (ba (b0 X) _)
        unfold pV at GV MV GT
        cases hgv : givesB nm with
        | false =>
          have E := hid (show A = within g' (l.drop (n + 1)) by rw [he]; exact within_skip _ hgv)
          rw [hgv] at GV
          clear he hgv hnm
          go_wp2_with fail
          refine (GV.out _).mono ?_
          rintro e w3 ⟨rfl, hb3⟩
          have HB3 := hid (below_new hb3)
          clear hb3
          go_wp2
          go_roundg (gk - 1)
          case measure => omega
          case rel => exact ⟨n + 1, g', by go_num, by omega, by omega, E, hid (HS.out.later HB3.out), HBX.out.trans (HB3.out.mono HBX.out.size)⟩
        | true =>
          rw [hgv] at GV
          go_wp2_with fail
          refine (GV.out _).mono ?_
          rintro e w3 ⟨rfl, hb3⟩
          have HB3 := hid (below_new hb3)
          have p3 := kept_new hb3
          have d0 : w3.cell? ⟨X.heap.size, 0, none⟩ = some (.int .i64 pk) := by rw [Lib.cell_of_heap p3]; rfl
          have d1 : w3.cell? ⟨X.heap.size, 1, none⟩ = some (.string (text nm)) := by rw [Lib.cell_of_heap p3]; rfl
          have d2 : w3.cell? ⟨X.heap.size, 2, none⟩ = some (.string (text vl)) := by rw [Lib.cell_of_heap p3]; rfl
          have P3 := hid p3
          clear hb3 p3 c0 c1 c2 ip
          cases hmv : mayB ⟨pk, nm, vl⟩ with
          | false =>
            have E := hid (show A = .error (pk, 2) by rw [he]; exact within_bad _ hgv hmv)
            rw [hmv] at MV
            clear he hgv hmv hnm
            go_wp2_with fail
            refine (MV.out _).mono ?_
            rintro e w4 ⟨rfl, hb4⟩
            have p4 := (hb4.block _ (lt_of_some P3.out)).trans P3.out
            have e0 : w4.cell? ⟨X.heap.size, 0, none⟩ = some (.int .i64 pk) := by rw [Lib.cell_of_heap p4]; rfl
            have HB4 := hid (HBX.out.trans ((bt HB3.out hb4).mono HBX.out.size))
            clear hb4 p4 d0 d1 d2
            go_wp2_with fail
            go_quiet (fail)
            go_wp2
            go_ret3
            exact ⟨by rw [E.out]; rfl, below_drewN HB4.out _⟩
          | true =>
            have E := hid (show A = within ((givenTo nm, vl) :: g') (l.drop (n + 1)) by rw [he]; exact within_put _ hgv hmv)
            rw [hmv] at MV
            have hgt := givenTo_len nm
            have ST := hid (fun (Z : World) (hZ : Spc Z b1 g') => hZ.store (by omega) (givenTo nm) vl (by omega) (by omega))
            clear he hgv hmv
            go_wp2_with fail
            refine (MV.out _).mono ?_
            rintro e w4 ⟨rfl, hb4⟩
            have p4 := (hb4.block _ (lt_of_some P3.out)).trans P3.out
            have e0 : w4.cell? ⟨X.heap.size, 0, none⟩ = some (.int .i64 pk) := by rw [Lib.cell_of_heap p4]; rfl
            have e1 : w4.cell? ⟨X.heap.size, 1, none⟩ = some (.string (text nm)) := by rw [Lib.cell_of_heap p4]; rfl
            have e2 : w4.cell? ⟨X.heap.size, 2, none⟩ = some (.string (text vl)) := by rw [Lib.cell_of_heap p4]; rfl
            have P4 := hid p4
            have LT4 := hid (lt_of_some p4)
            have HB4 := hid (HBX.out.trans ((bt HB3.out hb4).mono HBX.out.size))
            have HS4 := hid ((HS.out.later HB3.out).later hb4)
            clear hb4 p4 d0 d1 d2 hnm
            go_wp2_with fail
            go_region_with (
              go_at_call 66
              refine (GT.out _).mono ?_
              rintro e w5 ⟨rfl, hb5⟩
              have p5 := (hb5.block _ LT4.out).trans P4.out
              have i2 : w5.cell? ⟨X.heap.size, 2, none⟩ = some (.string (text vl)) := by rw [Lib.cell_of_heap p5]; rfl
              have HS5 := hid (HS4.out.same (hb5.block _ HS4.out.lt))
              have HB5 := hid ((HB4.out.drew).trans (Below.mono hb5 HB4.out.size))
              obtain ⟨w6, hrun, hs6, hg6⟩ := ST.out w5 HS5.out
              have HS6 := hid hs6
              have HB6 := hid (HB5.out.grown hg6 HB5.out.size (fun k e => by cases e; exact hb1))
              clear hb5 p5 hs6 hg6)
            all_goals go_wp2
            all_goals go_roundg (gk - 1)
            all_goals first | omega | exact ⟨n + 1, _, by go_num, by omega, by simp; omega, E, HS6, HB6.out⟩
      · have he := HE.out
        rw [show l.drop n = [] from List.drop_eq_nil_of_le (by omega)] at he
        have E := hid (show A = .ok g' by rw [he]; rfl)
        clear he
        go_wp2
        go_ret3
        exact ⟨by rw [E.out]; exact ⟨b1, rfl, HS.out, .inr hb1⟩, HBX.out⟩
theorem splitO_len {l p s : List UInt8} (h : splitO l = some (p, s)) : p.length ≤ l.length ∧ s.length ≤ l.length := by
  unfold splitO at h
  split at h
  · split at h
    · injection h with h
      injection h with h1 h2
      subst h1 h2
      simp
    · cases h
  · rename_i i _
    split at h
    · injection h with h
      injection h with h1 h2
      subst h1 h2
      rw [List.length_take, List.length_drop]
      omega
    · cases h
theorem sizeNm : (Tryz.prog.info? 28).map (·.size) = some 2 := by kernel_rfl
/-- What name tells. -/
def nmV (o : Except Nat Nm) : Value :=
  match o with
  | .error e => .tuple #[.agg #[.string ⟨#[]⟩, .string ⟨#[]⟩], .int .i64 e]
  | .ok nm => .tuple #[.agg #[.string (text nm.1), .string (text nm.2)], .int .i64 0]
/-- Two stores into one block. -/
theorem put2 {w : World} {b : Nat} {a1 a2 : Value} {ty : TypeId} (h : w.heap[b]? = some (.cells #[a1, a2] ty (0, 0))) (x y : Value) :
    ((w.setCell ⟨b, 0, none⟩ x).setCell ⟨b, 1, none⟩ y).heap[b]? = some (.cells #[x, y] ty (0, 0)) ∧ w.grownBy ((w.setCell ⟨b, 0, none⟩ x).setCell ⟨b, 1, none⟩ y) (some b) := by
  refine ⟨by simp [World.setCell, Array.getElem?_modify, h], ?_⟩
  exact Kept.trans (Kept.put b 0 w x) (Kept.put b 1 _ y)
/-- Behind stores into the block that was new. -/
theorem new_end {w w1 w2 : World} (h : Below w.heap.size w w1) (g : w1.grownBy w2 (some w.heap.size)) : Below w.heap.size w w2 :=
  h.grown g h.size (fun k e => by cases e; exact Nat.le_refl _)

set_option maxHeartbeats 4000000 in
theorem name_any (g : Sp) (b : Nat) (wr bare : List UInt8) (w : World) (h : Spc w b g) (hw : wr.length ≤ 281474976710656) :
    Calls Tryz.prog 38 #[.map (some b), .string (text wr), .string (text bare)] w fun e w' => e = .returned (nmV (nameIn g wr bare)) ∧ Below w.heap.size w w' := by
  have SP := fun X => Split_any wr hw X
  have H := hid h
  have p0 : (w.alloc (.cells #[.string ⟨#[]⟩, .string ⟨#[]⟩] 28)).heap[w.heap.size]? = some (.cells #[.string ⟨#[]⟩, .string ⟨#[]⟩] 28) := heap_alloc_new w _
  have P0 := hid p0
  clear h p0
  cases hs : splitO wr with
  | none =>
    rw [splitE_no hs] at SP
    have E := hid (show nameIn g wr bare = .error 6 by unfold nameIn; rw [hs])
    have SS := hid SP
    clear SP hs
    go_enter Tryz.func38, Tryz.ntmps38
    go_wp2_with fail
    refine (SS.out _).mono ?_
    rintro e w1 ⟨rfl, hb1⟩
    have p1 := kept_new hb1
    have HB1 := hid (below_new hb1)
    have d0 : w1.cell? ⟨w.heap.size, 0, none⟩ = some (.string ⟨#[]⟩) := by rw [Lib.cell_of_heap p1]; rfl
    have d1 : w1.cell? ⟨w.heap.size, 1, none⟩ = some (.string ⟨#[]⟩) := by rw [Lib.cell_of_heap p1]; rfl
    have f0 := Lib.frozen_of_heap p1 0
    have f1 := Lib.frozen_of_heap p1 1
    have P1 := hid p1
    clear hb1 p1
    go_wp2
    obtain ⟨p3, g3⟩ := put2 P1.out (.string ⟨#[]⟩) (.string ⟨#[]⟩)
    refine bodyPost_ret (results_pair rfl _ _ _ _ rfl (run_loadVar_row _ _ _ _ _ _ _ p3 Tryz.underlying28 rfl sizeNm)) rfl ?_
    exact ⟨by rw [E.out]; rfl, new_end HB1.out g3⟩
  | some ps =>
    obtain ⟨p, s⟩ := ps
    have hne : splitO wr ≠ none := by rw [hs]; simp
    have hlen := splitO_len hs
    rw [splitE_ok hne, show splitA wr = p from by unfold splitA; rw [hs], show splitB wr = s from by unfold splitB; rw [hs]] at SP
    have SS := hid SP
    by_cases hp : p = []
    · have q : ((text p).toList == []) = true := list_yes hp
      have E := hid (show nameIn g wr bare = .ok (bare, s) by unfold nameIn; rw [hs]; dsimp only; rw [if_pos hp])
      clear SP hs hne hp
      go_enter Tryz.func38, Tryz.ntmps38
      go_wp2_with fail
      refine (SS.out _).mono ?_
      rintro e w1 ⟨rfl, hb1⟩
      have p1 := kept_new hb1
      have HB1 := hid (below_new hb1)
      have d0 : w1.cell? ⟨w.heap.size, 0, none⟩ = some (.string ⟨#[]⟩) := by rw [Lib.cell_of_heap p1]; rfl
      have d1 : w1.cell? ⟨w.heap.size, 1, none⟩ = some (.string ⟨#[]⟩) := by rw [Lib.cell_of_heap p1]; rfl
      have f0 := Lib.frozen_of_heap p1 0
      have f1 := Lib.frozen_of_heap p1 1
      have P1 := hid p1
      clear hb1 p1
      go_wp2
      obtain ⟨p3, g3⟩ := put2 P1.out (.string (text bare)) (.string (text s))
      refine bodyPost_ret (results_pair rfl _ _ _ _ rfl (run_loadVar_row _ _ _ _ _ _ _ p3 Tryz.underlying28 rfl sizeNm)) rfl ?_
      exact ⟨by rw [E.out]; rfl, new_end HB1.out g3⟩
    have q : ((text p).toList == []) = false := list_no hp
    cases hget : get g p with
    | none =>
      have E := hid (show nameIn g wr bare = .error 7 by unfold nameIn; rw [hs]; dsimp only; rw [if_neg hp, hget])
      have HG := hid hget
      clear SP hs hne hp hget
      go_enter Tryz.func38, Tryz.ntmps38
      go_wp2_with fail
      refine (SS.out _).mono ?_
      rintro e w1 ⟨rfl, hb1⟩
      have p1 := kept_new hb1
      have HB1 := hid (below_new hb1)
      have d0 : w1.cell? ⟨w.heap.size, 0, none⟩ = some (.string ⟨#[]⟩) := by rw [Lib.cell_of_heap p1]; rfl
      have d1 : w1.cell? ⟨w.heap.size, 1, none⟩ = some (.string ⟨#[]⟩) := by rw [Lib.cell_of_heap p1]; rfl
      have f0 := Lib.frozen_of_heap p1 0
      have f1 := Lib.frozen_of_heap p1 1
      have P1 := hid p1
      have hlk := (H.out.later HB1.out).look_ok p (by omega)
      rw [HG.out] at hlk
      dsimp only [Option.getD_none, Option.isSome_none] at hlk
      clear hb1 p1
      go_wp2
      obtain ⟨p3, g3⟩ := put2 P1.out (.string ⟨#[]⟩) (.string ⟨#[]⟩)
      refine bodyPost_ret (results_pair rfl _ _ _ _ rfl (run_loadVar_row _ _ _ _ _ _ _ p3 Tryz.underlying28 rfl sizeNm)) rfl ?_
      exact ⟨by rw [E.out]; rfl, new_end HB1.out g3⟩
    | some u =>
      have E := hid (show nameIn g wr bare = .ok (u, s) by unfold nameIn; rw [hs]; dsimp only; rw [if_neg hp, hget])
      have HG := hid hget
      clear SP hs hne hp hget
      go_enter Tryz.func38, Tryz.ntmps38
      go_wp2_with fail
      refine (SS.out _).mono ?_
      rintro e w1 ⟨rfl, hb1⟩
      have p1 := kept_new hb1
      have HB1 := hid (below_new hb1)
      have d0 : w1.cell? ⟨w.heap.size, 0, none⟩ = some (.string ⟨#[]⟩) := by rw [Lib.cell_of_heap p1]; rfl
      have d1 : w1.cell? ⟨w.heap.size, 1, none⟩ = some (.string ⟨#[]⟩) := by rw [Lib.cell_of_heap p1]; rfl
      have f0 := Lib.frozen_of_heap p1 0
      have f1 := Lib.frozen_of_heap p1 1
      have P1 := hid p1
      have hlk := (H.out.later HB1.out).look_ok p (by omega)
      rw [HG.out] at hlk
      dsimp only [Option.getD_some, Option.isSome_some] at hlk
      clear hb1 p1
      go_wp2
      obtain ⟨p3, g3⟩ := put2 P1.out (.string (text u)) (.string (text s))
      refine bodyPost_ret (results_pair rfl _ _ _ _ rfl (run_loadVar_row _ _ _ _ _ _ _ p3 Tryz.underlying28 rfl sizeNm)) rfl ?_
      exact ⟨by rw [E.out]; rfl, new_end HB1.out g3⟩
end Go.Proofs.YthodmdfbahkflaaGreatDoor.Tree
namespace Go.Proofs.YthodmdfbahkflaaGreatDoor.Tree
open Go Go.Proofs.YthodmdfbahkflaaGreatDoor Go.Proofs.YthodmdfbahkflaaGreatDoor.Utf Go.Proofs.YthodmdfbahkflaaGreatDoor.Names Go.Proofs.YthodmdfbahkflaaGreatDoor.Ent Go.Proofs.YthodmdfbahkflaaGreatDoor.Tok Go.RowKit
set_option maxRecDepth 100000

theorem undNM : Tryz.prog.underlying 129 = some (.map 28 4) := Tryz.underlying129
/-- A name as a key. -/
def kb (x : Nm) : List UInt8 := keyBytes [.string x.1, .string x.2]
def Sm (x : Nm) : Prop := x.1.length ≤ 281474976710656 ∧ x.2.length ≤ 281474976710656
theorem keyOf_name (x : Nm) (h : Sm x) : keyOf Tryz.prog 28 (.agg #[.string (text x.1), .string (text x.2)]) = some (.string (kb x)) := by
  obtain ⟨s, t⟩ := x
  obtain ⟨h1, h2⟩ := h
  dsimp only at h1 h2 ⊢
  have hu := Tryz.underlying28
  have hus : Tryz.prog.underlying 9 = some .string := under9
  have hkt : Tryz.prog.keyType 28 = true := by kernel_rfl
  have hc : Tryz.prog.cellsOf 28 = 2 := by kernel_rfl
  have hcs : Tryz.prog.cellsOf 9 = 1 := by kernel_rfl
  have z1 : (text s).size ≤ maxLen := by rw [text_size]; unfold maxLen; omega
  have z2 : (text t).size ≤ maxLen := by rw [text_size]; unfold maxLen; omega
  obtain ⟨m, hm⟩ : ∃ m, Tryz.prog.types.size = m + 1 := ⟨Tryz.prog.types.size - 1, by kernel_rfl⟩
  unfold keyOf
  simp only [hu]
  rw [if_pos (by simp [hkt, Value.formed, hu, hc]), hm]
  unfold Program.keyLits
  simp only [hu, Value.cells]
  simp [hc, hcs, hus, Program.keyLits, z1, z2, kb, _root_.Go.Proofs.YthodmdfbahkflaaGreatDoor.text_data]
theorem nm_keyed : Maps.Keyed Tryz.prog 28 := Maps.Keyed.of_law (deep_law_laid (m := 9000) (by kernel_rfl) (by decide) (by decide +kernel) (by kernel_rfl) (by kernel_rfl))
theorem kb_inj {x y : Nm} (hx : Sm x) (hy : Sm y) (h : kb x = kb y) : x = y := by
  have h1 := keyOf_name x hx
  have h2 := keyOf_name y hy
  rw [h] at h1
  have h3 := nm_keyed.inj h1 h2
  injection h3 with h3
  have h4 := congrArg Array.toList h3
  simp only [List.cons.injEq, Value.string.injEq, and_true] at h4
  have e1 := congrArg (fun b : ByteArray => b.data.toList) h4.1
  have e2 := congrArg (fun b : ByteArray => b.data.toList) h4.2
  simp only [_root_.Go.Proofs.YthodmdfbahkflaaGreatDoor.text_data] at e1 e2
  exact Prod.ext e1 e2
/-- The block holds the names that are ahead. -/
def SeenN (w : World) (b : Nat) (seen : List Nm) : Prop :=
  ∃ (D : DataW Unit) (n : Nat), n ≤ seen.length ∧ w.ownsMap Tryz.prog 28 (plainElem (H := Unit) Tryz.prog 4) b n D ∧
    (∃ es, D = .map es) ∧ (∀ x ∈ seen, Sm x) ∧ ∀ x : Nm, Sm x → D.atKey (.string (kb x)) (.lit (.bool false)) = .lit (.bool (seen.contains x))
section
variable {w w' : World} {b : Nat} {seen : List Nm}
theorem SeenN.lt (h : SeenN w b seen) : b < w.heap.size := by
  obtain ⟨D, n, _, h, _⟩ := h
  exact h.lt
theorem SeenN.same (h : SeenN w b seen) (hb : w'.heap[b]? = w.heap[b]?) : SeenN w' b seen := by
  obtain ⟨D, n, h1, ⟨es, clock, h2, r⟩, h3⟩ := h
  exact ⟨D, n, h1, ⟨es, clock, hb.trans h2, r⟩, h3⟩
theorem SeenN.isMap (h : SeenN w b seen) : ∃ es c, w.heap[b]? = some (.map es c) := by
  obtain ⟨D, n, h1, ⟨es, clock, h2, r⟩, h3⟩ := h
  exact ⟨es, clock, h2⟩
theorem SeenN.made (w : World) : SeenN (w.alloc (.map #[] 0)) w.heap.size [] := by
  have := World.ownsMap_made (H := Unit) w Tryz.prog 28 (plainElem (H := Unit) Tryz.prog 4)
  exact ⟨_, _, Nat.le_refl _, this, ⟨_, rfl⟩, (fun x hx => absurd hx (by simp)), fun x _ => rfl⟩
theorem SeenN.look (h : SeenN w b seen) (x : Nm) (hx : Sm x) :
    (Instr.lookup 129 (.map (some b)) (.agg #[.string (text x.1), .string (text x.2)]) false).run Tryz.prog w = .ok (.bool (seen.contains x)) w := by
  obtain ⟨D, n, _, h, _, _, hD⟩ := h
  obtain ⟨u, ps, hrun, hv⟩ := World.ownsMap.lookup h nm_keyed undNM (Tryz.zeroValue4 w) (plainElem_bool underO false) (keyOf_name x hx)
  rw [hD x hx] at hv
  rw [hrun, plainElem_bool_inv underO hv]
theorem seenN_put {D : DataW Unit} (hI : ∃ es, D = .map es) (hS : ∀ x ∈ seen, Sm x) (hD : ∀ x : Nm, Sm x → D.atKey (.string (kb x)) (.lit (.bool false)) = .lit (.bool (seen.contains x))) {n : Nat} (hn : n ≤ seen.length) (x : Nm) (hx : Sm x)
    (h : w'.ownsMap Tryz.prog 28 (plainElem (H := Unit) Tryz.prog 4) b (n + 1) (D.put (.string (kb x)) (.lit (.bool true)))) : SeenN w' b (x :: seen) := by
  refine ⟨_, _, by simp; omega, h, ?_, ?_, fun y hy => ?_⟩
  · obtain ⟨es, rfl⟩ := hI; exact ⟨_, rfl⟩
  · intro y hy
    rcases List.mem_cons.1 hy with rfl | hy
    · exact hx
    · exact hS y hy
  · by_cases e : y = x
    · subst e
      rw [Maps.atKey_put_same hI (by simp [WideAt.IsKeyLit])]
      simp
    · have hne : (Lit.string (kb y)) ≠ .string (kb x) := by intro q; injection q with q; exact e (kb_inj hy hx q)
      rw [Maps.atKey_put_other hne, hD y hy]
      have : (y == x) = false := by rw [beq_eq_false_iff_ne]; exact e
      rw [List.contains_cons, this, Bool.false_or]
end
end Go.Proofs.YthodmdfbahkflaaGreatDoor.Tree
namespace Go.Proofs.YthodmdfbahkflaaGreatDoor.Tree
open Go Go.Proofs.YthodmdfbahkflaaGreatDoor Go.Proofs.YthodmdfbahkflaaGreatDoor.Utf Go.Proofs.YthodmdfbahkflaaGreatDoor.Names Go.Proofs.YthodmdfbahkflaaGreatDoor.Ent Go.Proofs.YthodmdfbahkflaaGreatDoor.Tok Go.RowKit
set_option maxRecDepth 100000

/-- Attributes ahead of others. -/
def joinT (l : List Att) : Except (Int × Nat) (List Att) → Except (Int × Nat) (List Att)
  | .error x => .error x
  | .ok r => .ok (l ++ r)
theorem joinT_nil (o : Except (Int × Nat) (List Att)) : joinT [] o = o := by cases o <;> rfl
theorem joinT_join (a b : List Att) (o : Except (Int × Nat) (List Att)) : joinT a (joinT b o) = joinT (a ++ b) o := by cases o <;> simp [joinT]
section
variable {g : Sp} {seen : List Nm} {p : Pr} {r : List Pr}
theorem attrsIn_skip (h : givesB p.name = true) : attrsIn g seen (p :: r) = attrsIn g seen r := by rw [attrsIn, if_pos h]
theorem attrsIn_name {e : Nat} (h : givesB p.name = false) (hn : nameIn g p.name [] = .error e) : attrsIn g seen (p :: r) = .error (p.place, e) := by
  rw [attrsIn, if_neg (by rw [h]; decide), hn]
theorem attrsIn_twice {nm : Nm} (h : givesB p.name = false) (hn : nameIn g p.name [] = .ok nm) (hs : seen.contains nm = true) : attrsIn g seen (p :: r) = .error (p.place, 8) := by
  rw [attrsIn, if_neg (by rw [h]; decide), hn]
  dsimp only
  rw [if_pos hs]
theorem attrsIn_ok {nm : Nm} (h : givesB p.name = false) (hn : nameIn g p.name [] = .ok nm) (hs : seen.contains nm = false) : attrsIn g seen (p :: r) = joinT [⟨nm, p.value⟩] (attrsIn g (nm :: seen) r) := by
  rw [attrsIn, if_neg (by rw [h]; decide), hn]
  dsimp only
  rw [if_neg (by rw [hs]; decide)]
  cases attrsIn g (nm :: seen) r <;> rfl
theorem nameIn_err {wr bare : List UInt8} {e : Nat} (h : nameIn g wr bare = .error e) : e ≠ 0 := by
  unfold nameIn at h
  split at h
  · injection h with h; omega
  · split at h
    · cases h
    · split at h
      · injection h with h; omega
      · cases h
/-- Namespaces that are no longer than n. -/
def SpL (n : Nat) (g : Sp) : Prop := ∀ x ∈ g, x.2.length ≤ n
theorem get_len {n : Nat} {x u : List UInt8} (h : SpL n g) (hu : get g x = some u) : u.length ≤ n := by
  unfold get at hu
  rw [Option.map_eq_some_iff] at hu
  obtain ⟨y, hy, rfl⟩ := hu
  exact h y (List.mem_of_find?_eq_some hy)
theorem nameIn_len {n : Nat} {wr bare : List UInt8} {nm : Nm} (hg : SpL n g) (hb : bare.length ≤ n) (h : nameIn g wr bare = .ok nm) : nm.1.length ≤ n ∧ nm.2.length ≤ wr.length := by
  unfold nameIn at h
  split at h
  · cases h
  · rename_i p s hs
    have hl := splitO_len hs
    split at h
    · injection h with h; subst h; exact ⟨hb, hl.2⟩
    · split at h
      · cases h
      · rename_i u hu
        injection h with h; subst h; exact ⟨get_len hg hu, hl.2⟩
end
theorem infoA : (Tryz.prog.info? 61).map (fun i => (i.zero, i.size, i.bytes)) = some (some (.agg #[.string ⟨#[]⟩, .string ⟨#[]⟩, .string ⟨#[]⟩]), 3, 48) := by kernel_rfl
theorem undAs : Tryz.prog.underlying 29 = some (.slice 61) := Tryz.underlying29
/-- Attributes that the call owns. -/
def OwnA (B : Nat) (w : World) (v : Value) (l : List Att) : Prop := w.ownsRow B 61 3 v l.length (l.flatMap attCells)
theorem OwnA.snoc {B : Nat} {w : World} {v : Value} {l : List Att} {a : Att} (h : w.ownsRow B 61 3 v (l.length + 1) (l.flatMap attCells ++ attCells a)) : OwnA B w v (l ++ [a]) := by
  unfold OwnA
  rw [List.length_append, List.flatMap_append, List.flatMap_singleton]
  exact h
/-- What attributes tells. -/
def GotB (w : World) (o : Except (Int × Nat) (List Att)) (e : Ending) (w' : World) : Prop :=
  match o with
  | .error x => e = .returned (.tuple #[.slice none 0 0, .int .i64 x.1, .int .i64 x.2])
  | .ok l => ∃ v, e = .returned (.tuple #[v, .int .i64 0, .int .i64 0]) ∧ OwnA w.heap.size w' v l

set_option maxHeartbeats 8000000 in
theorem attributes_any (g : Sp) (b : Nat) (l : List Pr) (v : Value) (w : World) (h : Spc w b g) (hp : Prs w v l) (hl : l.length ≤ 1000000) (hn : ∀ p ∈ l, p.name.length ≤ 1000000 ∧ p.value.length ≤ 4000000) (hg : SpL 4000000 g) :
    Calls Tryz.prog 39 #[.map (some b), v] w fun e w' => GotB w (attrsIn g [] l) e w' ∧ Below w.heap.size w w' := by
  have plen := fun X => hp.len (P := Tryz.prog) 43 3 73 undP X
  have hmm := @run_makeMap Tryz.prog
  obtain ⟨i0, hi0, hz0, hz1, hz2⟩ := info_parts infoA
  obtain ⟨A, hA⟩ : ∃ A, attrsIn g [] l = A := ⟨_, rfl⟩
  rw [hA]
  have HI := hid hi0
  have HA := hid hA
  have H := hid h
  have HP := hid hp
  have HN := hid hn
  have HG := hid hg
  have HS0 := hid (SeenN.made w)
  have HB0 := hid (ba (b0 w) (.map #[] 0))
  have HO0 := hid (show OwnA w.heap.size (w.alloc (.map #[] 0)) (.slice none 0 0) [] from ⟨by simp, .inl ⟨rfl, rfl⟩⟩)
  clear hA h hp hn hg hi0
  go_enter Tryz.func39, Tryz.ntmps39
  go_wp2_with fail
  go_loopg [16, 7] l.length (fun gk iv av X => ∃ (n : Nat) (seen : List Nm) (al : List Att), iv = .int .i64 n ∧ n + gk = l.length ∧ seen.length ≤ n ∧ al.length ≤ n ∧ Hid (A = joinT al (attrsIn g seen (l.drop n))) ∧ Hid (SeenN X w.heap.size seen) ∧ Hid (OwnA w.heap.size X av al) ∧ Hid (Below w.heap.size w X))
  case atStart => exact ⟨0, [], [], rfl, by omega, by simp, by simp, hid (by rw [joinT_nil, List.drop_zero]; exact HA.out.symm), HS0, HO0, HB0⟩
  case round =>
    rename World => X
    obtain ⟨n, seen, al, rfl, hng, hsl, hall, HE, HS, HO, HBX⟩ := hrel
    by_cases hi : n < l.length
    · obtain ⟨bp, op, ip, c0, c1, c2⟩ := (HP.out.below HBX.out (Nat.le_refl _)).at (P := Tryz.prog) n hi 43 73 undP sizPr
      have hnm := HN.out l[n] (List.getElem_mem hi)
      have he := HE.out
      rw [List.drop_eq_getElem_cons hi] at he
      generalize l[n] = p at *
      obtain ⟨pk, nm, vl⟩ := p
      dsimp only at *
      have GV := hid (fun X => gives_any pk nm vl X)
      have NV := hid (fun X (hX : Spc X b g) => name_any g b nm [] X hX (by omega))
      unfold pV at GV
      cases hgv : givesB nm with
      | true =>
        have E := hid (show A = joinT al (attrsIn g seen (l.drop (n + 1))) by rw [he, attrsIn_skip hgv])
        rw [hgv] at GV
        clear he hgv hnm
        go_wp2_with fail
        refine (GV.out _).mono ?_
        rintro e w3 ⟨rfl, hb3⟩
        have HB3 := hid (below_new hb3)
        clear hb3
        go_wp2
        go_roundg (gk - 1)
        case measure => omega
        case rel => exact ⟨n + 1, seen, al, by go_num, by omega, by omega, by omega, E, hid (HS.out.same (HB3.out.block _ HS.out.lt)), hid (owns_later HO.out HB3.out), hid (HBX.out.trans (HB3.out.mono HBX.out.size))⟩
      | false =>
        rw [hgv] at GV
        go_wp2_with fail
        refine (GV.out _).mono ?_
        rintro e w3 ⟨rfl, hb3⟩
        have HB3 := hid (below_new hb3)
        have p3 := kept_new hb3
        have d0 : w3.cell? ⟨X.heap.size, 0, none⟩ = some (.int .i64 pk) := by rw [Lib.cell_of_heap p3]; rfl
        have d1 : w3.cell? ⟨X.heap.size, 1, none⟩ = some (.string (text nm)) := by rw [Lib.cell_of_heap p3]; rfl
        have d2 : w3.cell? ⟨X.heap.size, 2, none⟩ = some (.string (text vl)) := by rw [Lib.cell_of_heap p3]; rfl
        have P3 := hid p3
        have HS3 := hid (H.out.later (HBX.out.trans (HB3.out.mono HBX.out.size)))
        clear hb3 p3 c0 c1 c2 ip
        cases hni : nameIn g nm [] with
        | error x =>
          have E := hid (show A = .error (pk, x) by rw [he, attrsIn_name hgv hni]; rfl)
          have hx := nameIn_err hni
          have hx2 : ((x : Int) != 0) = true := by rw [bne_iff_ne]; omega
          rw [hni] at NV
          dsimp only [nmV] at NV
          clear he hgv hni hnm hx
          go_wp2_with fail
          refine (NV.out _ HS3.out).mono ?_
          rintro e w4 ⟨rfl, hb4⟩
          have p4 := (hb4.block _ (lt_of_some P3.out)).trans P3.out
          have HB4 := hid (HBX.out.trans ((bt HB3.out hb4).mono HBX.out.size))
          have p5 : (w4.alloc (.cells #[.string ⟨#[]⟩, .string ⟨#[]⟩] 28)).heap[X.heap.size]? = _ := ((ba (b0 w4) _).block _ (lt_of_some p4)).trans p4
          have e0 : (w4.alloc (.cells #[.string ⟨#[]⟩, .string ⟨#[]⟩] 28)).cell? ⟨X.heap.size, 0, none⟩ = some (.int .i64 pk) := by rw [Lib.cell_of_heap p5]; rfl
          have HB5 := hid (HB4.out.alloc HB4.out.size (.cells #[.string ⟨#[]⟩, .string ⟨#[]⟩] 28))
          clear hb4 p4 p5 d0 d1 d2
          go_wp2_with fail
          go_quiet (fail)
          go_wp2
          go_ret3
          exact ⟨by rw [E.out]; rfl, below_drewN HB5.out _⟩
        | ok q =>
          have hql := nameIn_len HG.out (by simp) hni
          have hq : Sm q := ⟨by omega, by omega⟩
          rw [hni] at NV
          dsimp only [nmV] at NV
          cases hsc : seen.contains q with
          | true =>
            have E := hid (show A = .error (pk, 8) by rw [he, attrsIn_twice hgv hni hsc]; rfl)
            have HSC := hid hsc
            have HQ := hid hq
            clear he hgv hni hnm hql hsc hq
            go_wp2_with fail
            refine (NV.out _ HS3.out).mono ?_
            rintro e w4 ⟨rfl, hb4⟩
            have p4 := (hb4.block _ (lt_of_some P3.out)).trans P3.out
            have HB4 := hid (HBX.out.trans ((bt HB3.out hb4).mono HBX.out.size))
            have B5 := ba (b0 w4) (.cells #[.string (text q.1), .string (text q.2)] 28)
            have p5 : (w4.alloc (.cells #[.string (text q.1), .string (text q.2)] 28)).heap[X.heap.size]? = _ := (B5.block _ (lt_of_some p4)).trans p4
            have e0 : (w4.alloc (.cells #[.string (text q.1), .string (text q.2)] 28)).cell? ⟨X.heap.size, 0, none⟩ = some (.int .i64 pk) := by rw [Lib.cell_of_heap p5]; rfl
            have HB5 := hid (HB4.out.trans (B5.mono HB4.out.size))
            have s4 : SeenN w4 w.heap.size seen := (HS.out.same (HB3.out.block _ HS.out.lt)).same (hb4.block _ (Nat.lt_of_lt_of_le HS.out.lt HB3.out.size))
            have hlk := (s4.same (w' := w4.alloc (.cells #[.string (text q.1), .string (text q.2)] 28)) (B5.block _ s4.lt)).look q HQ.out
            rw [HSC.out] at hlk
            clear hb4 p4 p5 d0 d1 d2 s4 B5
            go_wp2_with fail
            go_quiet (fail)
            go_wp2
            go_ret3
            exact ⟨by rw [E.out]; rfl, below_drewN HB5.out _⟩
          | false =>
            have E := hid (show A = joinT (al ++ [⟨q, vl⟩]) (attrsIn g (q :: seen) (l.drop (n + 1))) by rw [he, attrsIn_ok hgv hni hsc, joinT_join])
            have HSC := hid hsc
            have HQ := hid hq
            have HNM := hid hnm
            clear he hgv hni hnm hql hsc hq
            go_wp2_with fail
            refine (NV.out _ HS3.out).mono ?_
            rintro e w4 ⟨rfl, hb4⟩
            have p4 := (hb4.block _ (lt_of_some P3.out)).trans P3.out
            have HB4 := hid (HBX.out.trans ((bt HB3.out hb4).mono HBX.out.size))
            have B5 := ba (b0 w4) (.cells #[.string (text q.1), .string (text q.2)] 28)
            have p5 : (w4.alloc (.cells #[.string (text q.1), .string (text q.2)] 28)).heap[X.heap.size]? = _ := (B5.block _ (lt_of_some p4)).trans p4
            have e2 : (w4.alloc (.cells #[.string (text q.1), .string (text q.2)] 28)).cell? ⟨X.heap.size, 2, none⟩ = some (.string (text vl)) := by rw [Lib.cell_of_heap p5]; rfl
            have HB5 := hid (HB4.out.trans (B5.mono HB4.out.size))
            have s4 : SeenN w4 w.heap.size seen := (HS.out.same (HB3.out.block _ HS.out.lt)).same (hb4.block _ (Nat.lt_of_lt_of_le HS.out.lt HB3.out.size))
            have s5 := s4.same (w' := w4.alloc (.cells #[.string (text q.1), .string (text q.2)] 28)) (B5.block _ s4.lt)
            have HO5 := hid (owns_later (owns_later (owns_later HO.out HB3.out) hb4) B5)
            have hlk := s5.look q HQ.out
            rw [HSC.out] at hlk
            obtain ⟨es5, c5, HM5⟩ := s5.isMap
            have P5 := hid p5
            have N5 := hid (heap_alloc_new w4 (.cells #[.string (text q.1), .string (text q.2)] 28))
            obtain ⟨D, k, hk, hown, hI, hSm, hD⟩ := s5
            have HII := hid hI
            have HSM := hid hSm
            have HDD := hid hD
            have HKEY := hid (keyOf_name q HQ.out)
            have hxw : X.heap.size ≠ w.heap.size := by have := HS.out.lt; omega
            have h4w : w4.heap.size ≠ w.heap.size := by have := s4.lt; omega
            have hlow : w.heap.size ≤ X.heap.size := HBX.out.size
            have HMM := hid HM5
            clear hb4 p4 p5 d0 d1 d2 s4 B5 hI hSm hD HM5
            go_wp2_with (at_mapUpdate; refine wpList_mapUpdate_own _ rfl _ _ _ 129 rfl 28 4 nm_keyed undNM (plainElem (H := Unit) Tryz.prog 4) _ _ _ rfl hown (by unfold maxLen; omega) _ _ _ rfl rfl HKEY.out (.lit (.bool true)) [] (plainElem_bool underO true) ?_)
            intro w6 hown6 hg6
            have HS6 := hid (seenN_put HII.out HSM.out HDD.out hk q HQ.out hown6)
            have HB6 := hid (HB5.out.grown hg6 HB5.out.size (fun k e => by cases e; exact Nat.le_refl _))
            have p6 := (hg6.block X.heap.size (lt_of_some P5.out) (fun e => by injection e with e; exact hxw e)).trans P5.out
            have n6 := (hg6.block w4.heap.size (by simp) (fun e => by injection e with e; exact h4w e)).trans N5.out
            have i2 : w6.cell? ⟨X.heap.size, 2, none⟩ = some (.string (text vl)) := by rw [Lib.cell_of_heap p6]; rfl
            have j0 : w6.cell? ⟨w4.heap.size, 0, none⟩ = some (.string (text q.1)) := by rw [Lib.cell_of_heap n6]; rfl
            have j1 : w6.cell? ⟨w4.heap.size, 1, none⟩ = some (.string (text q.2)) := by rw [Lib.cell_of_heap n6]; rfl
            have HO6 := hid (World.ownsRow.kept HO5.out hg6 (by
              rcases HO5.out.2 with ⟨rfl, _⟩ | ⟨gg, cap, cur, rfl, _, hh, _⟩
              · exact .inl rfl
              · refine .inr fun e => ?_
                simp [Value.ownBlock] at e
                subst e
                rw [HMM.out] at hh
                cases hh))
            have B7 := ba (b0 w6) (.cells #[.string (text q.1), .string (text q.2), .string (text vl)] 61)
            have HB7 := hid B7
            have HO7 := hid (owns_later HO6.out B7)
            have hrow := Row.ofBuild (sz := 3) w6 #[.string (text q.1), .string (text q.2), .string (text vl)] 61 1 rfl (by omega)
            have HROW := hid hrow
            clear hown hown6 hg6 p6 n6 B7 hrow e2 hlk
            go_wp2_with (at_builtin; refine wpList_append_row rfl _ _ 29 rfl w.heap.size 61 i0 _ 3 48 undAs HI.out hz0 hz1 hz2 rfl (by decide) _ _ _ rfl HO7.out _ _ _ rfl HROW.out ?c0 ?c1 ?c2 ?c3 ?_)
            case c0 => simp [Value.oneCell']
            case c1 => omega
            case c2 => unfold maxLen; omega
            case c3 => have := HB7.out.size; have := HB6.out.size; omega
            intro v' w8 hown8 hg8
            have HO8 := hid (OwnA.snoc (a := ⟨q, vl⟩) hown8)
            have HB8 := hid (grown_below (HB6.out.trans (HB7.out.mono HB6.out.size)) HO7.out (Nat.le_refl _) hg8)
            have HS8 := hid ((HS6.out.same (HB7.out.block _ HS6.out.lt)).same (hg8.block _ (Nat.lt_of_lt_of_le HS6.out.lt HB7.out.size) (fun e => by
              rcases HO7.out.2 with ⟨h7, _⟩ | ⟨gg, cap, cur, h7, _, hh, _⟩
              · rw [h7] at e; cases e
              · rw [h7] at e
                simp [Value.ownBlock] at e
                obtain ⟨es, c, hm⟩ := (HS6.out.same (HB7.out.block _ HS6.out.lt)).isMap
                rw [e, hh] at hm
                cases hm)))
            clear hown8 hg8
            go_wp2
            go_roundg (gk - 1)
            case measure => omega
            case rel => exact ⟨n + 1, q :: seen, al ++ [⟨q, vl⟩], by go_num, by omega, by simp; omega, by simp; omega, E, HS8, HO8, HB8⟩
    · have he := HE.out
      rw [show l.drop n = [] from List.drop_eq_nil_of_le (by omega)] at he
      have E := hid (show A = .ok al by rw [he]; simp [attrsIn, joinT])
      clear he
      go_wp2
      go_ret3
      exact ⟨by rw [E.out]; exact ⟨_, rfl, HO.out⟩, HBX.out⟩
end Go.Proofs.YthodmdfbahkflaaGreatDoor.Tree
namespace Go.Proofs.YthodmdfbahkflaaGreatDoor.Tree
open Go Go.Proofs.YthodmdfbahkflaaGreatDoor Go.Proofs.YthodmdfbahkflaaGreatDoor.Utf Go.Proofs.YthodmdfbahkflaaGreatDoor.Names Go.Proofs.YthodmdfbahkflaaGreatDoor.Ent Go.Proofs.YthodmdfbahkflaaGreatDoor.Tok Go.RowKit
set_option maxRecDepth 100000

/-- An element that is open, with its rows and its map. -/
structure Ev where
  el : El
  av : Value
  kv : Value
  mb : Nat
def ecells (x : Ev) : List Value := [.int .i64 x.el.place, .string (text x.el.nm.1), .string (text x.el.nm.2), x.av, x.kv, .string (text []), .string (text x.el.written), .map (some x.mb)]
/-- The blocks that may still change. -/
def Act (r : Nat) (ov tv : Value) (es : List Ev) (b : Nat) : Prop := b = r ∨ ov.ownBlock = some b ∨ tv.ownBlock = some b ∨ ∃ x ∈ es, x.kv.ownBlock = some b
/-- Children whose row is owned. -/
def KidsO (B : Nat) (w : World) (A : Nat → Prop) (v : Value) (l : List Node) : Prop :=
  ∃ r : List (Node × Value × Value), r.map (·.1) = l ∧ w.ownsRow B 32 6 v r.length (r.flatMap ncells) ∧ ∀ x ∈ r, IsN w A x.1 x.2.1 x.2.2
def bcells (ov tv : Value) (o : Node × Value × Value) (d : Bool) : Array Value := #[ov, tv, .int .i64 o.1.place, .string (text o.1.nm.1), .string (text o.1.nm.2), o.2.1, o.2.2, .string (text o.1.text), .bool d]
structure Bd (W : World) (r : Nat) (s : Bs) (ov tv : Value) (es : List Ev) (tx : List (Tok × Value)) (o : Node × Value × Value) (w : World) : Prop where
  low : W.heap.size ≤ r
  old : Below W.heap.size W w
  cur : w.heap[r]? = some (.cells (bcells ov tv o s.outer.isSome) 48 (0, 0))
  els : es.map Ev.el = s.opn.reverse
  own : w.ownsRow W.heap.size 106 8 ov es.length (es.flatMap ecells)
  txs : tx.map (fun x => (x.1.place, x.1.s)) = s.texts
  txt : w.ownsRow W.heap.size 45 4 tv tx.length (tx.flatMap tokCells)
  kid : ∀ x ∈ es, KidsO W.heap.size w (Up W (Act r ov tv es)) x.kv x.el.kids
  att : ∀ x ∈ es, Atts w (Up W (Act r ov tv es)) x.av x.el.attrs
  spc : ∀ x ∈ es, Spc w x.mb x.el.given
  apart : es.Pairwise (fun x y => ∀ b, x.kv.ownBlock = some b → y.kv.ownBlock ≠ some b)
  out : IsN w (Up W (Act r ov tv es)) o.1 o.2.1 o.2.2
  outer : s.outer.getD noNode = o.1

theorem own_ty {w : World} {B : Nat} {e : TypeId} {sz : Nat} {v : Value} {n : Nat} {xs : List Value} (h : w.ownsRow B e sz v n xs) {b : Nat} (hb : v.ownBlock = some b) : B ≤ b ∧ b < w.heap.size ∧ ∃ cs, w.heap[b]? = some (.cells cs e (0, 0)) := by
  have hl := h.lt b hb
  refine ⟨hl.1, hl.2, ?_⟩
  rcases h.2 with ⟨rfl, _⟩ | ⟨g, cap, cur, rfl, _, hh, _⟩
  · cases hb
  · have e : g = b := by simpa [Value.ownBlock] using hb
    subst e
    exact ⟨cur, hh⟩
theorem own_same {w w' : World} {B : Nat} {e : TypeId} {sz : Nat} {v : Value} {n : Nat} {xs : List Value} (h : w.ownsRow B e sz v n xs) (hb : ∀ b, v.ownBlock = some b → w'.heap[b]? = w.heap[b]?) : w'.ownsRow B e sz v n xs := by
  obtain ⟨h1, h2⟩ := h
  refine ⟨h1, ?_⟩
  rcases h2 with h2 | ⟨g, cap, cur, hv, hg, hh, q⟩
  · exact .inl h2
  · exact .inr ⟨g, cap, cur, hv, hg, by rw [hb g (by rw [hv]; rfl)]; exact hh, q⟩
theorem apart_ty {w : World} {b c : Nat} {cs ds : Array Value} {e f : TypeId} (h1 : w.heap[b]? = some (.cells cs e (0, 0))) (h2 : w.heap[c]? = some (.cells ds f (0, 0))) (hne : e ≠ f) : b ≠ c := by
  intro q
  subst q
  rw [h1] at h2
  injection h2 with h2
  injection h2 with _ h2
  exact hne h2
theorem KidsO.same {B : Nat} {w w' : World} {A A' : Nat → Prop} {v : Value} {l : List Node} (h : KidsO B w A v l) (hv : ∀ b, v.ownBlock = some b → w'.heap[b]? = w.heap[b]?) (hA : ∀ b, b < w.heap.size → A' b → A b) (hk : Keep A w w') : KidsO B w' A' v l := by
  obtain ⟨r, h1, h2, h3⟩ := h
  exact ⟨r, h1, own_same h2 hv, fun x hx => (h3 x hx).to hA hk⟩
theorem set_other (w : World) (r o : Nat) (u : Value) (k : Nat) (hk : k ≠ r) : (w.setCell ⟨r, o, none⟩ u).heap[k]? = w.heap[k]? := Below.heap_setCell w ⟨r, o, none⟩ u k (fun e => hk (by rw [e]))
theorem set_size (w : World) (a : Addr) (u : Value) : (w.setCell a u).heap.size = w.heap.size := by simp [World.setCell]

section
variable {W w w' : World} {r : Nat} {s : Bs} {ov tv : Value} {es : List Ev} {tx : List (Tok × Value)} {o : Node × Value × Value}
theorem Bd.lt (h : Bd W r s ov tv es tx o w) : r < w.heap.size := lt_of_some h.cur
theorem Bd.act (h : Bd W r s ov tv es tx o w) {b : Nat} (hb : Act r ov tv es b) : W.heap.size ≤ b ∧ b < w.heap.size ∧ ∃ cs ty, w.heap[b]? = some (.cells cs ty (0, 0)) := by
  rcases hb with rfl | hb | hb | ⟨x, hx, hb⟩
  · exact ⟨h.low, h.lt, _, _, h.cur⟩
  · obtain ⟨h1, h2, cs, h3⟩ := own_ty h.own hb
    exact ⟨h1, h2, cs, _, h3⟩
  · obtain ⟨h1, h2, cs, h3⟩ := own_ty h.txt hb
    exact ⟨h1, h2, cs, _, h3⟩
  · obtain ⟨q, _, h0, _⟩ := h.kid x hx
    obtain ⟨h1, h2, cs, h3⟩ := own_ty h0 hb
    exact ⟨h1, h2, cs, _, h3⟩
theorem Bd.ov_r (h : Bd W r s ov tv es tx o w) {b : Nat} (hb : ov.ownBlock = some b) : b ≠ r := by
  obtain ⟨_, _, cs, h3⟩ := own_ty h.own hb
  exact apart_ty h3 h.cur (by decide)
theorem Bd.tv_r (h : Bd W r s ov tv es tx o w) {b : Nat} (hb : tv.ownBlock = some b) : b ≠ r := by
  obtain ⟨_, _, cs, h3⟩ := own_ty h.txt hb
  exact apart_ty h3 h.cur (by decide)
theorem Bd.kv_r (h : Bd W r s ov tv es tx o w) {x : Ev} (hx : x ∈ es) {b : Nat} (hb : x.kv.ownBlock = some b) : b ≠ r := by
  obtain ⟨q, _, h0, _⟩ := h.kid x hx
  obtain ⟨_, _, cs, h3⟩ := own_ty h0 hb
  exact apart_ty h3 h.cur (by decide)
theorem Bd.ov_tv (h : Bd W r s ov tv es tx o w) {b c : Nat} (hb : ov.ownBlock = some b) (hc : tv.ownBlock = some c) : b ≠ c := by
  obtain ⟨_, _, cs, h3⟩ := own_ty h.own hb
  obtain ⟨_, _, ds, h4⟩ := own_ty h.txt hc
  exact apart_ty h3 h4 (by decide)
theorem Bd.kv_tv (h : Bd W r s ov tv es tx o w) {x : Ev} (hx : x ∈ es) {b c : Nat} (hb : x.kv.ownBlock = some b) (hc : tv.ownBlock = some c) : b ≠ c := by
  obtain ⟨q, _, h0, _⟩ := h.kid x hx
  obtain ⟨_, _, cs, h3⟩ := own_ty h0 hb
  obtain ⟨_, _, ds, h4⟩ := own_ty h.txt hc
  exact apart_ty h3 h4 (by decide)
theorem Bd.kv_ov (h : Bd W r s ov tv es tx o w) {x : Ev} (hx : x ∈ es) {b c : Nat} (hb : x.kv.ownBlock = some b) (hc : ov.ownBlock = some c) : b ≠ c := by
  obtain ⟨q, _, h0, _⟩ := h.kid x hx
  obtain ⟨_, _, cs, h3⟩ := own_ty h0 hb
  obtain ⟨_, _, ds, h4⟩ := own_ty h.own hc
  exact apart_ty h3 h4 (by decide)
/-- What is not to be changed lies in a later world as it did. -/
theorem Bd.rest (h : Bd W r s ov tv es tx o w) {A' : Nat → Prop} (hk : Keep (Act r ov tv es) w w') (hA : ∀ b, b < w.heap.size → A' b → Act r ov tv es b) :
    (∀ x ∈ es, Atts w' (Up W A') x.av x.el.attrs) ∧ (∀ x ∈ es, Spc w' x.mb x.el.given) ∧ IsN w' (Up W A') o.1 o.2.1 o.2.2 ∧ Below W.heap.size W w' ∧
      ∀ x ∈ es, (∀ b, x.kv.ownBlock = some b → w'.heap[b]? = w.heap[b]?) → KidsO W.heap.size w' (Up W A') x.kv x.el.kids := by
  refine ⟨fun x hx => (h.att x hx).to (Up.sub hA) hk.up, fun x hx => ?_, h.out.to (Up.sub hA) hk.up, Keep.below h.old hk (fun b hb => (h.act hb).1), fun x hx hv => (h.kid x hx).same hv (Up.sub hA) hk.up⟩
  refine (h.spc x hx).same (hk.block _ (h.spc x hx).lt fun hb => ?_)
  obtain ⟨_, _, cs, ty, h1⟩ := h.act hb
  obtain ⟨es', c, h2⟩ := (h.spc x hx).isMap
  rw [h1] at h2
  cases h2
theorem Bd.later (h : Bd W r s ov tv es tx o w) (hb : Below w.heap.size w w') : Bd W r s ov tv es tx o w' := by
  obtain ⟨h1, h2, h3, h4, h5⟩ := h.rest (A' := Act r ov tv es) (Keep.of_below hb) (fun _ _ x => x)
  refine ⟨h.low, h4, (hb.block r h.lt).trans h.cur, h.els, owns_later h.own hb, h.txs, owns_later h.txt hb, fun x hx => h5 x hx (fun b hb' => ?_), h1, h2, h.apart, h3, h.outer⟩
  obtain ⟨q, _, h0, _⟩ := h.kid x hx
  exact hb.block b (own_ty h0 hb').2.1
theorem Bd.drewN (h : Bd W r s ov tv es tx o w) (q : Nat) : Bd W r s ov tv es tx o (w.drewN q) := h.later (below_drewN (b0 w) q)
/-- One text more. -/
theorem Bd.text (h : Bd W r s ov tv es tx o w) {t : Tok} {a : Value} {g cap : Nat} {w1 : World}
    (hown : w1.ownsRow W.heap.size 45 4 (.slice (some ⟨g, 0, none⟩) (tx.length + 1) cap) (tx.length + 1) (tx.flatMap tokCells ++ tokCells (t, a))) (hg : w.grownBy w1 tv.ownBlock) (hgg : tv.ownBlock = some g ∨ g = w.heap.size) :
    Bd W r { s with texts := s.texts ++ [(t.place, t.s)] } ov (.slice (some ⟨g, 0, none⟩) (tx.length + 1) cap) es (tx ++ [(t, a)]) o (w1.setCell ⟨r, 1, none⟩ (.slice (some ⟨g, 0, none⟩) (tx.length + 1) cap)) ∧
      Keep (Act r ov tv es) w (w1.setCell ⟨r, 1, none⟩ (.slice (some ⟨g, 0, none⟩) (tx.length + 1) cap)) := by
  have hlt := h.lt
  have hgr : g ≠ r := by
    rcases hgg with hgg | hgg
    · exact h.tv_r hgg
    · omega
  have hr1 : w1.heap[r]? = w.heap[r]? := hg.block r hlt (fun e => h.tv_r e.symm rfl)
  have hs : ∀ b, b < w.heap.size → b ≠ r → tv.ownBlock ≠ some b → (w1.setCell ⟨r, 1, none⟩ (.slice (some ⟨g, 0, none⟩) (tx.length + 1) cap)).heap[b]? = w.heap[b]? := fun b hb h1 h2 => (set_other w1 r 1 _ b h1).trans (hg.block b hb (fun e => h2 e.symm))
  have hk : Keep (Act r ov tv es) w (w1.setCell ⟨r, 1, none⟩ (.slice (some ⟨g, 0, none⟩) (tx.length + 1) cap)) := ⟨hg.os, hg.tape, hg.output, by rw [set_size]; exact hg.size, fun b hb hA => hs b hb (fun e => hA (.inl e)) (fun e => hA (.inr (.inr (.inl e))))⟩
  obtain ⟨h1, h2, h3, h4, h5⟩ := h.rest (A' := Act r ov (.slice (some ⟨g, 0, none⟩) (tx.length + 1) cap) es) hk (fun b hb hA => by
    rcases hA with hA | hA | hA | hA
    · exact .inl hA
    · exact .inr (.inl hA)
    · have e : g = b := by simpa [Value.ownBlock] using hA
      subst e
      rcases hgg with hgg | hgg
      · exact .inr (.inr (.inl hgg))
      · omega
    · exact .inr (.inr (.inr hA)))
  refine ⟨⟨h.low, h4, ?_, h.els, own_same h.own (fun b hb => hs b (own_ty h.own hb).2.1 (h.ov_r hb) (fun e => h.ov_tv hb e rfl)), by simp [h.txs], ?_, fun x hx => h5 x hx (fun b hb => ?_), h1, h2, h.apart, h3, h.outer⟩, hk⟩
  · simp [World.setCell, Array.getElem?_modify, hr1, h.cur, bcells]
  · have := own_same hown (w' := w1.setCell ⟨r, 1, none⟩ (.slice (some ⟨g, 0, none⟩) (tx.length + 1) cap)) (fun b hb => by
      have e : g = b := by simpa [Value.ownBlock] using hb
      subst e
      exact set_other w1 r 1 _ g hgr)
    simpa using this
  · obtain ⟨q, _, h0, _⟩ := h.kid x hx
    exact hs b (own_ty h0 hb).2.1 (h.kv_r hx hb) (fun e => h.kv_tv hx hb e rfl)
/-- The outermost element has ended. -/
theorem Bd.outermost (h : Bd W r s ov tv es tx o w) {n : Node} {av kv : Value} (hn : IsN w (Up W (Act r ov tv es)) n av kv)
    (hc : w'.heap[r]? = some (.cells (bcells ov tv (n, av, kv) true) 48 (0, 0))) (hg : w.grownBy w' (some r)) : Bd W r { s with outer := some n } ov tv es tx (n, av, kv) w' := by
  have hs : ∀ b, b < w.heap.size → b ≠ r → w'.heap[b]? = w.heap[b]? := fun b hb h1 => hg.block b hb (fun e => by injection e with e; exact h1 e)
  have hk : Keep (Act r ov tv es) w w' := Keep.of_grown hg (fun b e => by injection e with e; exact .inl e.symm)
  obtain ⟨h1, h2, h3, h4, h5⟩ := h.rest (A' := Act r ov tv es) hk (fun _ _ x => x)
  refine ⟨h.low, h4, hc, h.els, own_same h.own (fun b hb => hs b (own_ty h.own hb).2.1 (h.ov_r hb)), h.txs, own_same h.txt (fun b hb => hs b (own_ty h.txt hb).2.1 (h.tv_r hb)), fun x hx => h5 x hx (fun b hb => ?_), h1, h2, h.apart, hn.to (fun _ _ x => x) hk.up, rfl⟩
  obtain ⟨q, _, h0, _⟩ := h.kid x hx
  exact hs b (own_ty h0 hb).2.1 (h.kv_r hx hb)
end
end Go.Proofs.YthodmdfbahkflaaGreatDoor.Tree
namespace Go.Proofs.YthodmdfbahkflaaGreatDoor.Tree
open Go Go.Proofs.YthodmdfbahkflaaGreatDoor Go.Proofs.YthodmdfbahkflaaGreatDoor.Utf Go.Proofs.YthodmdfbahkflaaGreatDoor.Names Go.Proofs.YthodmdfbahkflaaGreatDoor.Ent Go.Proofs.YthodmdfbahkflaaGreatDoor.Tok Go.RowKit
set_option maxRecDepth 100000

theorem undE : Tryz.prog.underlying 46 = some (.slice 106) := Tryz.underlying46
theorem undN : Tryz.prog.underlying 30 = some (.slice 32) := Tryz.underlying30
theorem undT : Tryz.prog.underlying 22 = some (.slice 45) := Tryz.underlying22
theorem sizE (W : World) : (sizeOf 106).run Tryz.prog W = .ok 8 W := Tryz.sizeOf106 W
theorem sizN (W : World) : (sizeOf 32).run Tryz.prog W = .ok 6 W := Tryz.sizeOf32 W
theorem infoN : (Tryz.prog.info? 32).map (fun i => (i.zero, i.size, i.bytes)) = some (some (.agg #[.int .i64 0, .string ⟨#[]⟩, .string ⟨#[]⟩, .slice none 0 0, .slice none 0 0, .string ⟨#[]⟩]), 6, 104) := by kernel_rfl
theorem infoE : (Tryz.prog.info? 106).map (fun i => (i.zero, i.size, i.bytes)) = some (some (.agg #[.int .i64 0, .string ⟨#[]⟩, .string ⟨#[]⟩, .slice none 0 0, .slice none 0 0, .string ⟨#[]⟩, .string ⟨#[]⟩, .map none]), 8, 128) := by kernel_rfl
/-- The length of an owned row. -/
theorem own_len {P : Program} {w : World} {B : Nat} {e : TypeId} {sz : Nat} {v : Value} {n : Nat} {xs : List Value} (h : w.ownsRow B e sz v n xs) (t ty : TypeId) (ht : P.underlying t = some (.slice e)) (X : World) : (Builtin.len_ #[t] ty #[v]).run P X = .ok (.int .i64 n) X := by
  rcases h.2 with ⟨rfl, rfl⟩ | ⟨g, cap, cur, rfl, _⟩ <;> simp [Builtin.len_, run_underlying ht, goInt]
theorem own_at {P : Program} {t e : TypeId} {sz : Nat} (ht : P.underlying t = some (.slice e)) (hs : ∀ W, (sizeOf e).run P W = .ok sz W) (g n cap i : Nat) (hi : i < n) (X : World) : (Instr.indexAt t (.slice (some ⟨g, 0, none⟩) n cap) (.int .i64 i)).run P X = .ok (.pointer (some ⟨g, i * sz, none⟩)) X := by
  simp [Instr.indexAt, asIntOf, run_underlying ht, hs, Addr.add_lit]
  intro hh; omega
/-- The six cells of a node, one behind the other. -/
theorem flat_last {α β : Type} (k : Nat) (f : α → List β) (hf : ∀ x, (f x).length = k) (l : List α) (x : α) (j : Nat) (hj : j < k) : ((l ++ [x]).flatMap f)[l.length * k + j]? = (f x)[j]? := by
  rw [flat_get k f hf _ _ _ hj]
  simp
end Go.Proofs.YthodmdfbahkflaaGreatDoor.Tree
namespace Go.Proofs.YthodmdfbahkflaaGreatDoor.Tree
open Go Go.Proofs.YthodmdfbahkflaaGreatDoor Go.Proofs.YthodmdfbahkflaaGreatDoor.Utf Go.Proofs.YthodmdfbahkflaaGreatDoor.Names Go.Proofs.YthodmdfbahkflaaGreatDoor.Ent Go.Proofs.YthodmdfbahkflaaGreatDoor.Tok Go.RowKit
set_option maxRecDepth 100000
section
variable {W w : World} {r : Nat} {s : Bs} {ov tv : Value} {es : List Ev} {tx : List (Tok × Value)} {o : Node × Value × Value}
set_option maxHeartbeats 4000000
theorem add_outer (h : Bd W r s ov tv es tx o w) (hs : s.opn = []) (n : Node) (av kv : Value) (hn : IsN w (Up W (Act r ov tv es)) n av kv) :
    Calls Tryz.prog 34 #[.pointer (some ⟨r, 0, none⟩), nodeV n av kv] w fun e w' => e = .returned (.tuple #[]) ∧ Bd W r { s with outer := some n } ov tv es tx (n, av, kv) w' ∧ Keep (Act r ov tv es) w w' := by
  have hes : es = [] := by have := h.els; rw [hs] at this; simpa using this
  obtain ⟨ao, an, ac, rfl⟩ : ∃ o n c, av = .slice o n c := by obtain ⟨⟨⟨⟨a, c, h, _⟩, _⟩, _⟩, _⟩ := hn.parts; exact ⟨_, _, _, h⟩
  obtain ⟨ko, kn, kc, rfl⟩ : ∃ o n c, kv = .slice o n c := by obtain ⟨_, q, _, ⟨⟨a, c, h, _⟩, _⟩, _⟩ := hn.parts; exact ⟨_, _, _, h⟩
  have olen := own_len (P := Tryz.prog) h.own 46 3 undE
  rw [hes] at olen
  have hcur := h.cur
  have hlt := h.lt
  have c0 : w.cell? ⟨r, 0, none⟩ = some ov := by rw [Lib.cell_of_heap hcur]; rfl
  have c2 : w.cell? ⟨r, 2, none⟩ = some (.int .i64 o.1.place) := by rw [Lib.cell_of_heap hcur]; rfl
  have c3 : w.cell? ⟨r, 3, none⟩ = some (.string (text o.1.nm.1)) := by rw [Lib.cell_of_heap hcur]; rfl
  have c4 : w.cell? ⟨r, 4, none⟩ = some (.string (text o.1.nm.2)) := by rw [Lib.cell_of_heap hcur]; rfl
  have c5 : w.cell? ⟨r, 5, none⟩ = some o.2.1 := by rw [Lib.cell_of_heap hcur]; rfl
  have c6 : w.cell? ⟨r, 6, none⟩ = some o.2.2 := by rw [Lib.cell_of_heap hcur]; rfl
  have c7 : w.cell? ⟨r, 7, none⟩ = some (.string (text o.1.text)) := by rw [Lib.cell_of_heap hcur]; rfl
  have c8 : w.cell? ⟨r, 8, none⟩ = some (.bool s.outer.isSome) := by rw [Lib.cell_of_heap hcur]; rfl
  have f2 := Lib.frozen_of_heap hcur 2
  have f3 := Lib.frozen_of_heap hcur 3
  have f4 := Lib.frozen_of_heap hcur 4
  have f5 := Lib.frozen_of_heap hcur 5
  have f6 := Lib.frozen_of_heap hcur 6
  have f7 := Lib.frozen_of_heap hcur 7
  have f8 := Lib.frozen_of_heap hcur 8
  have H := hid h
  have HN := hid hn
  have HC := hid hcur
  clear h hn hs hes hcur
  unfold nodeV
  go_enter Tryz.func34, Tryz.ntmps34
  go_wp2
  refine bodyPost_ret (results_none rfl _ _ _) rfl ?_
  refine ⟨rfl, Bd.later (H.out.outermost HN.out ?_ ?_) (ba (b0 _) _), Keep.trans (A' := Act r ov tv es) (Keep.of_grown (o := some r) ?_ (fun b e => .inl (by injection e with e; exact e.symm))) (Keep.of_below (ba (b0 _) _)) (fun _ _ x => x)⟩
  · simp [World.setCell, Array.getElem?_modify, HC.out, bcells]
  all_goals exact Kept.trans (Kept.trans (Kept.trans (Kept.trans (Kept.trans (Kept.trans (Kept.put r 2 _ _) (Kept.put r 3 _ _)) (Kept.put r 4 _ _)) (Kept.put r 5 _ _)) (Kept.put r 6 _ _)) (Kept.put r 7 _ _)) (Kept.put r 8 _ _)
/-- A node within an element: the row, the element's cell. -/
theorem Bd.kidAdd (h : Bd W r s ov tv es tx o w) {es0 : List Ev} {x : Ev} (hes : es = es0 ++ [x]) {n : Node} {av kv kv' : Value} {w' : World} {rr : List (Node × Value × Value)}
    (hr : rr.map (·.1) = x.el.kids) (hx : ∀ y ∈ rr, IsN w (Up W (Act r ov tv es)) y.1 y.2.1 y.2.2) (hn : IsN w (Up W (Act r ov tv es)) n av kv)
    (hk : Keep (Act r ov tv es) w w') (hcur : w'.heap[r]? = w.heap[r]?) (htv : ∀ b, tv.ownBlock = some b → w'.heap[b]? = w.heap[b]?)
    (hkv : ∀ y ∈ es0, ∀ b, y.kv.ownBlock = some b → w'.heap[b]? = w.heap[b]?)
    (hown : w'.ownsRow W.heap.size 106 8 ov es.length ((es0 ++ [{ x with el := { x.el with kids := x.el.kids ++ [n] }, kv := kv' }]).flatMap ecells))
    (hrow : w'.ownsRow W.heap.size 32 6 kv' (rr.length + 1) ((rr ++ [(n, av, kv)]).flatMap ncells))
    (hb : ∀ b, kv'.ownBlock = some b → x.kv.ownBlock = some b ∨ w.heap.size ≤ b) :
    Bd W r (addN s n) ov tv (es0 ++ [{ x with el := { x.el with kids := x.el.kids ++ [n] }, kv := kv' }]) tx o w' ∧ ∀ b, b < w.heap.size → Act r ov tv (es0 ++ [{ x with el := { x.el with kids := x.el.kids ++ [n] }, kv := kv' }]) b → Act r ov tv es b := by
  have hA : ∀ b, b < w.heap.size → Act r ov tv (es0 ++ [{ x with el := { x.el with kids := x.el.kids ++ [n] }, kv := kv' }]) b → Act r ov tv es b := by
    intro b hlt hA
    rcases hA with hA | hA | hA | ⟨y, hy, hA⟩
    · exact .inl hA
    · exact .inr (.inl hA)
    · exact .inr (.inr (.inl hA))
    · rcases List.mem_append.1 hy with hy | hy
      · exact .inr (.inr (.inr ⟨y, by rw [hes]; simp [hy], hA⟩))
      · obtain rfl := by simpa using hy
        rcases hb b hA with h1 | h1
        · exact .inr (.inr (.inr ⟨x, by rw [hes]; simp, h1⟩))
        · omega
  obtain ⟨h1, h2, h3, h4, h5⟩ := h.rest hk hA
  have hopn : s.opn = x.el :: (es0.map Ev.el).reverse := by
    have := h.els
    rw [hes, List.map_append] at this
    have := congrArg List.reverse this
    simpa using this.symm
  have hel : es.length = es0.length + 1 := by rw [hes]; simp
  refine ⟨⟨h.low, h4, ?_, ?_, by simpa [hel] using hown, ?_, own_same h.txt htv, ?_, ?_, ?_, ?_, h3, ?_⟩, hA⟩
  · rw [hcur, h.cur]; simp [addN, hopn]
  · simp [addN, hopn]
  · simp [addN, hopn, h.txs]
  · intro y hy
    rcases List.mem_append.1 hy with hy | hy
    · exact h5 y (by rw [hes]; simp [hy]) (hkv y hy)
    · obtain rfl := by simpa using hy
      refine ⟨rr ++ [(n, av, kv)], by simp [hr], by simpa using hrow, fun z hz => ?_⟩
      rcases List.mem_append.1 hz with hz | hz
      · exact (hx z hz).to (Up.sub hA) hk.up
      · obtain rfl := by simpa using hz
        exact hn.to (Up.sub hA) hk.up
  · intro y hy
    rcases List.mem_append.1 hy with hy | hy
    · exact h1 y (by rw [hes]; simp [hy])
    · obtain rfl := by simpa using hy
      exact h1 x (by rw [hes]; simp)
  · intro y hy
    rcases List.mem_append.1 hy with hy | hy
    · exact h2 y (by rw [hes]; simp [hy])
    · obtain rfl := by simpa using hy
      exact h2 x (by rw [hes]; simp)
  · have hap := h.apart
    rw [hes] at hap
    rw [List.pairwise_append] at hap ⊢
    refine ⟨hap.1, by simp, fun y hy z hz b hyb hzb => ?_⟩
    obtain rfl := by simpa using hz
    have hyes : y ∈ es := by rw [hes]; simp [hy]
    obtain ⟨q, _, h0, _⟩ := h.kid y hyes
    rcases hb b hzb with h6 | h6
    · exact hap.2.2 y hy x (by simp) b hyb h6
    · have := (own_ty h0 hyb).2.1
      omega
  · have := h.outer
    simp [addN, hopn, this]
end
end Go.Proofs.YthodmdfbahkflaaGreatDoor.Tree
namespace Go.Proofs.YthodmdfbahkflaaGreatDoor.Tree
open Go Go.Proofs.YthodmdfbahkflaaGreatDoor Go.Proofs.YthodmdfbahkflaaGreatDoor.Utf Go.Proofs.YthodmdfbahkflaaGreatDoor.Names Go.Proofs.YthodmdfbahkflaaGreatDoor.Ent Go.Proofs.YthodmdfbahkflaaGreatDoor.Tok Go.RowKit
set_option maxRecDepth 100000
theorem tail6 (l : List (Node × Value × Value)) (z : List Value) (j : Nat) : (l.flatMap ncells ++ z)[l.length * 6 + j]? = z[j]? := by
  have hl := flat_len 6 ncells (fun _ => rfl) l
  rw [List.getElem?_append_right (by omega), hl]
  congr 1
  omega
section
variable {W w : World} {r : Nat} {s : Bs} {ov tv : Value} {es : List Ev} {tx : List (Tok × Value)} {o : Node × Value × Value}
def zero6 : List Value := [.int .i64 0, .string ⟨#[]⟩, .string ⟨#[]⟩, .slice none 0 0, .slice none 0 0, .string ⟨#[]⟩]
theorem set_swap (w : World) {b c : Nat} (h : b ≠ c) (i j : Nat) (u v : Value) : (w.setCell ⟨b, i, none⟩ u).setCell ⟨c, j, none⟩ v = (w.setCell ⟨c, j, none⟩ v).setCell ⟨b, i, none⟩ u := by
  unfold World.setCell
  congr 1
  apply Array.ext_getElem?
  intro k
  simp only [Array.getElem?_modify]
  by_cases h1 : c = k
  · by_cases h2 : b = k
    · exact absurd (h2.trans h1.symm) h
    · simp [h1, h2]
  · by_cases h2 : b = k
    · simp [h1, h2]
    · simp [h1, h2]
theorem set_swap6 (w : World) {b c : Nat} (h : b ≠ c) (i j0 j1 j2 j3 j4 j5 : Nat) (u v0 v1 v2 v3 v4 v5 : Value) :
    ((((((w.setCell ⟨b, i, none⟩ u).setCell ⟨c, j0, none⟩ v0).setCell ⟨c, j1, none⟩ v1).setCell ⟨c, j2, none⟩ v2).setCell ⟨c, j3, none⟩ v3).setCell ⟨c, j4, none⟩ v4).setCell ⟨c, j5, none⟩ v5 =
      ((((((w.setCell ⟨c, j0, none⟩ v0).setCell ⟨c, j1, none⟩ v1).setCell ⟨c, j2, none⟩ v2).setCell ⟨c, j3, none⟩ v3).setCell ⟨c, j4, none⟩ v4).setCell ⟨c, j5, none⟩ v5).setCell ⟨b, i, none⟩ u := by
  rw [set_swap w h, set_swap _ h, set_swap _ h, set_swap _ h, set_swap _ h, set_swap _ h]
theorem kid_end {ob oc g cap : Nat} {es0 : List Ev} {x : Ev} {n : Node} {av kv : Value} {w1 : World} {rr : List (Node × Value × Value)} (h : Bd W r s (.slice (some ⟨ob, 0, none⟩) es.length oc) tv es tx o w) (hes : es = es0 ++ [x])
    (hr : rr.map (·.1) = x.el.kids) (hx : ∀ y ∈ rr, IsN w (Up W (Act r (.slice (some ⟨ob, 0, none⟩) es.length oc) tv es)) y.1 y.2.1 y.2.2) (hn : IsN w (Up W (Act r (.slice (some ⟨ob, 0, none⟩) es.length oc) tv es)) n av kv)
    (hs1 : ∀ b, b < w.heap.size → x.kv.ownBlock ≠ some b → w1.heap[b]? = w.heap[b]?) (hos : w1.os = w.os) (htp : w1.tape = w.tape) (hout : w1.output = w.output) (hsz : w.heap.size ≤ w1.heap.size)
    (hown1 : w1.ownsRow W.heap.size 32 6 (.slice (some ⟨g, 0, none⟩) (rr.length + 1) cap) (rr.length + 1) (rr.flatMap ncells ++ zero6)) (hgg : x.kv.ownBlock = some g ∨ w.heap.size ≤ g) :
    Bd W r (addN s n) (.slice (some ⟨ob, 0, none⟩) es.length oc) tv (es0 ++ [{ x with el := { x.el with kids := x.el.kids ++ [n] }, kv := .slice (some ⟨g, 0, none⟩) (rr.length + 1) cap }]) tx o
      (((((((w1.setCell ⟨g, rr.length * 6, none⟩ (.int .i64 n.place)).setCell ⟨g, rr.length * 6 + 1, none⟩ (.string (text n.nm.1))).setCell ⟨g, rr.length * 6 + 2, none⟩ (.string (text n.nm.2))).setCell ⟨g, rr.length * 6 + 3, none⟩ av).setCell ⟨g, rr.length * 6 + 4, none⟩ kv).setCell ⟨g, rr.length * 6 + 5, none⟩ (.string (text n.text))).setCell ⟨ob, es0.length * 8 + 4, none⟩ (.slice (some ⟨g, 0, none⟩) (rr.length + 1) cap)) ∧
    Keep (Act r (.slice (some ⟨ob, 0, none⟩) es.length oc) tv es) w (((((((w1.setCell ⟨g, rr.length * 6, none⟩ (.int .i64 n.place)).setCell ⟨g, rr.length * 6 + 1, none⟩ (.string (text n.nm.1))).setCell ⟨g, rr.length * 6 + 2, none⟩ (.string (text n.nm.2))).setCell ⟨g, rr.length * 6 + 3, none⟩ av).setCell ⟨g, rr.length * 6 + 4, none⟩ kv).setCell ⟨g, rr.length * 6 + 5, none⟩ (.string (text n.text))).setCell ⟨ob, es0.length * 8 + 4, none⟩ (.slice (some ⟨g, 0, none⟩) (rr.length + 1) cap)) ∧
      ∀ b, b < w.heap.size → Act r (.slice (some ⟨ob, 0, none⟩) es.length oc) tv (es0 ++ [{ x with el := { x.el with kids := x.el.kids ++ [n] }, kv := .slice (some ⟨g, 0, none⟩) (rr.length + 1) cap }]) b → Act r (.slice (some ⟨ob, 0, none⟩) es.length oc) tv es b := by
  have hxm : x ∈ es := by rw [hes]; simp
  obtain ⟨hobW, hobl, ocs, hobc⟩ := own_ty h.own (b := ob) rfl
  have hgob : g ≠ ob := by
    rcases hgg with e | e
    · exact h.kv_ov hxm e rfl
    · omega
  -- six stores
  obtain ⟨s1, k1⟩ := hown1.stored (rr.length * 6) (.int .i64 n.place)
  obtain ⟨s2, k2⟩ := s1.stored (rr.length * 6 + 1) (.string (text n.nm.1))
  obtain ⟨s3, k3⟩ := s2.stored (rr.length * 6 + 2) (.string (text n.nm.2))
  obtain ⟨s4, k4⟩ := s3.stored (rr.length * 6 + 3) av
  obtain ⟨s5, k5⟩ := s4.stored (rr.length * 6 + 4) kv
  obtain ⟨s6, k6⟩ := s5.stored (rr.length * 6 + 5) (.string (text n.text))
  have k16 := Kept.trans (Kept.trans (Kept.trans (Kept.trans (Kept.trans k1 k2) k3) k4) k5) k6
  have hfl := flat_len 6 ncells (fun _ => rfl) rr
  have hcells : ((((((rr.flatMap ncells ++ zero6).set (rr.length * 6) (.int .i64 n.place)).set (rr.length * 6 + 1) (.string (text n.nm.1))).set (rr.length * 6 + 2) (.string (text n.nm.2))).set (rr.length * 6 + 3) av).set (rr.length * 6 + 4) kv).set (rr.length * 6 + 5) (.string (text n.text)) = (rr ++ [(n, av, kv)]).flatMap ncells := by
    rw [List.set_append_right _ _ (by omega), List.set_append_right _ _ (by omega), List.set_append_right _ _ (by omega), List.set_append_right _ _ (by omega), List.set_append_right _ _ (by omega), List.set_append_right _ _ (by omega)]
    rw [hfl, Nat.sub_self, Nat.add_sub_cancel_left, Nat.add_sub_cancel_left, Nat.add_sub_cancel_left, Nat.add_sub_cancel_left, Nat.add_sub_cancel_left, List.flatMap_append, List.flatMap_singleton]
    rfl
  rw [hcells] at s6
  generalize hw2 : (((((w1.setCell ⟨g, rr.length * 6, none⟩ (.int .i64 n.place)).setCell ⟨g, rr.length * 6 + 1, none⟩ (.string (text n.nm.1))).setCell ⟨g, rr.length * 6 + 2, none⟩ (.string (text n.nm.2))).setCell ⟨g, rr.length * 6 + 3, none⟩ av).setCell ⟨g, rr.length * 6 + 4, none⟩ kv).setCell ⟨g, rr.length * 6 + 5, none⟩ (.string (text n.text)) = w2 at *
  have hne : ∀ b, b < w.heap.size → x.kv.ownBlock ≠ some b → b ≠ g := by
    intro b hb h1 e
    subst e
    rcases hgg with h2 | h2
    · exact h1 h2
    · omega
  have hs2 : ∀ b, b < w.heap.size → x.kv.ownBlock ≠ some b → w2.heap[b]? = w.heap[b]? := fun b hb h1 => (k16.block b (by omega) (fun e => by injection e with e; exact hne b hb h1 e)).trans (hs1 b hb h1)
  have hob2 : w2.heap[ob]? = w.heap[ob]? := hs2 ob hobl (fun e => h.kv_ov hxm e rfl rfl)
  have hown2 : w2.ownsRow W.heap.size 106 8 (.slice (some ⟨ob, 0, none⟩) es.length oc) es.length (es.flatMap ecells) := own_same h.own (fun b hb => by
    have e : ob = b := by simpa [Value.ownBlock] using hb
    subst e
    exact hob2)
  obtain ⟨t1, j1⟩ := hown2.stored (es0.length * 8 + 4) (.slice (some ⟨g, 0, none⟩) (rr.length + 1) cap)
  have hel : es0.flatMap ecells = es0.flatMap ecells := rfl
  have hefl := flat_len 8 ecells (fun _ => rfl) es0
  have hecells : (es.flatMap ecells).set (es0.length * 8 + 4) (.slice (some ⟨g, 0, none⟩) (rr.length + 1) cap) = (es0 ++ [{ x with el := { x.el with kids := x.el.kids ++ [n] }, kv := .slice (some ⟨g, 0, none⟩) (rr.length + 1) cap }]).flatMap ecells := by
    rw [hes, List.flatMap_append, List.flatMap_append, List.flatMap_singleton, List.flatMap_singleton, List.set_append_right _ _ (by omega), hefl, Nat.add_sub_cancel_left]
    rfl
  rw [hecells] at t1
  have hs3 : ∀ b, b < w.heap.size → b ≠ ob → x.kv.ownBlock ≠ some b → (w2.setCell ⟨ob, es0.length * 8 + 4, none⟩ (.slice (some ⟨g, 0, none⟩) (rr.length + 1) cap)).heap[b]? = w.heap[b]? := fun b hb h1 h2 => (set_other w2 ob _ _ b h1).trans (hs2 b hb h2)
  have hkeep : Keep (Act r (.slice (some ⟨ob, 0, none⟩) es.length oc) tv es) w (w2.setCell ⟨ob, es0.length * 8 + 4, none⟩ (.slice (some ⟨g, 0, none⟩) (rr.length + 1) cap)) := by
    refine ⟨?_, ?_, ?_, ?_, ?_⟩
    · exact (j1.os.trans k16.os).trans hos
    · exact (j1.tape.trans k16.tape).trans htp
    · exact (j1.output.trans k16.output).trans hout
    · exact Nat.le_trans hsz (Nat.le_trans k16.size j1.size)
    · intro b hb hA
      exact hs3 b hb (fun e => hA (.inr (.inl (by rw [e]; rfl)))) (fun e => hA (.inr (.inr (.inr ⟨x, hxm, e⟩))))
  refine (fun hh => ⟨hh.1, hkeep, hh.2⟩) (h.kidAdd hes hr hx hn hkeep ?_ ?_ ?_ t1 ?_ ?_)
  · exact hs3 r h.lt (fun e => h.ov_r (b := ob) rfl e.symm) (fun e => h.kv_r hxm e rfl)
  · exact fun b hb => hs3 b (own_ty h.txt hb).2.1 (fun e => h.ov_tv (b := ob) rfl hb e.symm) (fun e => h.kv_tv hxm e hb rfl)
  · intro y hy b hb
    have hyes : y ∈ es := by rw [hes]; simp [hy]
    obtain ⟨q, _, h0, _⟩ := h.kid y hyes
    have hap := h.apart
    rw [hes, List.pairwise_append] at hap
    exact hs3 b (own_ty h0 hb).2.1 (fun e => h.kv_ov hyes hb rfl e) (hap.2.2 y hy x (by simp) b hb)
  · refine own_same s6 (fun b hb => set_other w2 ob _ _ b ?_)
    have e : g = b := by simpa [Value.ownBlock] using hb
    subst e
    exact hgob
  · intro b hb
    have e : g = b := by simpa [Value.ownBlock] using hb
    subst e
    exact hgg
end
end Go.Proofs.YthodmdfbahkflaaGreatDoor.Tree
namespace Go.Proofs.YthodmdfbahkflaaGreatDoor.Tree
open Go Go.Proofs.YthodmdfbahkflaaGreatDoor Go.Proofs.YthodmdfbahkflaaGreatDoor.Utf Go.Proofs.YthodmdfbahkflaaGreatDoor.Names Go.Proofs.YthodmdfbahkflaaGreatDoor.Ent Go.Proofs.YthodmdfbahkflaaGreatDoor.Tok Go.RowKit
set_option maxRecDepth 100000
section
variable {W w : World} {r : Nat} {s : Bs} {ov tv : Value} {es : List Ev} {tx : List (Tok × Value)} {o : Node × Value × Value}
set_option maxHeartbeats 4000000
theorem add_inner (h : Bd W r s ov tv es tx o w) {es0 : List Ev} {x : Ev} (hes : es = es0 ++ [x]) (n : Node) (av kv : Value) (hn : IsN w (Up W (Act r ov tv es)) n av kv) (hm : es.length ≤ 1000000) (hk : x.el.kids.length ≤ 1000000000) :
    Calls Tryz.prog 34 #[.pointer (some ⟨r, 0, none⟩), nodeV n av kv] w fun e w' => e = .returned (.tuple #[]) ∧
      (∃ kv', Bd W r (addN s n) ov tv (es0 ++ [{ x with el := { x.el with kids := x.el.kids ++ [n] }, kv := kv' }]) tx o w' ∧ ∀ b, b < w.heap.size → Act r ov tv (es0 ++ [{ x with el := { x.el with kids := x.el.kids ++ [n] }, kv := kv' }]) b → Act r ov tv es b) ∧ Keep (Act r ov tv es) w w' := by
  obtain ⟨ao, an, ac, rfl⟩ : ∃ o n c, av = .slice o n c := by obtain ⟨⟨⟨⟨a, c, h, _⟩, _⟩, _⟩, _⟩ := hn.parts; exact ⟨_, _, _, h⟩
  obtain ⟨ko, kn, kc, rfl⟩ : ∃ o n c, kv = .slice o n c := by obtain ⟨_, q, _, ⟨⟨a, c, h, _⟩, _⟩, _⟩ := hn.parts; exact ⟨_, _, _, h⟩
  obtain ⟨i0, hi0, hz0, hz1, hz2⟩ := info_parts infoN
  have hel : es.length = es0.length + 1 := by rw [hes]; simp
  obtain ⟨ob, oc, rfl, hob, hobl⟩ := h.own.form (by omega)
  have hxm : x ∈ es := by rw [hes]; simp
  obtain ⟨rr, hr, hro, hrx⟩ := h.kid x hxm
  have hrl : rr.length = x.el.kids.length := by rw [← hr]; simp
  have hown := h.own
  have olen := own_len (P := Tryz.prog) hown 46 3 undE
  have klen := own_len (P := Tryz.prog) hro 30 3 undN
  have hkk : rr.length ≤ 1000000000 := by omega
  have HRL := hid hrl
  have hk1 : (rr.length : Int) < (rr.length : Int) + 1 := by omega
  have hsub : wrap64 ((es.length : Int) - 1) = (es0.length : Int) := by rw [IntWalk.wrap64_in _ ⟨by omega, by omega⟩]; omega
  have oat := fun X => own_at (P := Tryz.prog) undE sizE ob es.length oc es0.length (by omega) X
  have hcur := h.cur
  have hlt := h.lt
  have c0 : w.cell? ⟨r, 0, none⟩ = some (.slice (some ⟨ob, 0, none⟩) es.length oc) := by rw [Lib.cell_of_heap hcur]; rfl
  have hcell : w.cell? ⟨ob, es0.length * 8 + 4, none⟩ = some x.kv := by
    rw [hown.cellAt _ (by omega), hes, flat_last 8 ecells (fun _ => rfl) es0 x 4 (by omega)]
    rfl
  have hfroz : w.frozen? ⟨ob, es0.length * 8 + 4, none⟩ = false := hown.frozenAt _
  have B1 := ba (b0 w) (.cells #[.int .i64 n.place, .string (text n.nm.1), .string (text n.nm.2), .slice ao an ac, .slice ko kn kc, .string (text n.text)] 32)
  have B2 := ba B1 (.cells #[.int .i64 0, .string ⟨#[]⟩, .string ⟨#[]⟩, .slice none 0 0, .slice none 0 0, .string ⟨#[]⟩] 32)
  have HO := hid (owns_later hro B2)
  have hone : ∀ u ∈ zero6, u.oneCell' = true := by simp [zero6, Value.oneCell']
  have hobr : ob ≠ r := h.ov_r rfl
  have HKO : Hid (∀ b, x.kv.ownBlock = some b → b ≠ ob ∧ b ≠ r ∧ b < w.heap.size) := hid fun b hb => ⟨h.kv_ov hxm hb rfl, h.kv_r hxm hb, (own_ty hro hb).2.1⟩
  have H := hid h
  have HN := hid hn
  have HR := hid hr
  have HRX := hid hrx
  have HRO := hid hro
  have HI := hid hi0
  have HES := hid hes
  have HB2 := hid B2
  have HOW := hid hown
  clear h hn hes hcur hro hrx hr B1 B2 hown hi0 hrl hk
  unfold nodeV
  go_enter Tryz.func34, Tryz.ntmps34
  go_wp2_with fail
  go_quiet (fail)
  go_wp2_with fail
  go_region_law (
    refine step_append_lies _ rfl (.tmp 33) (.tmp 36) 30 rfl W.heap.size 32 i0 _ 6 104 undN HI.out hz0 hz1 hz2 rfl (by decide) x.kv rr.length (rr.flatMap ncells) (by simp [Act.eval, Act.put]) HO.out ⟨w.heap.size + 1, 0, none⟩ 1 1 zero6 (by simp [Act.eval, Act.put]) rfl ?c1 hone (by decide) ?c2 ?c3 ?c4 _ rfl ?_
    case c1 => exact new_cells _ _ _ _ (by simp)
    case c2 => unfold maxLen; omega
    case c3 => omega
    case c4 => have := HB2.out.size; have := H.out.old.size; simp at *; omega
    intro g cap w1 hown1 hg1 hgg hgl
    have hgob : g ≠ ob := by
      rcases hgg with e | e
      · exact (HKO.out g e).1
      · simp at e; omega
    have hobg : ob ≠ g := fun e => hgob e.symm
    have hbob : w1.heap[ob]? = w.heap[ob]? := (hg1.block ob (by simp; omega) (fun e => (HKO.out ob e.symm).1 rfl)).trans (HB2.out.block ob hobl)
    have b4 : w1.cell? ⟨ob, es0.length * 8 + 4, none⟩ = some x.kv := (World.cell?_of_block (a := ⟨ob, es0.length * 8 + 4, none⟩) hbob).trans hcell
    have q4 : w1.frozen? ⟨ob, es0.length * 8 + 4, none⟩ = false := (World.frozen?_of_block (a := ⟨ob, es0.length * 8 + 4, none⟩) hbob).trans hfroz
    have d0 : w1.cell? ⟨g, rr.length * 6, none⟩ = some (.int .i64 0) := (hown1.cellAt _ (by omega)).trans (tail6 rr zero6 0)
    have d1 : w1.cell? ⟨g, rr.length * 6 + 1, none⟩ = some (.string ⟨#[]⟩) := (hown1.cellAt _ (by omega)).trans (tail6 rr zero6 1)
    have d2 : w1.cell? ⟨g, rr.length * 6 + 2, none⟩ = some (.string ⟨#[]⟩) := (hown1.cellAt _ (by omega)).trans (tail6 rr zero6 2)
    have d3 : w1.cell? ⟨g, rr.length * 6 + 3, none⟩ = some (.slice none 0 0) := (hown1.cellAt _ (by omega)).trans (tail6 rr zero6 3)
    have d4 : w1.cell? ⟨g, rr.length * 6 + 4, none⟩ = some (.slice none 0 0) := (hown1.cellAt _ (by omega)).trans (tail6 rr zero6 4)
    have d5 : w1.cell? ⟨g, rr.length * 6 + 5, none⟩ = some (.string ⟨#[]⟩) := (hown1.cellAt _ (by omega)).trans (tail6 rr zero6 5)
    have e0 := hown1.frozenAt (rr.length * 6)
    have e1 := hown1.frozenAt (rr.length * 6 + 1)
    have e2 := hown1.frozenAt (rr.length * 6 + 2)
    have e3 := hown1.frozenAt (rr.length * 6 + 3)
    have e4 := hown1.frozenAt (rr.length * 6 + 4)
    have e5 := hown1.frozenAt (rr.length * 6 + 5)
    have hgr : ((w.alloc (.cells #[.int .i64 n.place, .string (text n.nm.1), .string (text n.nm.2), .slice ao an ac, .slice ko kn kc, .string (text n.text)] 32)).alloc (.cells #[.int .i64 0, .string ⟨#[]⟩, .string ⟨#[]⟩, .slice none 0 0, .slice none 0 0, .string ⟨#[]⟩] 32)).grownBy w1 x.kv.ownBlock := ⟨hg1.os, hg1.tape, hg1.output, hg1.size, hg1.block⟩
    have HK := hid (kid_end (av := .slice ao an ac) (kv := .slice ko kn kc) H.out HES.out HR.out HRX.out HN.out (fun b hb hne => (hg1.block b (by simp; omega) (fun e => hne e.symm)).trans (HB2.out.block b hb)) (hgr.os.trans HB2.out.os) (hgr.tape.trans HB2.out.tape) (hgr.output.trans HB2.out.output) (Nat.le_trans HB2.out.size hgr.size) hown1 (hgg.elim .inl (fun e => .inr (by simp at e; omega))))
    clear hown1 hg1 hgg hgr)
  all_goals go_end0
  all_goals refine ⟨rfl, ⟨.slice (some ⟨g, 0, none⟩) (rr.length + 1) cap, ?_⟩, ?_⟩
  all_goals first | (rw [set_swap6 w1 hobg]; first | exact ⟨HK.out.1, HK.out.2.2⟩ | exact HK.out.2.1) | exact ⟨HK.out.1, HK.out.2.2⟩ | exact HK.out.2.1
end
end Go.Proofs.YthodmdfbahkflaaGreatDoor.Tree
namespace Go.Proofs.YthodmdfbahkflaaGreatDoor.Tree
open Go Go.Proofs.YthodmdfbahkflaaGreatDoor Go.Proofs.YthodmdfbahkflaaGreatDoor.Utf Go.Proofs.YthodmdfbahkflaaGreatDoor.Names Go.Proofs.YthodmdfbahkflaaGreatDoor.Ent Go.Proofs.YthodmdfbahkflaaGreatDoor.Tok Go.RowKit
set_option maxRecDepth 100000
section
variable {W w : World} {r : Nat} {s : Bs} {ov tv : Value} {es : List Ev} {tx : List (Tok × Value)} {o : Node × Value × Value}
theorem Bd.opn_nil (h : Bd W r s ov tv es tx o w) (he : es = []) : s.opn = [] := by
  have := h.els; rw [he] at this
  have := congrArg List.reverse this
  simpa using this.symm
theorem Bd.opn_last (h : Bd W r s ov tv es tx o w) {es0 : List Ev} {x : Ev} (hes : es = es0 ++ [x]) : s.opn = x.el :: (es0.map Ev.el).reverse := by
  have := h.els
  rw [hes, List.map_append] at this
  have := congrArg List.reverse this
  simpa using this.symm
theorem snoc_cases {α : Type} (l : List α) : l = [] ∨ ∃ a x, l = a ++ [x] := by
  rcases List.eq_nil_or_concat l with h | ⟨a, x, h⟩
  · exact .inl h
  · exact .inr ⟨a, x, by rw [h, List.concat_eq_append]⟩
set_option maxHeartbeats 4000000
theorem given_any (h : Bd W r s ov tv es tx o w) (hm : es.length ≤ 1000000) :
    Calls Tryz.prog 36 #[.pointer (some ⟨r, 0, none⟩)] w fun e w' => (∃ b, e = .returned (.map (some b)) ∧ Spc w' b s.given) ∧ Below w.heap.size w w' := by
  have hcur := h.cur
  have olen := own_len (P := Tryz.prog) h.own 46 3 undE
  have c0 : w.cell? ⟨r, 0, none⟩ = some ov := by rw [Lib.cell_of_heap hcur]; rfl
  rcases snoc_cases es with hes | ⟨es0, x, hes⟩
  · have hg : s.given = atFirst := by unfold Bs.given; rw [h.opn_nil hes]
    rw [hg]
    have hz : es.length = 0 := by rw [hes]; rfl
    simp only [hz] at olen
    have AF := hid (fun w => atFirst_any w)
    clear h hes hz hg hcur
    go_enter Tryz.func36, Tryz.ntmps36
    go_wp2_with fail
    refine (AF.out _).mono ?_
    rintro e w1 ⟨⟨b, rfl, hs, _⟩, hb⟩
    have HS := hid hs
    have HB := hid hb
    clear hs hb
    go_wp2
    go_ret
    exact ⟨⟨b, rfl, HS.out⟩, HB.out⟩
  · have hg : s.given = x.el.given := by unfold Bs.given; rw [h.opn_last hes]
    rw [hg]
    have hel : es.length = es0.length + 1 := by rw [hes]; simp
    obtain ⟨ob, oc, rfl, hob, hobl⟩ := h.own.form (by omega)
    have hown := h.own
    have hsub : wrap64 ((es.length : Int) - 1) = (es0.length : Int) := by rw [IntWalk.wrap64_in _ ⟨by omega, by omega⟩]; omega
    have oat := fun X => own_at (P := Tryz.prog) undE sizE ob es.length oc es0.length (by omega) X
    have hcell : w.cell? ⟨ob, es0.length * 8 + 7, none⟩ = some (.map (some x.mb)) := by
      rw [hown.cellAt _ (by omega), hes, flat_last 8 ecells (fun _ => rfl) es0 x 7 (by omega)]
      rfl
    have HS := hid (h.spc x (by rw [hes]; simp))
    clear h hes hcur hown hg
    go_enter Tryz.func36, Tryz.ntmps36
    go_wp2_with fail
    go_quiet (fail)
    go_wp2
    go_ret
    exact ⟨⟨x.mb, rfl, HS.out.later (below_drewN (b0 w) _)⟩, below_drewN (b0 w) _⟩
end
end Go.Proofs.YthodmdfbahkflaaGreatDoor.Tree
namespace Go.Proofs.YthodmdfbahkflaaGreatDoor.Tree
open Go Go.Proofs.YthodmdfbahkflaaGreatDoor Go.Proofs.YthodmdfbahkflaaGreatDoor.Utf Go.Proofs.YthodmdfbahkflaaGreatDoor.Names Go.Proofs.YthodmdfbahkflaaGreatDoor.Ent Go.Proofs.YthodmdfbahkflaaGreatDoor.Tok Go.RowKit
set_option maxRecDepth 100000
section
variable {W w : World} {r : Nat} {s : Bs} {ov tv : Value} {es : List Ev} {tx : List (Tok × Value)} {o : Node × Value × Value}
/-- A token's value. -/
def tokV (t : Tok) (a : Value) : Value := .agg #[.int .i64 t.kind, .int .i64 t.place, .string (text t.s), a]
set_option maxHeartbeats 4000000
theorem text_in (h : Bd W r s ov tv es tx o w) (hne : es ≠ []) (t : Tok) (ao : Option Addr) (an ac : Nat) (hn : tx.length ≤ 1000000000) (hm : es.length ≤ 1000000) :
    Calls Tryz.prog 19 #[.pointer (some ⟨r, 0, none⟩), tokV t (.slice ao an ac)] w fun e w' => e = .returned (.int .i64 0) ∧
      (∃ tv', Bd W r { s with texts := s.texts ++ [(t.place, t.s)] } ov tv' es (tx ++ [(t, .slice ao an ac)]) o w') ∧ Keep (Act r ov tv es) w w' := by
  obtain ⟨i0, hi0, hz0, hz1, hz2⟩ := info_parts infoT
  have hcur := h.cur
  have olen := own_len (P := Tryz.prog) h.own 46 3 undE
  have hpos : 0 < es.length := List.length_pos_iff.2 hne
  have hlt := h.lt
  have c0 : w.cell? ⟨r, 0, none⟩ = some ov := by rw [Lib.cell_of_heap hcur]; rfl
  have c1 : w.cell? ⟨r, 1, none⟩ = some tv := by rw [Lib.cell_of_heap hcur]; rfl
  have f1 := Lib.frozen_of_heap hcur 1
  have hone := tokCells_one t (.slice ao an ac) rfl
  have ht : tokCells (t, .slice ao an ac) = [.int .i64 t.kind, .int .i64 t.place, .string (text t.s), .slice ao an ac] := rfl
  rw [ht] at hone
  have B1 := ba (b0 w) (.cells #[.int .i64 t.kind, .int .i64 t.place, .string (text t.s), .slice ao an ac] 45)
  have B2 := ba B1 (.cells #[.int .i64 t.kind, .int .i64 t.place, .string (text t.s), .slice ao an ac] 45)
  have h2 := h.later B2
  have HO := hid h2.txt
  have HTR : Hid (∀ b, tv.ownBlock = some b → b ≠ r) := hid fun b hb => h.tv_r hb
  have H := hid h
  have H2 := hid h2
  have HI := hid hi0
  have HB2 := hid B2
  clear h h2 hcur hi0 B1 B2 ht hne
  unfold tokV
  go_enter Tryz.func19, Tryz.ntmps19
  go_wp2_with fail
  go_region_law (
    refine step_append_lies _ rfl (.tmp 15) (.tmp 17) 22 rfl W.heap.size 45 i0 _ 4 56 undT HI.out hz0 hz1 hz2 rfl (by decide) tv tx.length (tx.flatMap tokCells) (by simp [Act.eval, Act.put]) HO.out ⟨w.heap.size + 1, 0, none⟩ 1 1 [.int .i64 t.kind, .int .i64 t.place, .string (text t.s), .slice ao an ac] (by simp [Act.eval, Act.put]) rfl ?c1 hone (by decide) ?c2 ?c3 ?c4 _ rfl ?_
    case c1 => exact new_cells _ _ _ _ (by simp)
    case c2 => unfold maxLen; omega
    case c3 => omega
    case c4 => have := HB2.out.size; have := H.out.old.size; simp at *; omega
    intro g cap w1 hown1 hg1 hgg hgl
    have hgr : ((w.alloc (.cells #[.int .i64 t.kind, .int .i64 t.place, .string (text t.s), .slice ao an ac] 45)).alloc (.cells #[.int .i64 t.kind, .int .i64 t.place, .string (text t.s), .slice ao an ac] 45)).grownBy w1 tv.ownBlock := ⟨hg1.os, hg1.tape, hg1.output, hg1.size, hg1.block⟩
    have HK := hid (H2.out.text (t := t) (a := .slice ao an ac) hown1 hgr (hgg.elim .inl (fun e => .inr e)))
    have hrr : w1.heap[r]? = w.heap[r]? := (hgr.block r (by simp; omega) (fun e => HTR.out r e.symm rfl)).trans (HB2.out.block r hlt)
    have b1 : w1.cell? ⟨r, 1, none⟩ = some tv := (World.cell?_of_block (a := ⟨r, 1, none⟩) hrr).trans c1
    have q1 : w1.frozen? ⟨r, 1, none⟩ = false := (World.frozen?_of_block (a := ⟨r, 1, none⟩) hrr).trans f1
    clear hown1 hg1 hgg hgr hrr)
  all_goals go_wp2
  all_goals go_ret
  all_goals exact ⟨rfl, ⟨_, HK.out.1⟩, (Keep.of_below HB2.out).trans HK.out.2 (fun _ _ x => x)⟩
end
end Go.Proofs.YthodmdfbahkflaaGreatDoor.Tree
namespace Go.Proofs.YthodmdfbahkflaaGreatDoor.Tree
open Go Go.Proofs.YthodmdfbahkflaaGreatDoor Go.Proofs.YthodmdfbahkflaaGreatDoor.Utf Go.Proofs.YthodmdfbahkflaaGreatDoor.Names Go.Proofs.YthodmdfbahkflaaGreatDoor.Ent Go.Proofs.YthodmdfbahkflaaGreatDoor.Tok Go.RowKit
set_option maxRecDepth 100000

theorem cut_run {P : Program} {t e : TypeId} {sz : Nat} (ht : P.underlying t = some (.slice e)) (hs : ∀ W, (sizeOf e).run P W = .ok sz W) (g n cap k : Nat) (hk : k ≤ cap) (hc : 0 < cap) (X : World) :
    (Instr.slice t (.slice (some ⟨g, 0, none⟩) n cap) none (some (.int .i64 k)) none).run P X = .ok (.slice (some ⟨g, 0, none⟩) k cap) X := by
  have h1 : (k : Int) ≤ (cap : Int) := by omega
  have h2 : cap ≠ 0 := by omega
  simp [Instr.slice, run_underlying ht, Instr.sliceBounds, run_sliceBound, sliced, hs, h1, h2, Addr.add_lit]
theorem own_cut {w : World} {B : Nat} {e : TypeId} {sz g n cap k : Nat} {xs : List Value} (h : w.ownsRow B e sz (.slice (some ⟨g, 0, none⟩) n cap) n xs) (hk : k ≤ n) :
    w.ownsRow B e sz (.slice (some ⟨g, 0, none⟩) k cap) k (xs.take (k * sz)) := by
  obtain ⟨h1, h2⟩ := h
  have hle : k * sz ≤ n * sz := Nat.mul_le_mul_right _ hk
  rcases h2 with ⟨h2, _⟩ | ⟨g', cap', cur, hv, hb, hg, hn, hm, hsz, ht⟩
  · cases h2
  · injection hv with a1 a2 a3
    injection a1 with a1
    injection a1 with a1
    subst a1 a3
    refine ⟨by rw [List.length_take, h1]; omega, .inr ⟨g, cap, cur, rfl, hb, hg, by omega, hm, hsz, ?_⟩⟩
    rw [← ht, List.take_take, Nat.min_eq_left hle]
section
variable {W w : World} {r : Nat} {s : Bs} {ov tv : Value} {es : List Ev} {tx : List (Tok × Value)} {o : Node × Value × Value}
/-- The texts are taken. -/
theorem Bd.cutTexts {g n cap : Nat} (h : Bd W r s ov (.slice (some ⟨g, 0, none⟩) n cap) es tx o w) (hn : n = tx.length) :
    Bd W r { s with texts := [] } ov (.slice (some ⟨g, 0, none⟩) 0 cap) es [] o (w.setCell ⟨r, 1, none⟩ (.slice (some ⟨g, 0, none⟩) 0 cap)) := by
  subst hn
  have hlt := h.lt
  have hgr : g ≠ r := h.tv_r rfl
  have hs : ∀ b, b ≠ r → (w.setCell ⟨r, 1, none⟩ (.slice (some ⟨g, 0, none⟩) 0 cap)).heap[b]? = w.heap[b]? := fun b h1 => set_other w r 1 _ b h1
  have hk : Keep (Act r ov (.slice (some ⟨g, 0, none⟩) tx.length cap) es) w (w.setCell ⟨r, 1, none⟩ (.slice (some ⟨g, 0, none⟩) 0 cap)) := ⟨rfl, rfl, rfl, by rw [set_size]; exact Nat.le_refl _, fun b hb hA => hs b (fun e => hA (.inl e))⟩
  obtain ⟨h1, h2, h3, h4, h5⟩ := h.rest (A' := Act r ov (.slice (some ⟨g, 0, none⟩) 0 cap) es) hk (fun b hb hA => hA)
  refine ⟨h.low, h4, ?_, h.els, own_same h.own (fun b hb => hs b (h.ov_r hb)), rfl, ?_, fun x hx => h5 x hx (fun b hb => hs b (h.kv_r hx hb)), h1, h2, h.apart, h3, h.outer⟩
  · simp [World.setCell, Array.getElem?_modify, h.cur, bcells]
  · have := own_cut h.txt (Nat.zero_le _)
    rw [Nat.zero_mul, List.take_zero] at this
    exact own_same this (fun b hb => by
      have e : g = b := by simpa [Value.ownBlock] using hb
      subst e
      exact hs g hgr)
/-- The innermost element is taken. -/
theorem Bd.pop {ob n oc : Nat} {es0 : List Ev} {x : Ev} (h : Bd W r s (.slice (some ⟨ob, 0, none⟩) n oc) tv es tx o w) (hn : n = es.length) (hes : es = es0 ++ [x]) (hl : x.el.kids.length ≤ 281474976710656) :
    Bd W r { s with opn := (es0.map Ev.el).reverse } (.slice (some ⟨ob, 0, none⟩) es0.length oc) tv es0 tx o (w.setCell ⟨r, 0, none⟩ (.slice (some ⟨ob, 0, none⟩) es0.length oc)) ∧
      IsN (w.setCell ⟨r, 0, none⟩ (.slice (some ⟨ob, 0, none⟩) es0.length oc)) (Up W (Act r (.slice (some ⟨ob, 0, none⟩) es0.length oc) tv es0)) x.el.node x.av x.kv := by
  subst hn
  have hlt := h.lt
  have hxm : x ∈ es := by rw [hes]; simp
  have hor : ob ≠ r := h.ov_r rfl
  have hel : es.length = es0.length + 1 := by rw [hes]; simp
  have hs : ∀ b, b ≠ r → (w.setCell ⟨r, 0, none⟩ (.slice (some ⟨ob, 0, none⟩) es0.length oc)).heap[b]? = w.heap[b]? := fun b h1 => set_other w r 0 _ b h1
  have hk : Keep (Act r (.slice (some ⟨ob, 0, none⟩) es.length oc) tv es) w (w.setCell ⟨r, 0, none⟩ (.slice (some ⟨ob, 0, none⟩) es0.length oc)) := ⟨rfl, rfl, rfl, by rw [set_size]; exact Nat.le_refl _, fun b hb hA => hs b (fun e => hA (.inl e))⟩
  have hA : ∀ b, b < w.heap.size → Act r (.slice (some ⟨ob, 0, none⟩) es0.length oc) tv es0 b → Act r (.slice (some ⟨ob, 0, none⟩) es.length oc) tv es b := by
    intro b _ hb
    rcases hb with hb | hb | hb | ⟨y, hy, hb⟩
    · exact .inl hb
    · exact .inr (.inl hb)
    · exact .inr (.inr (.inl hb))
    · exact .inr (.inr (.inr ⟨y, by rw [hes]; simp [hy], hb⟩))
  obtain ⟨h1, h2, h3, h4, h5⟩ := h.rest hk hA
  have hap := h.apart
  rw [hes, List.pairwise_append] at hap
  have hm : ∀ y ∈ es0, y ∈ es := fun y hy => by rw [hes]; simp [hy]
  refine ⟨⟨h.low, h4, ?_, ?_, ?_, h.txs, own_same h.txt (fun b hb => hs b (h.tv_r hb)), fun y hy => h5 y (hm y hy) (fun b hb => hs b (h.kv_r (hm y hy) hb)), fun y hy => h1 y (hm y hy), fun y hy => h2 y (hm y hy), hap.1, h3, h.outer⟩, ?_⟩
  · simp [World.setCell, Array.getElem?_modify, h.cur, bcells]
  · simp
  · have := own_cut h.own (k := es0.length) (by omega)
    have hfl := flat_len 8 ecells (fun _ => rfl) es0
    rw [hes, List.flatMap_append, ← hfl, List.take_left] at this
    exact own_same this (fun b hb => by
      have e : ob = b := by simpa [Value.ownBlock] using hb
      subst e
      exact hs ob hor)
  · refine IsN.of (h1 x hxm) ?_
    obtain ⟨q, hq, h0, hqx⟩ := h5 x hxm (fun b hb => hs b (h.kv_r hxm hb))
    have hql : q.length = x.el.kids.length := by rw [← hq]; simp
    refine ⟨q, hq, Row.ofOwns h0 (by omega), fun _ b hb hact => ?_, hqx⟩
    rcases hact with hb2 | hb2 | hb2 | hb2 | ⟨y, hy, hb2⟩
    · have := (own_ty h0 hb).1; omega
    · exact h.kv_r hxm hb hb2
    · exact h.kv_ov hxm hb (c := ob) rfl (by simpa [Value.ownBlock] using hb2.symm)
    · exact h.kv_tv hxm hb hb2 rfl
    · exact hap.2.2 y hy x (by simp) b hb2 hb
/-- An element more. -/
theorem Bd.push {g cap : Nat} {w1 : World} {x : Ev} (h : Bd W r s ov tv es tx o w) (hx : x.kv = .slice none 0 0) (hxk : x.el.kids = []) (hatt : Atts w (Up W (Act r ov tv es)) x.av x.el.attrs) (hsp : Spc w x.mb x.el.given)
    (hown : w1.ownsRow W.heap.size 106 8 (.slice (some ⟨g, 0, none⟩) (es.length + 1) cap) (es.length + 1) (es.flatMap ecells ++ ecells x)) (hg : w.grownBy w1 ov.ownBlock) (hgg : ov.ownBlock = some g ∨ g = w.heap.size) :
    Bd W r { s with opn := x.el :: s.opn } (.slice (some ⟨g, 0, none⟩) (es.length + 1) cap) tv (es ++ [x]) tx o (w1.setCell ⟨r, 0, none⟩ (.slice (some ⟨g, 0, none⟩) (es.length + 1) cap)) := by
  have hlt := h.lt
  have hgr : g ≠ r := by
    rcases hgg with hgg | hgg
    · exact h.ov_r hgg
    · omega
  have hr1 : w1.heap[r]? = w.heap[r]? := hg.block r hlt (fun e => h.ov_r e.symm rfl)
  have hs : ∀ b, b < w.heap.size → b ≠ r → ov.ownBlock ≠ some b → (w1.setCell ⟨r, 0, none⟩ (.slice (some ⟨g, 0, none⟩) (es.length + 1) cap)).heap[b]? = w.heap[b]? := fun b hb h1 h2 => (set_other w1 r 0 _ b h1).trans (hg.block b hb (fun e => h2 e.symm))
  have hk : Keep (Act r ov tv es) w (w1.setCell ⟨r, 0, none⟩ (.slice (some ⟨g, 0, none⟩) (es.length + 1) cap)) := ⟨hg.os, hg.tape, hg.output, by rw [set_size]; exact hg.size, fun b hb hA => hs b hb (fun e => hA (.inl e)) (fun e => hA (.inr (.inl e)))⟩
  have hA : ∀ b, b < w.heap.size → Act r (.slice (some ⟨g, 0, none⟩) (es.length + 1) cap) tv (es ++ [x]) b → Act r ov tv es b := by
    intro b hb hA
    rcases hA with hA | hA | hA | ⟨y, hy, hA⟩
    · exact .inl hA
    · have e : g = b := by simpa [Value.ownBlock] using hA
      subst e
      rcases hgg with hgg | hgg
      · exact .inr (.inl hgg)
      · omega
    · exact .inr (.inr (.inl hA))
    · rcases List.mem_append.1 hy with hy | hy
      · exact .inr (.inr (.inr ⟨y, hy, hA⟩))
      · obtain rfl : y = x := by simpa using hy
        rw [hx] at hA
        cases hA
  obtain ⟨h1, h2, h3, h4, h5⟩ := h.rest hk hA
  refine ⟨h.low, h4, ?_, by simp [h.els], ?_, h.txs, own_same h.txt (fun b hb => hs b (own_ty h.txt hb).2.1 (h.tv_r hb) (fun e => h.ov_tv e hb rfl)), ?_, ?_, ?_, ?_, h3, h.outer⟩
  · simp [World.setCell, Array.getElem?_modify, hr1, h.cur, bcells]
  · have := own_same hown (w' := w1.setCell ⟨r, 0, none⟩ (.slice (some ⟨g, 0, none⟩) (es.length + 1) cap)) (fun b hb => by
      have e : g = b := by simpa [Value.ownBlock] using hb
      subst e
      exact set_other w1 r 0 _ g hgr)
    simpa using this
  · intro y hy
    rcases List.mem_append.1 hy with hy | hy
    · obtain ⟨q, _, h0, _⟩ := h.kid y hy
      exact h5 y hy (fun b hb => hs b (own_ty h0 hb).2.1 (h.kv_r hy hb) (fun e => h.kv_ov hy hb e rfl))
    · obtain rfl : y = x := by simpa using hy
      rw [hx, hxk]
      exact ⟨[], rfl, ⟨by simp, .inl ⟨rfl, rfl⟩⟩, fun z hz => by cases hz⟩
  · intro y hy
    rcases List.mem_append.1 hy with hy | hy
    · exact h1 y hy
    · obtain rfl : y = x := by simpa using hy
      exact hatt.to (Up.sub hA) hk.up
  · intro y hy
    rcases List.mem_append.1 hy with hy | hy
    · exact h2 y hy
    · obtain rfl : y = x := by simpa using hy
      refine hsp.same (hk.block _ hsp.lt fun hb => ?_)
      obtain ⟨_, _, cs, ty, h6⟩ := h.act hb
      obtain ⟨es', c, h7⟩ := hsp.isMap
      rw [h6] at h7
      cases h7
  · rw [List.pairwise_append]
    refine ⟨h.apart, by simp, fun y hy z hz b hb => ?_⟩
    obtain rfl : z = x := by simpa using hz
    rw [hx]
    simp [Value.ownBlock]
end
end Go.Proofs.YthodmdfbahkflaaGreatDoor.Tree
namespace Go.Proofs.YthodmdfbahkflaaGreatDoor.Tree
open Go Go.Proofs.YthodmdfbahkflaaGreatDoor Go.Proofs.YthodmdfbahkflaaGreatDoor.Utf Go.Proofs.YthodmdfbahkflaaGreatDoor.Names Go.Proofs.YthodmdfbahkflaaGreatDoor.Ent Go.Proofs.YthodmdfbahkflaaGreatDoor.Tok Go.RowKit
set_option maxRecDepth 100000
/-- A state that is not too great. -/
def Sml (s : Bs) : Prop := s.opn.length ≤ 1000000 ∧ s.texts.length ≤ 1000000000 ∧ ∀ e ∈ s.opn, e.kids.length ≤ 1000000000
section
variable {W w : World} {r : Nat} {s : Bs} {ov tv : Value} {es : List Ev} {tx : List (Tok × Value)} {o : Node × Value × Value}
theorem Bd.len (h : Bd W r s ov tv es tx o w) : es.length = s.opn.length := by
  have := congrArg List.length h.els
  simpa using this
theorem Bd.txlen (h : Bd W r s ov tv es tx o w) : tx.length = s.texts.length := by
  have := congrArg List.length h.txs
  simpa using this
theorem Bd.mem (h : Bd W r s ov tv es tx o w) {x : Ev} (hx : x ∈ es) : x.el ∈ s.opn := by
  have : x.el ∈ es.map Ev.el := List.mem_map_of_mem hx
  rw [h.els] at this
  simpa using this
/-- The builder's block holds a state. -/
def Sl (tx : List (Tok × Value)) : Prop := ∀ x ∈ tx, ∃ o n c, x.2 = Value.slice o n c
def Bx (W : World) (r : Nat) (s : Bs) (w : World) : Prop := ∃ ov tv es tx o, Bd W r s ov tv es tx o w ∧ Sl tx
theorem add_any (h : Bd W r s ov tv es tx o w) (hs : Sml s) (n : Node) (av kv : Value) (hn : IsN w (Up W (Act r ov tv es)) n av kv) :
    Calls Tryz.prog 34 #[.pointer (some ⟨r, 0, none⟩), nodeV n av kv] w fun e w' => e = .returned (.tuple #[]) ∧ (∃ es' o', Bd W r (addN s n) ov tv es' tx o' w' ∧ ∀ b, b < w.heap.size → Act r ov tv es' b → Act r ov tv es b) ∧ Keep (Act r ov tv es) w w' := by
  rcases snoc_cases es with hes | ⟨es0, x, hes⟩
  · have ho := h.opn_nil hes
    refine (add_outer h ho n av kv hn).mono ?_
    rintro e w' ⟨rfl, hb, hkp⟩
    refine ⟨rfl, ⟨es, (n, av, kv), ?_, fun _ _ x => x⟩, hkp⟩
    have e1 : addN s n = { s with outer := some n } := by unfold addN; rw [ho]
    rw [e1]
    exact hb
  · have hx : x ∈ es := by rw [hes]; simp
    refine (add_inner h hes n av kv hn (by rw [h.len]; exact hs.1) (hs.2.2 _ (h.mem hx))).mono ?_
    rintro e w' ⟨rfl, ⟨kv', hb, hsub⟩, hkp⟩
    exact ⟨rfl, ⟨_, _, hb, hsub⟩, hkp⟩
/-- What end tells. -/
def GotE (W : World) (r : Nat) (A : Nat → Prop) (w : World) (o : Except (Int × Nat) Bs) (e : Ending) (w' : World) : Prop :=
  Keep A w w' ∧ match o with
  | .error x => e = .returned (.int .i64 x.2) ∧ Below W.heap.size W w'
  | .ok s' => e = .returned (.int .i64 0) ∧ Bx W r s' w'
set_option maxHeartbeats 4000000
theorem end_any (h : Bd W r s ov tv es tx o w) (hsl : Sl tx) (hs : Sml s) (t : Tok) (ao : Option Addr) (an ac : Nat) :
    Calls Tryz.prog 22 #[.pointer (some ⟨r, 0, none⟩), tokV t (.slice ao an ac)] w fun e w' => GotE W r (Act r ov tv es) w (endE s t) e w' := by
  have hcur := h.cur
  have hlt := h.lt
  have olen := own_len (P := Tryz.prog) h.own 46 3 undE
  have c0 : w.cell? ⟨r, 0, none⟩ = some ov := by rw [Lib.cell_of_heap hcur]; rfl
  have f0 := Lib.frozen_of_heap hcur 0
  have B1 := ba (b0 w) (.cells #[.int .i64 t.kind, .int .i64 t.place, .string (text t.s), .slice ao an ac] 45)
  have HB1 := hid B1
  have H := hid h
  unfold tokV
  rcases snoc_cases es with hes | ⟨es0, x, hes⟩
  · have ho := h.opn_nil hes
    have hz : es.length = 0 := by rw [hes]; rfl
    simp only [hz] at olen
    have hsub : wrap64 ((0 : Int) - 1) = -1 := by rw [IntWalk.wrap64_in _ ⟨by omega, by omega⟩]; rfl
    have hsub2 : wrap64 (-1) = -1 := by rw [IntWalk.wrap64_in _ ⟨by omega, by omega⟩]
    have E := hid (show endE s t = .error (t.place, 5) by unfold endE; rw [ho])
    clear h hes ho hz hcur B1
    go_enter Tryz.func22, Tryz.ntmps22
    go_wp2_with fail
    go_quiet (fail)
    go_wp2
    go_ret
    rw [E.out]
    exact ⟨Keep.of_below (below_drewN HB1.out _), rfl, below_drewN (H.out.old.trans (HB1.out.mono H.out.old.size)) _⟩
  · have ho := h.opn_last hes
    have hxm : x ∈ es := by rw [hes]; simp
    have hel : es.length = es0.length + 1 := by rw [hes]; simp
    have hsz : es.length ≤ 1000000 := by rw [h.len]; exact hs.1
    have hkl := hs.2.2 _ (h.mem hxm)
    obtain ⟨ob, oc, rfl, hob, hobl⟩ := h.own.form (by omega)
    have hown := h.own
    have hsub : wrap64 ((es.length : Int) - 1) = (es0.length : Int) := by rw [IntWalk.wrap64_in _ ⟨by omega, by omega⟩]; omega
    have hd : decide ((es0.length : Int) < 0) = false := decide_eq_false (by omega)
    have oat := fun X => own_at (P := Tryz.prog) undE sizE ob es.length oc es0.length (by omega) X
    have hcell : ∀ j, j < 8 → w.cell? ⟨ob, es0.length * 8 + j, none⟩ = (ecells x)[j]? := fun j hj => by
      rw [hown.cellAt _ (by omega), hes, flat_last 8 ecells (fun _ => rfl) es0 x j hj]
    have k6 : w.cell? ⟨ob, es0.length * 8 + 6, none⟩ = some (.string (text x.el.written)) := (hcell 6 (by omega)).trans rfl
    have q := text_eq x.el.written t.s
    by_cases hw : x.el.written = t.s
    · rw [decide_eq_true hw] at q
      have E := hid (show endE s t = .ok (addN { s with opn := (es0.map Ev.el).reverse } x.el.node) by unfold endE; rw [ho]; dsimp only; rw [if_neg (fun c => c hw)])
      obtain ⟨xav, xan, xac, hxav⟩ : ∃ a n c, x.av = .slice a n c := by obtain ⟨⟨⟨a, c, h, _⟩, _⟩, _⟩ := h.att x hxm; exact ⟨_, _, _, h⟩
      obtain ⟨xk, xkn, xkc, hxkv⟩ : ∃ a n c, x.kv = .slice a n c := by
        obtain ⟨_, _, h0, _⟩ := h.kid x hxm
        rcases h0.2 with ⟨h1, _⟩ | ⟨g, cap, cur, h1, _⟩
        · exact ⟨_, _, _, h1⟩
        · exact ⟨_, _, _, h1⟩
      have k0 : w.cell? ⟨ob, es0.length * 8, none⟩ = some (.int .i64 x.el.place) := (hcell 0 (by omega)).trans rfl
      have k1 : w.cell? ⟨ob, es0.length * 8 + 1, none⟩ = some (.string (text x.el.nm.1)) := (hcell 1 (by omega)).trans rfl
      have k2 : w.cell? ⟨ob, es0.length * 8 + 2, none⟩ = some (.string (text x.el.nm.2)) := (hcell 2 (by omega)).trans rfl
      have k3 : w.cell? ⟨ob, es0.length * 8 + 3, none⟩ = some (.slice xav xan xac) := (hcell 3 (by omega)).trans (by rw [← hxav]; rfl)
      have k4 : w.cell? ⟨ob, es0.length * 8 + 4, none⟩ = some (.slice xk xkn xkc) := (hcell 4 (by omega)).trans (by rw [← hxkv]; rfl)
      have k5 : w.cell? ⟨ob, es0.length * 8 + 5, none⟩ = some (.string ⟨#[]⟩) := (hcell 5 (by omega)).trans rfl
      have hocap : es.length ≤ oc := by
        rcases hown.2 with ⟨h1, _⟩ | ⟨g, cap, cur, h1, _, _, h2, _⟩
        · cases h1
        · injection h1 with _ _ h1; omega
      have hcut := fun X => cut_run (P := Tryz.prog) undE sizE ob es.length oc es0.length (by omega) (by omega) X
      have HNV : Hid (nodeV x.el.node x.av x.kv = .agg #[.int .i64 x.el.place, .string (text x.el.nm.1), .string (text x.el.nm.2), .slice xav xan xac, .slice xk xkn xkc, .string ⟨#[]⟩]) := hid (by rw [hxav, hxkv]; rfl)
      have AD := hid (fun (X : World) (hX : Below w.heap.size w X) => (h.later hX).pop rfl hes (by omega))
      have hsm : Sml { s with opn := (es0.map Ev.el).reverse } := by
        refine ⟨?_, hs.2.1, fun e he => hs.2.2 e ?_⟩
        · have := hs.1; rw [ho] at this; simp at this ⊢; omega
        · rw [ho]; exact List.mem_cons_of_mem _ he
      have HSM := hid hsm
      have HACT : Hid (∀ b, Act r (.slice (some ⟨ob, 0, none⟩) es0.length oc) tv es0 b → Act r (.slice (some ⟨ob, 0, none⟩) es.length oc) tv es b) := hid fun b hA => by
        rcases hA with hA | hA | hA | ⟨y, hy, hA⟩
        · exact .inl hA
        · exact .inr (.inl hA)
        · exact .inr (.inr (.inl hA))
        · exact .inr (.inr (.inr ⟨y, by rw [hes]; simp [hy], hA⟩))
      clear h hes hcur B1 hown hcell hw ho hs hsm hxav hxkv
      go_enter Tryz.func22, Tryz.ntmps22
      go_wp2_with fail
      go_quiet (fail)
      go_wp2_with fail
      obtain ⟨P1, P2⟩ := AD.out _ (below_drewN HB1.out nq)
      have P3 := P1.later (ba (b0 _) (.cells #[.int .i64 x.el.place, .string (text x.el.nm.1), .string (text x.el.nm.2), .slice xav xan xac, .slice xk xkn xkc, .string ⟨#[]⟩] 32))
      have P4 := P2.to (A' := Up W (Act r (.slice (some ⟨ob, 0, none⟩) es0.length oc) tv es0)) (fun _ _ x => x) (Keep.of_below (ba (b0 _) (.cells #[.int .i64 x.el.place, .string (text x.el.nm.1), .string (text x.el.nm.2), .slice xav xan xac, .slice xk xkn xkc, .string ⟨#[]⟩] 32)))
      have AA := add_any P3 HSM.out x.el.node x.av x.kv P4
      rw [HNV.out] at AA
      refine AA.mono ?_
      rintro e w2 ⟨rfl, ⟨es', o', hb, _⟩, hkp⟩
      have HBD := hid hb
      have HKP := hid (((((Keep.of_below (below_drewN HB1.out nq)).trans (Keep.set (A := Act r (.slice (some ⟨ob, 0, none⟩) es.length oc) tv es) _ r 0 (.slice (some ⟨ob, 0, none⟩) es0.length oc) (.inl rfl)) (fun _ _ x => x))).trans (Keep.of_below (A := Act r (.slice (some ⟨ob, 0, none⟩) es.length oc) tv es) (ba (b0 _) (.cells #[.int .i64 x.el.place, .string (text x.el.nm.1), .string (text x.el.nm.2), .slice xav xan xac, .slice xk xkn xkc, .string ⟨#[]⟩] 32))) (fun _ _ x => x)).trans hkp (fun b _ hA => HACT.out b hA))
      clear hb hkp P1 P2 P3 P4 AA
      go_wp2
      go_ret
      rw [E.out]
      exact ⟨HKP.out, rfl, _, _, _, _, _, HBD.out, hsl⟩
    · rw [decide_eq_false hw] at q
      have E := hid (show endE s t = .error (t.place, 5) by unfold endE; rw [ho]; dsimp only; rw [if_pos hw])
      clear h hes hcur B1 hown hcell hw ho hs
      go_enter Tryz.func22, Tryz.ntmps22
      go_wp2_with fail
      go_quiet (fail)
      go_wp2
      go_ret
      rw [E.out]
      exact ⟨Keep.of_below (below_drewN HB1.out _), rfl, below_drewN (H.out.old.trans (HB1.out.mono H.out.old.size)) _⟩
end
end Go.Proofs.YthodmdfbahkflaaGreatDoor.Tree
namespace Go.Proofs.YthodmdfbahkflaaGreatDoor.Tree
open Go Go.Proofs.YthodmdfbahkflaaGreatDoor Go.Proofs.YthodmdfbahkflaaGreatDoor.Utf Go.Proofs.YthodmdfbahkflaaGreatDoor.Names Go.Proofs.YthodmdfbahkflaaGreatDoor.Ent Go.Proofs.YthodmdfbahkflaaGreatDoor.Tok Go.RowKit
set_option maxRecDepth 100000
/-- Texts that are not too great. -/
def SmT (s : Bs) : Prop := s.texts.length ≤ 10000000 ∧ ∀ t ∈ s.texts, t.2.length ≤ 4000000
theorem flat_le : ∀ (l : List (Int × List UInt8)), (∀ t ∈ l, t.2.length ≤ 4000000) → (flat l).length ≤ 4000000 * l.length
  | [], _ => by simp [flat]
  | a :: l, h => by
    have := flat_le l (fun t ht => h t (by simp [ht]))
    have h1 := h a (by simp)
    unfold flat at this ⊢
    rw [List.flatMap_cons, List.length_append, List.length_cons]
    omega
theorem flat_snoc (l : List (Int × List UInt8)) (n : Nat) (h : n < l.length) : flat (l.take (n + 1)) = flat (l.take n) ++ l[n].2 := by
  unfold flat
  rw [List.take_succ_eq_append_getElem h, List.flatMap_append, List.flatMap_singleton]
section
variable {W w : World} {r : Nat} {s : Bs} {ov tv : Value} {es : List Ev} {tx : List (Tok × Value)} {o : Node × Value × Value}
set_option maxHeartbeats 4000000
theorem endTexts_any (h : Bd W r s ov tv es tx o w) (hsl : Sl tx) (hs : Sml s) (ht : SmT s) :
    Calls Tryz.prog 20 #[.pointer (some ⟨r, 0, none⟩)] w fun e w' => e = .returned (.tuple #[]) ∧ (∃ ov' tv' es' tx' o', Bd W r (endT s) ov' tv' es' tx' o' w' ∧ Sl tx' ∧ ∀ b, b < w.heap.size → Act r ov' tv' es' b → Act r ov tv es b) ∧ Keep (Act r ov tv es) w w' := by
  have hcur := h.cur
  have hlt := h.lt
  have tlen := own_len (P := Tryz.prog) h.txt 22 3 undT
  have c1 : w.cell? ⟨r, 1, none⟩ = some tv := by rw [Lib.cell_of_heap hcur]; rfl
  cases htx : s.texts with
  | nil =>
    have hz : tx.length = 0 := by rw [h.txlen, htx]; rfl
    simp only [hz] at tlen
    have E := hid (show endT s = s by unfold endT; rw [htx])
    have H := hid h
    clear h htx hz hcur
    go_enter Tryz.func20, Tryz.ntmps20
    go_wp2
    refine bodyPost_ret (results_none rfl _ _ _) rfl ?_
    rw [E.out]
    exact ⟨rfl, ⟨_, _, _, _, _, H.out, hsl, fun _ _ x => x⟩, Keep.refl _ _⟩
  | cons t0 tr =>
    have hpos : 0 < tx.length := by rw [h.txlen, htx]; simp
    have hlen := h.txlen
    have htl : tx.length ≤ 10000000 := by rw [hlen]; exact ht.1
    obtain ⟨g, cap, rfl, hgW, hgl⟩ := h.txt.form hpos
    have htxt := h.txt
    have hcap : tx.length ≤ cap := by
      rcases htxt.2 with ⟨h1, _⟩ | ⟨g', cap', cur, h1, _, _, h2, _⟩
      · cases h1
      · injection h1 with _ _ h1; omega
    have oat := fun (i : Nat) (hi : i < tx.length) X => own_at (P := Tryz.prog) undT sizT g tx.length cap i hi X
    have hcell : ∀ i j, (hi : i < tx.length) → j < 4 → w.cell? ⟨g, i * 4 + j, none⟩ = (tokCells tx[i])[j]? := fun i j hi hj => by
      rw [htxt.cellAt _ (by omega), flat_get 4 tokCells (fun _ => rfl) tx i j hj, List.getElem?_eq_getElem hi]
      rfl
    have hsx : ∀ i (hi : i < tx.length) (hi2 : i < s.texts.length), s.texts[i] = (tx[i].1.place, tx[i].1.s) := fun i hi hi2 => by
      have := congrArg (fun l => l[i]?) h.txs
      simp only [List.getElem?_map, List.getElem?_eq_getElem hi, List.getElem?_eq_getElem hi2, Option.map_some] at this
      injection this with this
      exact this.symm
    have hcut := fun X => cut_run (P := Tryz.prog) undT sizT g tx.length cap 0 (by omega) (by omega) X
    have E := hid (show endT s = { addN s (.mk t0.1 ([], []) [] [] (flat s.texts)) with texts := [] } by unfold endT; rw [htx])
    have HT0 := hid (show ∀ h0 : 0 < tx.length, tx[0].1.place = t0.1 from fun h0 => by
      have := hsx 0 h0 (by rw [htx]; simp)
      simp only [htx, List.getElem_cons_zero] at this
      rw [this])
    have HSX := hid hsx
    have HSL := hid hsl
    have HCELL := hid hcell
    have H := hid h
    have HS := hid hs
    have HT := hid ht
    have HFL := hid (flat_le s.texts ht.2)
    have HLEN := hid hlen
    have HOAT := hid oat
    have BF := hid (Bld.Is.fresh (w.heap.size + 1) w (by omega))
    have HB0 := hid (ba (b0 w) (.cells #[.pointer none, .slice none 0 0] 89))
    have wr0 : w.heap.size ≠ r := by omega
    clear h hcur htxt hcell hsx hs htx oat hsl hlen
    go_enter Tryz.func20, Tryz.ntmps20
    go_wp2_with fail
    go_loopg [16] tx.length (fun gk iv X => ∃ n : Nat, iv = .int .i64 n ∧ n + gk = tx.length ∧ Hid (Bld.Is (w.heap.size + 1) w.heap.size (flat (s.texts.take n)) X) ∧ Hid (Below w.heap.size w X) ∧ w.heap.size + 1 ≤ X.heap.size)
    case atStart => exact ⟨0, rfl, by omega, hid (by rw [List.take_zero]; exact BF.out), HB0, by simp⟩
    case round =>
      rename World => X
      obtain ⟨n, rfl, hng, HIS, HBX, hsz⟩ := hrel
      by_cases hi : n < tx.length
      · have hx := fun j (hj : j < 4) => (HBX.out.cell (p := ⟨g, n * 4 + j, none⟩) hgl).trans (HCELL.out n j hi hj)
        have hi2 : n < s.texts.length := by rw [← HLEN.out]; exact hi
        have hsn := HSX.out n hi hi2
        have HSN := hid (flat_snoc s.texts n hi2)
        have hml := HT.out.2 _ (List.getElem_mem hi2)
        have hfl := flat_le (s.texts.take n) (fun t ht => HT.out.2 t (List.mem_of_mem_take ht))
        rw [List.length_take] at hfl
        rw [hsn] at hml HSN
        have oat := fun X => HOAT.out n hi X
        obtain ⟨ao, an, ac, hav⟩ := HSL.out _ (List.getElem_mem hi)
        generalize htn : tx[n] = q at *
        obtain ⟨tk, av⟩ := q
        obtain ⟨kd, pl, ss, ps⟩ := tk
        dsimp only at *
        subst hav
        have k0 : X.cell? ⟨g, n * 4, none⟩ = some (.int .i64 kd) := (hx 0 (by omega)).trans rfl
        have k1 : X.cell? ⟨g, n * 4 + 1, none⟩ = some (.int .i64 pl) := (hx 1 (by omega)).trans rfl
        have k2 : X.cell? ⟨g, n * 4 + 2, none⟩ = some (.string (text ss)) := (hx 2 (by omega)).trans rfl
        have k3 : X.cell? ⟨g, n * 4 + 3, none⟩ = some (.slice ao an ac) := (hx 3 (by omega)).trans rfl
        have BA := ba (b0 X) (.cells #[.int .i64 kd, .int .i64 pl, .string (text ss), .slice ao an ac] 45)
        have WS := hid (Bld.WriteString_any (w.heap.size + 1) w.heap.size (flat (s.texts.take n)) ss _ (HIS.out.later BA) (by omega) (by simp; omega))
        rw [← HSN.out] at WS
        have HBA := hid BA
        clear hx hsn hml hfl htn BA
        go_wp2_with fail
        refine WS.out.mono ?_
        rintro e w1 ⟨rfl, hi1, hb1⟩
        have HI1 := hid hi1
        have HB1 := hid (HBX.out.trans ((HBA.out.mono HBX.out.size).trans (hb1.below (Nat.le_refl _) (by omega))))
        have hz1 : w.heap.size + 1 ≤ w1.heap.size := by have := hb1.size; simp at this; omega
        clear hi1 hb1
        go_wp2
        go_roundg (gk - 1)
        case measure => omega
        case rel => exact ⟨n + 1, by go_num, by omega, HI1, HB1, hz1⟩
      · have hall : s.texts.take n = s.texts := List.take_of_length_le (by rw [← HLEN.out]; omega)
        have HI := hid (show Bld.Is (w.heap.size + 1) w.heap.size (flat s.texts) X by rw [← hall]; exact HIS.out)
        have ST := hid (fun (Y : World) (hY : Bld.Is (w.heap.size + 1) w.heap.size (flat s.texts) Y) => Bld.String_any _ _ _ Y hY)
        have HX := hid (H.out.later HBX.out)
        have hxr := HX.out.cur
        have d1 : X.cell? ⟨r, 1, none⟩ = some (.slice (some ⟨g, 0, none⟩) tx.length cap) := by rw [Lib.cell_of_heap hxr]; rfl
        have k1 : X.cell? ⟨g, 1, none⟩ = some (.int .i64 t0.1) := by
          have := (HBX.out.cell (p := ⟨g, 0 * 4 + 1, none⟩) hgl).trans (HCELL.out 0 1 hpos (by omega))
          rw [Nat.zero_mul, Nat.zero_add] at this
          rw [← HT0.out hpos]
          exact this.trans rfl
        have oat0 : ∀ Y, (Instr.indexAt 22 (.slice (some ⟨g, 0, none⟩) tx.length cap) (.int .i64 0)).run Tryz.prog Y = .ok (.pointer (some ⟨g, 0, none⟩)) Y := fun Y => by
          have := HOAT.out 0 hpos Y
          simpa using this
        have hrX := HX.out.lt
        clear hxr
        have AD := hid (fun (Y : World) (hY : Below w.heap.size w Y) => (add_any (H.out.later hY) HS.out (.mk t0.1 ([], []) [] [] (flat s.texts)) (.slice none 0 0) (.slice none 0 0) (IsN.of (Atts.nil _ _) (Kids.nil _ _)) : Calls Tryz.prog 34 #[.pointer (some ⟨r, 0, none⟩), .agg #[.int .i64 t0.1, .string ⟨#[]⟩, .string ⟨#[]⟩, .slice none 0 0, .slice none 0 0, .string (text (flat s.texts))]] Y _))
        have HK1 := hid k1
        have HD1 := hid d1
        go_wp2_with fail
        go_region_with (first
          | (go_at_call 35
             go_loud (
               refine (ST.out X.drew (HI.out.later (b0 X).drew)).mono ?_
               rintro e w1 ⟨rfl, hb1⟩
               have e1 := (hb1.cell (p := ⟨g, 1, none⟩) hgl).trans HK1.out
               have e2 := (hb1.cell (p := ⟨r, 1, none⟩) hlt).trans HD1.out
               have HB1 := hid (HBX.out.drew.trans hb1)
               clear hb1))
          | (go_at_call 34
             refine (AD.out _ HB1.out).mono ?_
             rintro e w2 ⟨rfl, ⟨es', o', hb2, hsub⟩, hkp⟩
             have HB2 := hid hb2
             have HSUB := hid (fun (b : Nat) (hb : b < w.heap.size) => hsub b (Nat.lt_of_lt_of_le hb HB1.out.size))
             have HKP := hid ((Keep.of_below (A := Act r ov (.slice (some ⟨g, 0, none⟩) tx.length cap) es) HB1.out).trans hkp (fun _ _ x => x))
             have g1 : w2.cell? ⟨r, 1, none⟩ = some (.slice (some ⟨g, 0, none⟩) tx.length cap) := by rw [Lib.cell_of_heap hb2.cur]; rfl
             have gf := Lib.frozen_of_heap hb2.cur 1
             have hlt2 := hb2.lt
             clear hb2 hkp hsub))
        all_goals go_wp2
        all_goals go_end0
        all_goals exact ⟨rfl, by rw [E.out]; exact ⟨_, _, _, _, _, HB2.out.cutTexts rfl, (fun x hx => by cases hx), fun b hb hA => HSUB.out b hb hA⟩, HKP.out.trans (Keep.set (A := Act r ov (.slice (some ⟨g, 0, none⟩) tx.length cap) es) _ r 1 _ (.inl rfl)) (fun _ _ x => x)⟩
end
end Go.Proofs.YthodmdfbahkflaaGreatDoor.Tree
namespace Go.Proofs.YthodmdfbahkflaaGreatDoor.Tree
open Go Go.Proofs.YthodmdfbahkflaaGreatDoor Go.Proofs.YthodmdfbahkflaaGreatDoor.Utf Go.Proofs.YthodmdfbahkflaaGreatDoor.Names Go.Proofs.YthodmdfbahkflaaGreatDoor.Ent Go.Proofs.YthodmdfbahkflaaGreatDoor.Tok Go.RowKit
set_option maxRecDepth 100000
/-- What begin tells. -/
def GotG (W : World) (r : Nat) (o : Except (Int × Nat) Bs) (e : Ending) (w' : World) : Prop :=
  match o with
  | .error x => e = .returned (.tuple #[.int .i64 x.1, .int .i64 x.2]) ∧ Below W.heap.size W w'
  | .ok s' => e = .returned (.tuple #[.int .i64 0, .int .i64 0]) ∧ Bx W r s' w'
theorem within_err : ∀ (l : List Pr) (g : Sp) (x : Int × Nat), within g l = .error x → x.2 ≠ 0
  | [], g, x, h => by cases h
  | p :: r, g, x, h => by
    unfold within at h
    split at h
    · exact within_err r g x h
    · split at h
      · injection h with h; subst h; simp
      · exact within_err r _ x h
theorem attrsIn_err : ∀ (l : List Pr) (g : Sp) (seen : List Nm) (x : Int × Nat), attrsIn g seen l = .error x → x.2 ≠ 0
  | [], g, seen, x, h => by cases h
  | p :: r, g, seen, x, h => by
    unfold attrsIn at h
    split at h
    · exact attrsIn_err r g seen x h
    · cases hn : nameIn g p.name [] with
      | error e =>
        rw [hn] at h
        injection h with h; subst h
        exact nameIn_err hn
      | ok nm =>
        rw [hn] at h
        dsimp only at h
        split at h
        · injection h with h; subst h; simp
        · cases hr : attrsIn g (nm :: seen) r with
          | error y =>
            rw [hr] at h
            injection h with h; subst h
            exact attrsIn_err r g _ y hr
          | ok l =>
            rw [hr] at h
            cases h
theorem within_spl : ∀ (l : List Pr) (g g' : Sp) (n : Nat), within g l = .ok g' → SpL n g → (∀ p ∈ l, p.value.length ≤ n) → SpL n g' ∧ g'.length ≤ g.length + l.length
  | [], g, g', n, h, hg, hl => by unfold within at h; injection h with h; subst h; exact ⟨hg, by simp⟩
  | p :: r, g, g', n, h, hg, hl => by
    unfold within at h
    have hr := fun q hq => hl q (List.mem_cons_of_mem _ hq)
    split at h
    · have := within_spl r g g' n h hg hr
      exact ⟨this.1, by simp; omega⟩
    · split at h
      · cases h
      · have := within_spl r _ g' n h (fun x hx => by
          rcases List.mem_cons.1 hx with rfl | hx
          · exact hl p (by simp)
          · exact hg x hx) hr
        exact ⟨this.1, by simp at this ⊢; omega⟩
section
variable {W w : World} {r : Nat} {s : Bs} {ov tv : Value} {es : List Ev} {tx : List (Tok × Value)} {o : Node × Value × Value}
/-- The outermost has not ended, or it has. -/
theorem Bd.done (h : Bd W r s ov tv es tx o w) : w.cell? ⟨r, 8, none⟩ = some (.bool s.outer.isSome) := by rw [Lib.cell_of_heap h.cur]; rfl
/-- A new row of attributes lies outside of what may change. -/
theorem OwnA.atts {w0 : World} (h : Bd W r s ov tv es tx o w) (hW : W.heap.size ≤ w0.heap.size) (hb : Below w0.heap.size w0 w) (h0 : ∀ b, Act r ov tv es b → b < w0.heap.size) {v : Value} {l : List Att} (ho : OwnA w0.heap.size w v l) (hl : l.length ≤ 281474976710656) : Atts w (Up W (Act r ov tv es)) v l := by
  refine ⟨Row.ofOwns ho hl, fun _ b hv hA => ?_⟩
  have h1 := (own_ty ho hv).1
  rcases hA with hA | hA
  · omega
  · have h2 := h0 b hA
    omega
set_option maxHeartbeats 4000000
theorem begin_done (h : Bd W r s ov tv es tx o w) (hd : s.outer.isSome = true) (t : Tok) (ao : Option Addr) (an ac : Nat) :
    Calls Tryz.prog 21 #[.pointer (some ⟨r, 0, none⟩), tokV t (.slice ao an ac)] w fun e w' => GotG W r (beginT s t) e w' := by
  have hlt := h.lt
  have c8 := h.done
  rw [hd] at c8
  have E := hid (show beginT s t = .error (t.place, 5) by unfold beginT; rw [if_pos hd])
  have H := hid h
  have HB := hid (ba (b0 w) (.cells #[.int .i64 t.kind, .int .i64 t.place, .string (text t.s), .slice ao an ac] 45))
  clear h hd
  unfold tokV
  go_enter Tryz.func21, Tryz.ntmps21
  go_wp2
  go_ret2
  rw [E.out]
  exact ⟨rfl, H.out.old.trans (HB.out.mono H.out.old.size)⟩
theorem begin_deep (h : Bd W r s ov tv es tx o w) (hd : s.outer.isSome = false) (hl : s.opn.length = 200) (t : Tok) (ao : Option Addr) (an ac : Nat) :
    Calls Tryz.prog 21 #[.pointer (some ⟨r, 0, none⟩), tokV t (.slice ao an ac)] w fun e w' => GotG W r (beginT s t) e w' := by
  have hlt := h.lt
  have c8 := h.done
  have c0 : w.cell? ⟨r, 0, none⟩ = some ov := by rw [Lib.cell_of_heap h.cur]; rfl
  have olen := own_len (P := Tryz.prog) h.own 46 3 undE
  rw [h.len, hl] at olen
  rw [hd] at c8
  have E := hid (show beginT s t = .error (t.place, 9) by unfold beginT; rw [if_neg (by rw [hd]; decide), if_pos hl])
  have H := hid h
  have HB := hid (ba (b0 w) (.cells #[.int .i64 t.kind, .int .i64 t.place, .string (text t.s), .slice ao an ac] 45))
  clear h hd
  unfold tokV
  go_enter Tryz.func21, Tryz.ntmps21
  go_wp2
  go_ret2
  rw [E.out]
  exact ⟨rfl, H.out.old.trans (HB.out.mono H.out.old.size)⟩
end
end Go.Proofs.YthodmdfbahkflaaGreatDoor.Tree
