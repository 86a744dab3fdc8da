/- Layer 5: contracts of slices.Equal, alike and Same, at trees that are the same. | Layer 5: contract of Same, at trees that are the same. | Plain mathematics of layer 5: which prefixes are used for the same namespaces plays no part. | Plain mathematics of layer 5: three documents with other prefixes. | Layer 5: the walk of the statement XmltreeSpaces. -/
import Derived.Test.YthodmdfbahkflaaGreatDoorTrB
import Derived.Test.YthodmdfbahkflaaGreatDoorTrA
import Derived.BigQuiet
import Derived.Deep.QuietTactic
import Derived.Deep.AppendLies
import Derived.Test.YthodmdfbahkflaaGreatDoorTrG
set_option linter.unusedVariables false
set_option linter.unusedSimpArgs false
namespace Go.Proofs.YthodmdfbahkflaaGreatDoor.Tree
open Go Go.Proofs.YthodmdfbahkflaaGreatDoor Go.Proofs.YthodmdfbahkflaaGreatDoor.Utf Go.Proofs.YthodmdfbahkflaaGreatDoor.Names Go.Proofs.YthodmdfbahkflaaGreatDoor.Ent Go.Proofs.YthodmdfbahkflaaGreatDoor.Tok Go.RowKit
set_option maxRecDepth 100000
theorem sizAt (W : World) : (sizeOf 61).run Tryz.prog W = .ok 3 W := Tryz.sizeOf61 W
/-- One attribute. -/
theorem Atts.at {P : Program} {w : World} {A : Nat → Prop} {v : Value} {l : List Att} (h : Atts w A v l) (i : Nat) (hi : i < l.length) (t e : TypeId) (ht : P.underlying t = some (.slice e)) (hs : ∀ W, (sizeOf e).run P W = .ok 3 W) :
    ∃ b o, (∀ k W, (Instr.indexAt t v (.int k i)).run P W = .ok (.pointer (some ⟨b, o, none⟩)) W) ∧
      w.cell? ⟨b, o, none⟩ = some (.string (text l[i].nm.1)) ∧ w.cell? ⟨b, o + 1, none⟩ = some (.string (text l[i].nm.2)) ∧ w.cell? ⟨b, o + 2, none⟩ = some (.string (text l[i].value)) := by
  obtain ⟨b, o, a1, a2⟩ := Row.at h.1 (by omega) i hi t e ht hs
  have g : ∀ j, j < 3 → (l.flatMap attCells)[i * 3 + j]? = (attCells l[i])[j]? := fun j hj => by
    rw [flat_get 3 attCells (fun _ => rfl) l i j hj, List.getElem?_eq_getElem hi]; rfl
  exact ⟨b, o, a1, by simpa using a2 0 _ (by omega) (by rw [g 0 (by omega)]; rfl), a2 1 _ (by omega) (by rw [g 1 (by omega)]; rfl), a2 2 _ (by omega) (by rw [g 2 (by omega)]; rfl)⟩
theorem Atts.len {P : Program} {w : World} {A : Nat → Prop} {v : Value} {l : List Att} (h : Atts w A v l) (t ty e : TypeId) (ht : P.underlying t = some (.slice e)) (W : World) : (Builtin.len_ #[t] ty #[v]).run P W = .ok (.int .i64 l.length) W := Row.len h.1 t ty e ht W
theorem Atts.few {w : World} {A : Nat → Prop} {v : Value} {l : List Att} (h : Atts w A v l) : l.length ≤ 281474976710656 := by
  obtain ⟨⟨⟨a, c, _, _, _, h0, _⟩, _⟩, _⟩ := h
  omega
/-- A node at a place. -/
structure NodeAt (w : World) (b o : Nat) (n : Node) (av kv : Value) : Prop where
  c0 : w.cell? ⟨b, o, none⟩ = some (.int .i64 n.place)
  c1 : w.cell? ⟨b, o + 1, none⟩ = some (.string (text n.nm.1))
  c2 : w.cell? ⟨b, o + 2, none⟩ = some (.string (text n.nm.2))
  c3 : w.cell? ⟨b, o + 3, none⟩ = some av
  c4 : w.cell? ⟨b, o + 4, none⟩ = some kv
  c5 : w.cell? ⟨b, o + 5, none⟩ = some (.string (text n.text))
  is : IsN w (fun _ => False) n av kv
theorem NodeAt.below {w w' : World} {b o : Nat} {n : Node} {av kv : Value} (h : NodeAt w b o n av kv) (hb : Below w.heap.size w w') : NodeAt w' b o n av kv := by
  have hl := World.block_lt_of_cell? _ _ h.c0
  exact ⟨(hb.cell (p := ⟨b, o, none⟩) hl).trans h.c0, (hb.cell (p := ⟨b, o + 1, none⟩) hl).trans h.c1, (hb.cell (p := ⟨b, o + 2, none⟩) hl).trans h.c2, (hb.cell (p := ⟨b, o + 3, none⟩) hl).trans h.c3, (hb.cell (p := ⟨b, o + 4, none⟩) hl).trans h.c4, (hb.cell (p := ⟨b, o + 5, none⟩) hl).trans h.c5, h.is.to (fun _ _ x => x) (Keep.of_below hb)⟩
theorem SameN.parts {a b : Node} (h : SameN a b) : a.nm = b.nm ∧ a.attrs = b.attrs ∧ a.text = b.text ∧ SameL a.kids b.kids := by
  cases h with
  | mk r hr => exact ⟨rfl, rfl, rfl, r, rfl, rfl, hr⟩
end Go.Proofs.YthodmdfbahkflaaGreatDoor.Tree
namespace Go.Proofs.YthodmdfbahkflaaGreatDoor.Tree
open Go Go.Proofs.YthodmdfbahkflaaGreatDoor Go.Proofs.YthodmdfbahkflaaGreatDoor.Utf Go.Proofs.YthodmdfbahkflaaGreatDoor.Names Go.Proofs.YthodmdfbahkflaaGreatDoor.Ent Go.Proofs.YthodmdfbahkflaaGreatDoor.Tok Go.RowKit
set_option maxRecDepth 100000
mutual
/-- How many nodes there are. -/
def Node.size : Node → Nat
  | .mk _ _ _ ks _ => 1 + sizeL ks
def sizeL : List Node → Nat
  | [] => 0
  | n :: r => n.size + sizeL r
end
theorem size_kids (n : Node) : n.size = 1 + sizeL n.kids := by cases n; rfl
theorem Node.size_pos (n : Node) : 1 ≤ n.size := by rw [size_kids]; omega
theorem Kids.slice {w : World} {A : Nat → Prop} {v : Value} {l : List Node} (h : Kids w A v l) : ∃ o n c, v = .slice o n c := by
  obtain ⟨r, _, ⟨⟨a, c, h1, _⟩, _⟩, _⟩ := h
  exact ⟨_, _, _, h1⟩
/-- Two nodes that are to be held against each other. -/
structure Fr where
  b1 : Nat
  o1 : Nat
  b2 : Nat
  o2 : Nat
  n : Node
  m : Node
  av : Value
  kv : Value
  av2 : Value
  kv2 : Value
structure Fr.Ok (W0 : World) (f : Fr) : Prop where
  l : NodeAt W0 f.b1 f.o1 f.n f.av f.kv
  r : NodeAt W0 f.b2 f.o2 f.m f.av2 f.kv2
  same : SameN f.n f.m
theorem SameL.at {a b : List Node} (h : SameL a b) (i : Nat) (h1 : i < a.length) (h2 : i < b.length) : SameN a[i] b[i] := by
  obtain ⟨r, rfl, rfl, hr⟩ := h
  have hi : i < r.length := by simpa using h1
  simp only [List.getElem_map]
  exact hr _ (List.getElem_mem hi)
end Go.Proofs.YthodmdfbahkflaaGreatDoor.Tree
namespace Go.Proofs.YthodmdfbahkflaaGreatDoor.Tree
open Go Go.Proofs.YthodmdfbahkflaaGreatDoor Go.Proofs.YthodmdfbahkflaaGreatDoor.Utf Go.Proofs.YthodmdfbahkflaaGreatDoor.Names Go.Proofs.YthodmdfbahkflaaGreatDoor.Ent Go.Proofs.YthodmdfbahkflaaGreatDoor.Tok
set_option maxRecDepth 100000

/-- Small letters and digits. -/
def Low (l : List UInt8) : Prop := ∀ c ∈ l, (48 ≤ c.toNat ∧ c.toNat ≤ 57) ∨ (97 ≤ c.toNat ∧ c.toNat ≤ 122)
theorem low_fine {c : UInt8} (h : (48 ≤ c.toNat ∧ c.toNat ≤ 57) ∨ (97 ≤ c.toNat ∧ c.toNat ≤ 122)) : fine (c.toNat : Int) = true := by
  have := (List.all_eq_true.1 (show (List.range 256).all (fun n => !(decide (48 ≤ n ∧ n ≤ 57) || decide (97 ≤ n ∧ n ≤ 122)) || fine (n : Int)) = true by kernel_rfl)) c.toNat (List.mem_range.2 c.toNat_lt)
  rw [Bool.or_eq_true] at this
  rcases this with q | q
  · rcases h with h | h <;> simp [h] at q
  · exact q
theorem Low.ck : ∀ {l : List UInt8}, Low l → Ck l
  | [], _ => rfl
  | c :: l, h => Ck.cons (by have := h c (by simp); omega) (low_fine (h c (by simp))) (Low.ck (fun d hd => h d (by simp [hd])))
theorem Low.calm {l : List UInt8} (h : Low l) : calm l := by
  intro b hb
  have := h b hb
  refine ⟨?_, ?_, ?_, ?_, ?_⟩ <;> (rintro rfl; simp at this)
theorem Low.first {l : List UInt8} (h : Low l) (r : List UInt8) : firstAt 39 (l ++ 39 :: r) = some l.length := by
  refine firstAt_is (by simp) fun k hk e => ?_
  rw [List.getElem?_append_left hk] at e
  have := h 39 (List.mem_of_getElem? e)
  simp at this
theorem Low.value {l : List UInt8} (h : Low l) (r : List UInt8) : valueR (39 :: (l ++ 39 :: r)) = .ok l (l.length + 2) := by
  have ht : tell true l = (l, l.length, 0) := by
    have := tell_calm true l h.ck [] h.calm
    rw [List.append_nil] at this
    rw [this]
    simp [Ent.fin, tell_nil]
  unfold valueR
  simp only [h.first r]
  rw [if_pos (.inr trivial)]
  have e : (l ++ 39 :: r).take l.length = l := by simp
  rw [e, ht]
  simp
theorem Low.equal {l : List UInt8} (h : Low l) (r : List UInt8) : equalR (61 :: 39 :: (l ++ 39 :: r)) = .ok l (l.length + 3) := by
  have b1 : blanks (61 :: 39 :: (l ++ 39 :: r)) = 0 := blanks_none _ _ (by decide)
  have b2 : blanks (39 :: (l ++ 39 :: r)) = 0 := blanks_none _ _ (by decide)
  unfold equalR
  rw [b1]
  simp only [List.drop_zero, b2]
  rw [h.value r]
  simp only [Res.from]
  congr 1
  omega
theorem Low.att {seen : List (List UInt8)} {nm l : List UInt8} (h : Low l) (r : List UInt8) (h1 : splitO nm ≠ none) (h2 : seen.contains nm = false) :
    attrT seen (nm ++ 61 :: 39 :: (l ++ 39 :: r)) = .ok (nm, l) (nm.length + (l.length + 3)) := by
  unfold attrT
  rw [nameR_ok h1 61 (by simp) _]
  simp only [h2]
  have e : (nm ++ 61 :: 39 :: (l ++ 39 :: r)).drop nm.length = 61 :: 39 :: (l ++ 39 :: r) := by simp
  rw [e, h.equal r]
  simp
/-- What stands there is one token, whatever stands behind. -/
def Piece (b : List UInt8) (t : Int × List UInt8 × List (List UInt8 × List UInt8)) : Prop := b ≠ [] ∧ Ck b ∧ ∀ first r, ∃ t', oneR first (b ++ r) = .ok (some t') b.length ∧ t'.bare = t
/-- Pieces, one behind the other. -/
inductive Pieces : List UInt8 → List (Int × List UInt8 × List (List UInt8 × List UInt8)) → Prop
  | nil : Pieces [] []
  | cons {b r : List UInt8} {t : Int × List UInt8 × List (List UInt8 × List UInt8)} {ts : List (Int × List UInt8 × List (List UInt8 × List UInt8))} (h : Piece b t) (hr : Pieces r ts) : Pieces (b ++ r) (t :: ts)
theorem Pieces.toks {b : List UInt8} {ts : List (Int × List UInt8 × List (List UInt8 × List UInt8))} (h : Pieces b ts) : Ck b ∧ ∀ first, ∃ us k, Tok.toks first b = .ok us k ∧ us.map Tok.bare = ts := by
  induction h with
  | nil => exact ⟨rfl, fun first => ⟨[], 0, rfl, rfl⟩⟩
  | @cons b r t ts h hr ih =>
    refine ⟨h.2.1.append ih.1, fun first => ?_⟩
    obtain ⟨t', h1, h2⟩ := h.2.2 first r
    obtain ⟨us, k, h3, h4⟩ := ih.2 false
    rw [toks_step (by have := h.1; simp [this]) h1, List.drop_left, h3]
    exact ⟨_, _, rfl, by simp only [Option.toList_some, List.singleton_append, List.map_cons, bares_shift, h2, h4]⟩
theorem Pieces.tokens {b : List UInt8} {ts : List (Int × List UInt8 × List (List UInt8 × List UInt8))} (h : Pieces b ts) (hl : b.length ≤ 16777216) : ∃ us, Tok.tokens b = (us, b.length, 0) ∧ us.map Tok.bare = ts := by
  obtain ⟨hc, ht⟩ := h.toks
  obtain ⟨us, k, h1, h2⟩ := ht true
  rw [tokens_of hc hl, h1]
  exact ⟨us, rfl, h2⟩
end Go.Proofs.YthodmdfbahkflaaGreatDoor.Tree
namespace Go.Proofs.YthodmdfbahkflaaGreatDoor.Tree
open Go Go.Proofs.YthodmdfbahkflaaGreatDoor Go.Proofs.YthodmdfbahkflaaGreatDoor.Utf Go.Proofs.YthodmdfbahkflaaGreatDoor.Names Go.Proofs.YthodmdfbahkflaaGreatDoor.Ent Go.Proofs.YthodmdfbahkflaaGreatDoor.Tok
set_option maxRecDepth 100000
section
variable (s t : List UInt8)
variable {s t} (hs : Low s) (ht : Low t)
include hs in
end
end Go.Proofs.YthodmdfbahkflaaGreatDoor.Tree
namespace Go.Proofs.YthodmdfbahkflaaGreatDoor.Tree
open Go Go.Proofs.YthodmdfbahkflaaGreatDoor Go.Proofs.YthodmdfbahkflaaGreatDoor.Utf Go.Proofs.YthodmdfbahkflaaGreatDoor.Names Go.Proofs.YthodmdfbahkflaaGreatDoor.Ent Go.Proofs.YthodmdfbahkflaaGreatDoor.Tok Go.RowKit
set_option maxRecDepth 100000
end Go.Proofs.YthodmdfbahkflaaGreatDoor.Tree
