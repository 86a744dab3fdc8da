/- Layer 9: the walk of the statement ScopeAsks. | Layer 9: the iterators: slices.Values, that of no scope, and both. | Layer 9: the iterator of two rising rows: both. | Layer 9: rows out of iterators: AppendSeq and Collect; what makes the iterators. | Layer 9: contracts of within and With at any scope. | Layer 9: contract of Names; the statements' own names and same. | Layer 9: contracts of the document's own Right, of same, of great whatever comes, of Longest at no scope. | Layer 9: as many names as there may be. | Layer 9: the document's With, and the walk of the statement ScopeMakes. -/
import Derived.Test.YtkmdclfkmmlloaaGreatDoorXbS
import Derived.Test.YtkmdclfkmmlloaaGreatDoorRange4
import Derived.RangeFuncBox
import Derived.RangeFuncWrites
import Derived.Shelf.Abstract
import Derived.Shelf.AbstractIn
import Derived.Shelf.RegionOpen
import Derived.OwnWalkIn
import Derived.TacticsInMore
import Derived.LoopNIn
import Derived.LoopIn
import Derived.Maps.AppendAt
import Derived.Laws.Bits128
import Derived.Test.YtkmdclfkmmlloaaGreatDoorApp
set_option linter.unusedVariables false
set_option linter.unusedSimpArgs false
namespace Go.Proofs.YtkmdclfkmmlloaaGreatDoor.Sc
open Go Go.Proofs.YtkmdclfkmmlloaaGreatDoor Go.Proofs.YtkmdclfkmmlloaaGreatDoor.Utf Go.Proofs.YtkmdclfkmmlloaaGreatDoor.Names Go.RowKit
set_option maxRecDepth 100000

end Go.Proofs.YtkmdclfkmmlloaaGreatDoor.Sc
namespace Go.Proofs.YtkmdclfkmmlloaaGreatDoor.Sc
open Go Go.Proofs.YtkmdclfkmmlloaaGreatDoor Go.Proofs.YtkmdclfkmmlloaaGreatDoor.Utf Go.Proofs.YtkmdclfkmmlloaaGreatDoor.Names Go.RowKit Go.Shelf
set_option maxRecDepth 100000
attribute [local go_sem] Oper.semAt_some

/-- Two rising rows, rising. -/
def mrg : List (List UInt8) → List (List UInt8) → List (List UInt8)
  | [], own => own
  | x :: xs, own => own.takeWhile (fun y => Op.bytesLess y x) ++ x :: mrg xs (own.dropWhile (fun y => Op.bytesLess y x))
end Go.Proofs.YtkmdclfkmmlloaaGreatDoor.Sc
namespace Go.Proofs.YtkmdclfkmmlloaaGreatDoor.Sc
open Go Go.Proofs.YtkmdclfkmmlloaaGreatDoor Go.Proofs.YtkmdclfkmmlloaaGreatDoor.Utf Go.Proofs.YtkmdclfkmmlloaaGreatDoor.Names Go.RowKit Go.Shelf
set_option maxRecDepth 100000
attribute [local go_sem] Oper.semAt_some

/-- Between two rounds: what is told, t texts; what is left of the own ones, r. -/
structure Mid (D : Nat → Prop) (W : World) (lp : Nat) (M : List (List UInt8)) (J : Nat → World → Prop) (o r : List (List UInt8)) (t : Nat) (vr : Value) (A : World) : Prop where
  rest : Boxed A (W.heap.size + 1) 22 vr
  yld : Boxed A W.heap.size 83 (.func (.yield lp) #[] #[])
  row : StrsD D A vr r
  told : J t A
  left : M.drop t = mrg o r
  few : t ≤ M.length
  lies : Lies D W A
theorem Mid.le {D : Nat → Prop} {W : World} {lp : Nat} {M : List (List UInt8)} {J : Nat → World → Prop} {o r : List (List UInt8)} {t : Nat} {vr : Value} {A : World} (h : Mid D W lp M J o r t vr A) : W.heap.size + 2 ≤ A.heap.size := by
  have := (Array.getElem?_eq_some_iff.1 (show A.heap[W.heap.size + 1]? = some _ from h.rest)).1
  omega
theorem drop_head {α : Type} {l : List α} {t : Nat} {y : α} {r : List α} (h : l.drop t = y :: r) : l[t]? = some y ∧ l.drop (t + 1) = r ∧ t < l.length := by
  have hl : t < l.length := by
    rcases Nat.lt_or_ge t l.length with c | c
    · exact c
    · rw [List.drop_of_length_le c] at h; cases h
  rw [List.drop_eq_getElem_cons hl] at h
  injection h with h1 h2
  exact ⟨by rw [List.getElem?_eq_getElem hl, h1], h2, hl⟩

end Go.Proofs.YtkmdclfkmmlloaaGreatDoor.Sc
namespace Go.Proofs.YtkmdclfkmmlloaaGreatDoor.Sc
open Go Go.Proofs.YtkmdclfkmmlloaaGreatDoor Go.Proofs.YtkmdclfkmmlloaaGreatDoor.Utf Go.Proofs.YtkmdclfkmmlloaaGreatDoor.Names Go.RowKit Go.Shelf
set_option maxRecDepth 100000
attribute [local go_sem] Oper.semAt_some

/-- What a row that is gathered looks like between two rounds: k of the texts, in a block at hi or above. -/
structure Gath (w0 : World) (B hi : Nat) (xs : List (List UInt8)) (k : Nat) (v : Value) (A : World) : Prop where
  box : Boxed A B 22 v
  row : A.ownsRow hi 9 1 v k (strsOf (xs.take k))
  le : k ≤ xs.length
  bel : Below w0.heap.size w0 A
theorem Gath.lt {w0 : World} {B hi k : Nat} {xs : List (List UInt8)} {v : Value} {A : World} (h : Gath w0 B hi xs k v A) : B < A.heap.size := (Array.getElem?_eq_some_iff.1 (show A.heap[B]? = some _ from h.box)).1
/-- One more. -/
theorem Gath.push {w0 A w1 : World} {B hi k : Nat} {xs : List (List UInt8)} {v v' : Value} {x : List UInt8} {tmp : Obj} (h : Gath w0 B hi xs k v A) (hx : xs[k]? = some x) (hhi : hi ≤ A.heap.size) (hB : B < hi) (h0 : w0.heap.size ≤ B)
    (hown' : w1.ownsRow hi 9 1 v' (k + 1) (strsOf (xs.take k) ++ [.string (text x)])) (hgrow : (A.alloc tmp).grownBy w1 v.ownBlock) :
    Boxed w1 B 22 v ∧ Gath w0 B hi xs (k + 1) v' (w1.setCell ⟨B, 0, none⟩ v') ∧ A.heap.size ≤ (w1.setCell ⟨B, 0, none⟩ v').heap.size ∧ ∀ b, b < hi → b ≠ B → (w1.setCell ⟨B, 0, none⟩ v').heap[b]? = A.heap[b]? := by
  have hlt := h.lt
  have hkl := (List.getElem?_eq_some_iff.1 hx).1
  have far : ∀ b, b < hi → some b ≠ v.ownBlock := fun b hb e => by have := (h.row.lt b e.symm).1; omega
  have hv1 : Boxed w1 B 22 v := (hgrow.block B (by simp; omega) (far B hB)).trans (h.box.alloc tmp)
  have hsz : A.heap.size ≤ w1.heap.size := by have := hgrow.size; simp at this; omega
  have same : ∀ b, b < hi → b ≠ B → (w1.setCell ⟨B, 0, none⟩ v').heap[b]? = A.heap[b]? := fun b hb hne =>
    (Below.heap_setCell w1 ⟨B, 0, none⟩ _ b (by simpa using hne)).trans ((hgrow.block b (by simp; omega) (far b hb)).trans (Below.heap_alloc A tmp b (by omega)))
  refine ⟨hv1, ⟨hv1.set v', ?_, hkl, ?_⟩, by simpa using hsz, same⟩
  · rw [show strsOf (xs.take (k + 1)) = strsOf (xs.take k) ++ [.string (text x)] by rw [List.take_add_one, hx, strsOf_append]; rfl]
    exact hown'.kept (grownBy_setCell' w1 _ _) (.inr fun e => by have := (hown'.lt B e).1; omega)
  · have hb1 : Below w0.heap.size w0 w1 := (h.bel.alloc h.bel.size tmp).grown hgrow (by have := h.bel.size; simp; omega) (fun j e => by have := (h.row.lt _ e).1; omega)
    exact hb1.setCell (p := ⟨B, 0, none⟩) h0 v'
end Go.Proofs.YtkmdclfkmmlloaaGreatDoor.Sc
namespace Go.Proofs.YtkmdclfkmmlloaaGreatDoor.Sc
open Go Go.Proofs.YtkmdclfkmmlloaaGreatDoor Go.Proofs.YtkmdclfkmmlloaaGreatDoor.Utf Go.Proofs.YtkmdclfkmmlloaaGreatDoor.Names Go.RowKit
set_option maxRecDepth 100000

end Go.Proofs.YtkmdclfkmmlloaaGreatDoor.Sc
namespace Go.Proofs.YtkmdclfkmmlloaaGreatDoor.Sc
open Go Go.Proofs.YtkmdclfkmmlloaaGreatDoor Go.Proofs.YtkmdclfkmmlloaaGreatDoor.Utf Go.Proofs.YtkmdclfkmmlloaaGreatDoor.Names Go.RowKit Go.Shelf
set_option maxRecDepth 100000

/-- The names of a scope, told outermost first, merged. -/
def told : List (List (List UInt8)) → List (List UInt8)
  | [] => []
  | l :: ls => mrg (told ls) l
attribute [local go_sem] Oper.semAt_some
end Go.Proofs.YtkmdclfkmmlloaaGreatDoor.Sc
namespace Go.Proofs.YtkmdclfkmmlloaaGreatDoor.Sc
open Go Go.Proofs.YtkmdclfkmmlloaaGreatDoor Go.Proofs.YtkmdclfkmmlloaaGreatDoor.Utf Go.Proofs.YtkmdclfkmmlloaaGreatDoor.Names Go.RowKit
set_option maxRecDepth 100000

theorem RRight_any (x : List UInt8) (hx : x.length ≤ 2000000) (w : World) :
    Calls Tryz.prog 46 #[.string (text x)] w fun e w' => e = .returned (.bool (rightB x)) ∧ Below w.heap.size w w' := by
  have H := hid (fun W => RWords_any x hx W)
  have hr : rightB x = (wordsO x).isSome := rfl
  go_enter Tryz.func46, Tryz.ntmps46
  go_wp2_with (go_at_call 84; refine (H.out _).mono ?_; rintro e w1 ⟨v, rfl, hv, hb⟩)
  go_ret
  exact ⟨rfl, hb⟩
end Go.Proofs.YtkmdclfkmmlloaaGreatDoor.Sc
namespace Go.Proofs.YtkmdclfkmmlloaaGreatDoor.Sc
open Go Go.Proofs.YtkmdclfkmmlloaaGreatDoor Go.Proofs.YtkmdclfkmmlloaaGreatDoor.Utf Go.Proofs.YtkmdclfkmmlloaaGreatDoor.Names Go.RowKit
set_option maxRecDepth 100000

end Go.Proofs.YtkmdclfkmmlloaaGreatDoor.Sc
namespace Go.Proofs.YtkmdclfkmmlloaaGreatDoor.Sc
open Go Go.Proofs.YtkmdclfkmmlloaaGreatDoor Go.Proofs.YtkmdclfkmmlloaaGreatDoor.Utf Go.Proofs.YtkmdclfkmmlloaaGreatDoor.Names Go.RowKit
set_option maxRecDepth 100000

end Go.Proofs.YtkmdclfkmmlloaaGreatDoor.Sc
