/- How arguments are read, further: an array of two texts. Over any program. | Layer 4: the writer, told by what it holds; contracts of put, checkName, text, closing, attribute. | Layer 4: the writer: contract of opening. | Layer 4: the writer: contract of token. | Layer 4: contract of Write. | Layer 4: the walk of the statement XmltokTags. -/
import Derived.Test.YthodmdfbahkflaaGreatDoorPk2
import Derived.Lib.SmallJoins
import Derived.Test.YthodmdfbahkflaaGreatDoorTkB
import Derived.Test.YthodmdfbahkflaaGreatDoorTkA
import Derived.Test.YthodmdfbahkflaaGreatDoorPk4
import Derived.Test.YthodmdfbahkflaaGreatDoorPk3
import Derived.Lib.AppendStr
import Derived.Test.YthodmdfbahkflaaGreatDoorTkG
set_option linter.unusedVariables false
set_option linter.unusedSimpArgs false
namespace Go.Proofs.YthodmdfbahkflaaGreatDoor
open Go Go.ChangeShapes Go.WideShapes Go.ChangeAt Go.RowKit

section
variable {H : Type} {enc : TypeId × Value → H} {P : Program} {W : World}

end
end Go.Proofs.YthodmdfbahkflaaGreatDoor
namespace Go.Proofs.YthodmdfbahkflaaGreatDoor.Tok
open Go Go.Proofs.YthodmdfbahkflaaGreatDoor Go.Proofs.YthodmdfbahkflaaGreatDoor.Utf Go.Proofs.YthodmdfbahkflaaGreatDoor.Names Go.Proofs.YthodmdfbahkflaaGreatDoor.Ent Go.RowKit
set_option maxRecDepth 100000

theorem lt_of_some {w : World} {k : Nat} {o : Obj} (h : w.heap[k]? = some o) : k < w.heap.size := by
  rcases Nat.lt_or_ge k w.heap.size with h' | h'
  · exact h'
  · simp [Array.getElem?_eq_none h'] at h
theorem lit_add' (p l : List UInt8) (a : Array UInt8) (ha : a.toList = p) : (⟨a⟩ : ByteArray) ++ text l = text (p ++ l) := by
  have e1 : (⟨a⟩ : ByteArray) = text p := by rw [← ha]; simp [text]
  rw [e1, text_append]
theorem add_lit' (p l : List UInt8) (a : Array UInt8) (ha : a.toList = p) : text l ++ (⟨a⟩ : ByteArray) = text (l ++ p) := by
  have e1 : (⟨a⟩ : ByteArray) = text p := by rw [← ha]; simp [text]
  rw [e1, text_append]
theorem splitE_ok {l : List UInt8} (h : splitO l ≠ none) : splitE l = 0 := by
  unfold splitE
  cases hs : splitO l with
  | none => exact absurd hs h
  | some p => rfl
theorem splitE_no {l : List UInt8} (h : splitO l = none) : splitE l = 6 := by unfold splitE; rw [h]; rfl

/-- Blocks that hold no bytes are as they were, but r. -/
structure Kw (r : Nat) (w w' : World) : Prop where
  os : w'.os = w.os
  tape : w'.tape = w.tape
  output : w'.output = w.output
  size : w.heap.size ≤ w'.heap.size
  block : ∀ k o, w.heap[k]? = some o → k ≠ r → (∀ cs fr, o ≠ .cells cs 5 fr) → w'.heap[k]? = some o
theorem owns_but {w w' : World} {B : Nat} {e : TypeId} {s : Nat} {v : Value} {n : Nat} {xs : List Value} (h : w.ownsRow B e s v n xs) (hg : ∀ g, v.ownBlock = some g → w'.heap[g]? = w.heap[g]?) : w'.ownsRow B e s v n xs := by
  obtain ⟨h1, h2⟩ := h
  refine ⟨h1, ?_⟩
  rcases h2 with h2 | ⟨g, cap, cur, hv, hb, hc, rest⟩
  · exact .inl h2
  · exact .inr ⟨g, cap, cur, hv, hb, by rw [hg g (by rw [hv]; rfl)]; exact hc, rest⟩
section
variable {W w w' : World} {r : Nat} {v v' : Value} {l m : List UInt8} {tx : Bool}
theorem Kw.of (h : Below w.heap.size w w') : Kw r w w' := ⟨h.os, h.tape, h.output, h.size, fun k o hk _ _ => (h.block k (lt_of_some hk)).trans hk⟩
theorem Kw.trans {a b c : World} (h : Kw r a b) (k : Kw r b c) : Kw r a c :=
  ⟨k.os.trans h.os, k.tape.trans h.tape, k.output.trans h.output, Nat.le_trans h.size k.size, fun i o hi hn ho => k.block i o (h.block i o hi hn ho) hn ho⟩
end
section
variable {W w : World} {r : Nat} {l : List UInt8} {tx : Bool}
set_option maxHeartbeats 4000000

end
end Go.Proofs.YthodmdfbahkflaaGreatDoor.Tok
namespace Go.Proofs.YthodmdfbahkflaaGreatDoor.Tok
open Go Go.Proofs.YthodmdfbahkflaaGreatDoor Go.Proofs.YthodmdfbahkflaaGreatDoor.Utf Go.Proofs.YthodmdfbahkflaaGreatDoor.Names Go.Proofs.YthodmdfbahkflaaGreatDoor.Ent Go.RowKit
set_option maxRecDepth 100000

/-- One attribute's bytes. -/
def attr1 (seen : List (List UInt8)) (p : Pr) : Res (List UInt8) :=
  if splitO p.name = none then .bad 0 6 else if seen.contains p.name = true then .bad 0 8 else if check p.value ≠ p.value.length then .bad 0 4 else .ok (32 :: (p.name ++ (61 :: 34 :: (esc true p.value ++ [34])))) 0
/-- Bytes ahead of others. -/
def joinW (b : List UInt8) : Res (List UInt8) → Res (List UInt8)
  | .bad i e => .bad i e
  | .ok s n => .ok (b ++ s) n
def costA : List Pr → Nat
  | [] => 0
  | p :: r => p.name.length + 6 * p.value.length + 4 + costA r
theorem joinW_nil (x : Res (List UInt8)) : joinW [] x = x := by cases x <;> rfl
theorem joinW_join (a b : List UInt8) (x : Res (List UInt8)) : joinW a (joinW b x) = joinW (a ++ b) x := by cases x <;> simp [joinW]
theorem attr1_bad {seen : List (List UInt8)} {p : Pr} {i e : Nat} (h : attr1 seen p = .bad i e) (r : List Pr) : attrsW seen (p :: r) = .bad 0 e ∧ e ≠ 0 := by
  unfold attr1 at h
  unfold attrsW
  split at h
  · rename_i h1; rw [if_pos h1]; cases h; exact ⟨rfl, by decide⟩
  · rename_i h1
    rw [if_neg h1]
    split at h
    · rename_i h2; rw [if_pos h2]; cases h; exact ⟨rfl, by decide⟩
    · rename_i h2
      rw [if_neg h2]
      split at h
      · rename_i h3; rw [if_pos h3]; cases h; exact ⟨rfl, by decide⟩
      · cases h
theorem attr1_ok {seen : List (List UInt8)} {p : Pr} {u : List UInt8} {n : Nat} (h : attr1 seen p = .ok u n) (r : List Pr) : attrsW seen (p :: r) = joinW u (attrsW (p.name :: seen) r) ∧ u.length ≤ p.name.length + 6 * p.value.length + 4 := by
  unfold attr1 at h
  rw [attrsW]
  split at h
  · cases h
  · rename_i h1
    rw [if_neg h1]
    split at h
    · cases h
    · rename_i h2
      rw [if_neg h2]
      split at h
      · cases h
      · rename_i h3
        rw [if_neg h3]
        injection h with h _
        subst h
        refine ⟨?_, ?_⟩
        · cases attrsW (p.name :: seen) r <;> simp [joinW]
        · have := esc_len true p.value
          simp
          omega
section
variable {W w : World} {r : Nat} {l : List UInt8} {tx : Bool}
set_option maxHeartbeats 4000000

end
end Go.Proofs.YthodmdfbahkflaaGreatDoor.Tok
namespace Go.Proofs.YthodmdfbahkflaaGreatDoor.Tok
open Go Go.Proofs.YthodmdfbahkflaaGreatDoor Go.Proofs.YthodmdfbahkflaaGreatDoor.Utf Go.Proofs.YthodmdfbahkflaaGreatDoor.Names Go.Proofs.YthodmdfbahkflaaGreatDoor.Ent Go.RowKit
set_option maxRecDepth 100000

section
variable {W w : World} {r : Nat} {l : List UInt8} {tx : Bool}
set_option maxHeartbeats 4000000
end
end Go.Proofs.YthodmdfbahkflaaGreatDoor.Tok
namespace Go.Proofs.YthodmdfbahkflaaGreatDoor.Tok
open Go Go.Proofs.YthodmdfbahkflaaGreatDoor Go.Proofs.YthodmdfbahkflaaGreatDoor.Utf Go.Proofs.YthodmdfbahkflaaGreatDoor.Names Go.Proofs.YthodmdfbahkflaaGreatDoor.Ent Go.RowKit
set_option maxRecDepth 100000

theorem underTw : Tryz.prog.underlying 22 = some (.slice 45) := Tryz.underlying22
theorem sizTw (W : World) : (sizeOf 45).run Tryz.prog W = .ok 4 W := Tryz.sizeOf45 W
def costT : List Tok → Nat
  | [] => 0
  | t :: r => 6 * t.s.length + costA t.attrs + 10 + costT r
/-- Bytes ahead, of i tokens. -/
def joinR (b : List UInt8) (i : Nat) : Res (List UInt8) → Res (List UInt8)
  | .bad j e => .bad (i + j) e
  | .ok s n => .ok (b ++ s) n
/-- What Write tells. -/
def outW : Res (List UInt8) → List UInt8 × Nat × Nat
  | .bad i e => ([], i, e)
  | .ok b _ => (b, 0, 0)
theorem joinR_nil (x : Res (List UInt8)) : joinR [] 0 x = x := by cases x <;> simp [joinR]
theorem joinR_join (a b : List UInt8) (i j : Nat) (x : Res (List UInt8)) : joinR a i (joinR b j x) = joinR (a ++ b) (i + j) x := by cases x <;> simp [joinR, Nat.add_assoc]
theorem wr_bad {ah : Int} {t : Tok} {i e : Nat} (h : tokW ah t = .bad i e) (r : List Tok) : wr ah (t :: r) = .bad 0 e := by unfold wr; rw [h]
theorem wr_ok {ah : Int} {t : Tok} {u : List UInt8} {n : Nat} (h : tokW ah t = .ok u n) (r : List Tok) : wr ah (t :: r) = joinR u 1 (wr t.kind r) := by
  rw [wr, h]
  cases wr t.kind r with
  | bad i e => simp [joinR, Nat.add_comm]
  | ok s m => rfl
theorem attrsW_bad : ∀ (ps : List Pr) (seen : List (List UInt8)) (i e : Nat), attrsW seen ps = .bad i e → e ≠ 0
  | [], _, _, _, h => by cases h
  | p :: r, seen, i, e, h => by
    cases h1 : attr1 seen p with
    | bad j x =>
      obtain ⟨e1, e2⟩ := attr1_bad h1 r
      rw [e1] at h
      injection h with _ h
      rw [← h]; exact e2
    | ok u n =>
      rw [(attr1_ok h1 r).1] at h
      cases h2 : attrsW (p.name :: seen) r with
      | bad j x =>
        rw [h2] at h
        unfold joinW at h
        injection h with _ h
        rw [← h]; exact attrsW_bad r _ _ _ h2
      | ok s m => rw [h2] at h; cases h
theorem attrsW_len : ∀ (ps : List Pr) (seen : List (List UInt8)) (b : List UInt8) (n : Nat), attrsW seen ps = .ok b n → b.length ≤ costA ps
  | [], _, _, _, h => by cases h; simp
  | p :: r, seen, b, n, h => by
    cases h1 : attr1 seen p with
    | bad j x => rw [(attr1_bad h1 r).1] at h; cases h
    | ok u k =>
      have hu := (attr1_ok h1 r).2
      rw [(attr1_ok h1 r).1] at h
      cases h2 : attrsW (p.name :: seen) r with
      | bad j x => rw [h2] at h; cases h
      | ok s m =>
        have ih := attrsW_len r _ _ _ h2
        rw [h2] at h
        unfold joinW at h
        injection h with h _
        subst h
        rw [List.length_append, costA]
        omega
theorem tokW_bad {ah : Int} {t : Tok} {i e : Nat} (h : tokW ah t = .bad i e) : e ≠ 0 := by
  unfold tokW at h
  split at h
  · cases h; decide
  · split at h
    · split at h
      · cases h; decide
      · split at h
        · cases h; decide
        · cases h
    · split at h
      · cases h; decide
      · split at h
        · split at h
          · cases h; decide
          · cases h
        · cases ha : attrsW [] t.attrs with
          | bad j x =>
            rw [ha] at h
            injection h with _ h
            rw [← h]
            exact attrsW_bad _ _ _ _ ha
          | ok b n => rw [ha] at h; cases h
theorem tokW_len {ah : Int} {t : Tok} {u : List UInt8} {n : Nat} (h : tokW ah t = .ok u n) : u.length ≤ 6 * t.s.length + costA t.attrs + 10 := by
  unfold tokW at h
  split at h
  · cases h
  · split at h
    · split at h
      · cases h
      · split at h
        · cases h
        · injection h with h _
          subst h
          have := esc_len false t.s
          omega
    · split at h
      · cases h
      · split at h
        · split at h
          · cases h
          · injection h with h _
            subst h
            simp
            omega
        · cases ha : attrsW [] t.attrs with
          | bad j x => rw [ha] at h; cases h
          | ok b m =>
            have := attrsW_len _ _ _ _ ha
            rw [ha] at h
            injection h with h _
            subst h
            split <;> simp <;> omega

/-- Lengths that a call takes. -/
def FitT (t : Tok) : Prop := t.s.length ≤ 1000000 ∧ t.attrs.length ≤ 1000000 ∧ ∀ p ∈ t.attrs, p.name.length ≤ 1000000 ∧ p.value.length ≤ 1000000
section
variable {W : World} {v : Value} {ts : List Tok}
set_option maxHeartbeats 4000000
end
end Go.Proofs.YthodmdfbahkflaaGreatDoor.Tok
namespace Go.Proofs.YthodmdfbahkflaaGreatDoor.Tok
open Go Go.Proofs.YthodmdfbahkflaaGreatDoor Go.Proofs.YthodmdfbahkflaaGreatDoor.Utf Go.Proofs.YthodmdfbahkflaaGreatDoor.Names Go.Proofs.YthodmdfbahkflaaGreatDoor.Ent Go.RowKit
set_option maxRecDepth 100000

end Go.Proofs.YthodmdfbahkflaaGreatDoor.Tok
