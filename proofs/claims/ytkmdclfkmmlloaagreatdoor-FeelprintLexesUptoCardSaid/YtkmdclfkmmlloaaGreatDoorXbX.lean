/- Layer 10, mathematics that hangs on no program: expressions; how deep they are, and how many; what is left of a way through one. | Layer 10, mathematics that hangs on no program: which names are in scope where, which are lacking. | Layer 10: what is wrong with an expression. | Layer 10: what follows for expressions that are right. | Layer 10, mathematics: how great an expression is, as the document counts; how many names there can be; what stands in which scope by the document. | Layer 10, mathematics: the document's scopes of parts; right shapes; the document's Scoped is the way from the front. -/
import Derived.Test.YtkmdclfkmmlloaaGreatDoorXbS
import Derived.Test.YtkmdclfkmmlloaaGreatDoorXbM
import Derived.Test.YtkmdclfkmmlloaaGreatDoorXbN
import Derived.Test.YtkmdclfkmmlloaaGreatDoorXbU
set_option linter.unusedVariables false
set_option linter.unusedSimpArgs false
namespace Go.Proofs.YtkmdclfkmmlloaaGreatDoor.Xp
open Go Go.Proofs.YtkmdclfkmmlloaaGreatDoor Go.Proofs.YtkmdclfkmmlloaaGreatDoor.Sc

/-- An expression: its kind, S, Names and parts. -/
inductive Ex where
  | mk (kind : Int) (s : List UInt8) (nm : List (List UInt8)) (l : List Ex)
instance : Inhabited Ex := ⟨.mk 0 [] [] []⟩
def Ex.kind : Ex → Int | .mk k _ _ _ => k
def Ex.s : Ex → List UInt8 | .mk _ s _ _ => s
def Ex.nm : Ex → List (List UInt8) | .mk _ _ n _ => n
def Ex.l : Ex → List Ex | .mk _ _ _ l => l
theorem Ex.eta (e : Ex) : .mk e.kind e.s e.nm e.l = e := by cases e; rfl
theorem Ex.ext {a b : Ex} (h1 : a.kind = b.kind) (h2 : a.s = b.s) (h3 : a.nm = b.nm) (h4 : a.l = b.l) : a = b := by
  rw [← a.eta, ← b.eta, h1, h2, h3, h4]
mutual
/-- How many there are. -/
def Ex.size : Ex → Nat
  | .mk _ _ _ l => 1 + sizeL l
def sizeL : List Ex → Nat
  | [] => 0
  | e :: r => e.size + sizeL r
end
mutual
/-- How deep. -/
def Ex.depth : Ex → Nat
  | .mk _ _ _ l => 1 + depthL l
def depthL : List Ex → Nat
  | [] => 0
  | e :: r => max e.depth (depthL r)
end
theorem size_eq (e : Ex) : e.size = 1 + sizeL e.l := by cases e; rfl
theorem depth_eq (e : Ex) : e.depth = 1 + depthL e.l := by cases e; rfl
theorem Ex.size_pos (e : Ex) : 1 ≤ e.size := by rw [size_eq]; omega
theorem Ex.depth_pos (e : Ex) : 1 ≤ e.depth := by rw [depth_eq]; omega
theorem sizeL_app : ∀ a b : List Ex, sizeL (a ++ b) = sizeL a + sizeL b
  | [], b => by simp [sizeL]
  | e :: a, b => by simp only [List.cons_append, sizeL, sizeL_app a b]; omega
theorem sizeL_len : ∀ l : List Ex, l.length ≤ sizeL l
  | [] => by simp
  | e :: r => by have := sizeL_len r; have := e.size_pos; simp only [List.length_cons, sizeL]; omega
theorem sizeL_mem : ∀ {l : List Ex} {e : Ex}, e ∈ l → e.size ≤ sizeL l
  | [], e, h => by cases h
  | x :: l, e, h => by
    simp only [sizeL]
    rcases List.mem_cons.1 h with rfl | h
    · omega
    · have := sizeL_mem h; omega
theorem depthL_mem : ∀ {l : List Ex} {e : Ex}, e ∈ l → e.depth ≤ depthL l
  | [], e, h => by cases h
  | x :: l, e, h => by
    simp only [depthL]
    rcases List.mem_cons.1 h with rfl | h
    · omega
    · have := depthL_mem h; omega
mutual
theorem depth_le : ∀ e : Ex, e.depth ≤ e.size
  | .mk _ _ _ l => by have := depthL_le l; simp only [Ex.depth, Ex.size]; omega
theorem depthL_le : ∀ l : List Ex, depthL l ≤ sizeL l
  | [] => by simp [depthL, sizeL]
  | e :: r => by have := depth_le e; have := depthL_le r; simp only [depthL, sizeL]; omega
end
theorem sizeL_take (l : List Ex) (i : Nat) (h : i < l.length) : sizeL (l.take (i + 1)) = sizeL (l.take i) + l[i].size := by
  rw [List.take_succ_eq_append_getElem h, sizeL_app]; simp [sizeL]
theorem sizeL_take_le (l : List Ex) (i : Nat) : sizeL (l.take i) ≤ sizeL l := by
  have : sizeL l = sizeL (l.take i) + sizeL (l.drop i) := by rw [← sizeL_app, List.take_append_drop]
  omega

/- What is left of a way: the rows of parts, the innermost one first. -/
/-- The next one. -/
def pop : List (List Ex) → Option (List (List Ex) × Ex × List Ex)
  | [] => none
  | [] :: r => pop r
  | (x :: xs) :: r => some (r, x, xs)
def sizeS : List (List Ex) → Nat
  | [] => 0
  | l :: r => sizeL l + sizeS r
def depthS : List (List Ex) → Nat
  | [] => 0
  | l :: r => max (match l with | [] => 0 | _ :: _ => r.length + depthL l) (depthS r)
theorem pop_none : ∀ {r : List (List Ex)}, pop r = none → sizeS r = 0 ∧ depthS r = 0
  | [], _ => ⟨rfl, rfl⟩
  | [] :: r, h => by
    have := pop_none (r := r) h
    simp only [sizeS, sizeL, depthS]
    omega
  | (x :: xs) :: r, h => by cases h
theorem pop_some : ∀ {r q : List (List Ex)} {x : Ex} {xs : List Ex}, pop r = some (q, x, xs) → sizeS r = sizeS (x.l :: xs :: q) + 1 ∧ depthS r = max (q.length + 1) (depthS (x.l :: xs :: q)) ∧ q.length < r.length
  | [], _, _, _, h => by cases h
  | [] :: r, q, x, xs, h => by
    have := pop_some (r := r) h
    simp only [sizeS, sizeL, depthS, List.length_cons] at this ⊢
    omega
  | (y :: ys) :: r, q, x, xs, h => by
    simp only [pop, Option.some.injEq, Prod.mk.injEq] at h
    obtain ⟨rfl, rfl, rfl⟩ := h
    have h1 := size_eq y
    have h2 := depth_eq y
    refine ⟨by simp only [sizeS, sizeL]; omega, ?_, by simp⟩
    cases hl : y.l with
    | nil =>
      rw [hl] at h2
      simp only [depthL] at h2
      cases ys with
      | nil => simp only [depthS, depthL, List.length_cons]; omega
      | cons z zs => simp only [depthS, depthL, List.length_cons]; omega
    | cons a tl =>
      rw [hl] at h2
      cases ys with
      | nil => simp only [depthS, depthL, List.length_cons] at h2 ⊢; omega
      | cons z zs => simp only [depthS, depthL, List.length_cons] at h2 ⊢; omega
/-- Of two ways of one shape. -/
theorem pop_two : ∀ {r s : List (List Ex)}, r.map List.length = s.map List.length →
    (pop r = none ∧ pop s = none ∧ r = s) ∨ ∃ q x xs p y ys, pop r = some (q, x, xs) ∧ pop s = some (p, y, ys) ∧ q.map List.length = p.map List.length ∧ xs.length = ys.length ∧ (r = s ↔ q = p ∧ x = y ∧ xs = ys)
  | [], [], _ => .inl ⟨rfl, rfl, rfl⟩
  | [], _ :: _, h => by simp at h
  | _ :: _, [], h => by simp at h
  | [] :: r, [] :: s, h => by
    have h' : r.map List.length = s.map List.length := by simpa using h
    rcases pop_two h' with ⟨a, b, rfl⟩ | ⟨q, x, xs, p, y, ys, h1, h2, h3, h4, h5⟩
    · exact .inl ⟨a, b, rfl⟩
    · exact .inr ⟨q, x, xs, p, y, ys, h1, h2, h3, h4, by simpa using h5⟩
  | [] :: r, (y :: ys) :: s, h => by simp at h
  | (x :: xs) :: r, [] :: s, h => by simp at h
  | (x :: xs) :: r, (y :: ys) :: s, h => by
    simp only [List.map_cons, List.length_cons, List.cons.injEq] at h
    refine .inr ⟨r, x, xs, s, y, ys, rfl, rfl, h.2, by omega, ?_⟩
    simp only [List.cons.injEq]
    constructor
    · rintro ⟨⟨a, b⟩, c⟩; exact ⟨c, a, b⟩
    · rintro ⟨a, b, c⟩; exact ⟨⟨b, c⟩, a⟩
/-- The same, as far as can be told without a look into the parts. -/
def alikeP (x y : Ex) : Prop := x.kind = y.kind ∧ x.s = y.s ∧ x.nm = y.nm ∧ x.l.length = y.l.length
instance (x y : Ex) : Decidable (alikeP x y) := by unfold alikeP; infer_instance
theorem alike_eq {x y : Ex} (h : alikeP x y) : x = y ↔ x.l = y.l := ⟨fun e => e ▸ rfl, fun e => Ex.ext h.1 h.2.1 h.2.2.1 e⟩
theorem alike_of {x y : Ex} (h : x = y) : alikeP x y := by subst h; exact ⟨rfl, rfl, rfl, rfl⟩

end Go.Proofs.YtkmdclfkmmlloaaGreatDoor.Xp
namespace Go.Proofs.YtkmdclfkmmlloaaGreatDoor.Xp
open Go Go.Proofs.YtkmdclfkmmlloaaGreatDoor Go.Proofs.YtkmdclfkmmlloaaGreatDoor.Sc

/- Names that are met. -/
/-- How many different ones. -/
def few (B : List (List UInt8)) : Nat := (norm B).length
theorem norm_eq {a b : List (List UInt8)} (h : ∀ z, z ∈ a ↔ z ∈ b) : norm a = norm b :=
  Rise.unique (norm_facts a).1 (norm_facts b).1 fun z => by rw [(norm_facts a).2.1, (norm_facts b).2.1]; exact h z
theorem few_eq {a b : List (List UInt8)} (h : ∀ z, z ∈ a ↔ z ∈ b) : few a = few b := by unfold few; rw [norm_eq h]
theorem ins_len (x : List UInt8) : ∀ (l : List (List UInt8)), Rise l → (ins x l).length = if x ∈ l then l.length else l.length + 1
  | [], _ => by simp [ins]
  | y :: l, h => by
    have h' := List.pairwise_cons.1 h
    unfold ins
    by_cases e : x = y
    · rw [if_pos e, if_pos (by rw [e]; simp)]
    · rw [if_neg e]
      by_cases c : Op.bytesLess x y = true
      · rw [if_pos c]
        have hx : x ∉ y :: l := by
          intro hm
          rcases List.mem_cons.1 hm with hm | hm
          · exact e hm
          · have := h'.1 x hm
            rw [less_asymm c] at this; cases this
        rw [if_neg hx]; rfl
      · rw [if_neg c, List.length_cons, ins_len x l h'.2]
        by_cases hm : x ∈ l
        · rw [if_pos hm, if_pos (List.mem_cons_of_mem _ hm)]; rfl
        · rw [if_neg hm, if_neg (by simp [e, hm])]; rfl
theorem few_nil : few [] = 0 := by have := (norm_facts []).2.2; unfold few; simpa using this
theorem few_cons (x : List UInt8) (B : List (List UInt8)) : few (x :: B) = if x ∈ B then few B else few B + 1 := by
  obtain ⟨n1, n2, n3⟩ := norm_facts B
  have : norm (x :: B) = ins x (norm B) := Rise.unique (norm_facts _).1 (ins_rise x n1) fun z => by rw [(norm_facts _).2.1, ins_mem, n2, List.mem_cons]
  unfold few
  rw [this, ins_len x _ n1]
  by_cases h : x ∈ B
  · rw [if_pos ((n2 x).2 h), if_pos h]
  · rw [if_neg (fun c => h ((n2 x).1 c)), if_neg h]
theorem few_le (B : List (List UInt8)) : few B ≤ B.length := (norm_facts B).2.2
theorem few_mono : ∀ {a b : List (List UInt8)}, (∀ z ∈ a, z ∈ b) → few a ≤ few b := by
  intro a b h
  have : few b = few (a ++ b) := few_eq fun z => by rw [List.mem_append]; exact ⟨.inr, fun c => c.elim (h z) id⟩
  rw [this]
  clear this h
  induction b with
  | nil => rw [List.append_nil]; exact Nat.le_refl _
  | cons x b ih =>
    have : few (a ++ x :: b) = few (x :: (a ++ b)) := few_eq fun z => by simp only [List.mem_append, List.mem_cons]; constructor <;> (rintro (h | h | h) <;> simp [h])
    rw [this, few_cons]
    split <;> omega
theorem few_norm (B : List (List UInt8)) : few (norm B) = few B := few_eq (norm_facts B).2.1
theorem few_rise {l : List (List UInt8)} (h : Rise l) : few l = l.length := by
  have : norm l = l := Rise.unique (norm_facts l).1 h (norm_facts l).2.1
  unfold few; rw [this]
abbrev Nam := List UInt8
def item : Nam := [105, 116, 101, 109]
/-- What comes into scope ahead of a part. -/
def bro (k : Int) (s : Nam) (nm : List Nam) (i : Nat) : List Nam :=
  if k = 12 ∨ k = 13 ∨ k = 14 then (if i = 1 then [s] else [])
  else if k = 9 then (if i = 1 then [item] else [])
  else if k = 15 then (if i = 0 then nm else [])
  else if k = 17 then (if 0 < i then (nm.drop (i - 1)).take 1 else [])
  else []
/-- Those that aren't among N. -/
def off (N l : List Nam) : List Nam := l.filter fun x => !decide (x ∈ N)
theorem off_mem {N l : List Nam} {z : Nam} : z ∈ off N l ↔ z ∈ l ∧ z ∉ N := by simp [off, List.mem_filter]
theorem off_nil (l : List Nam) : off [] l = l := by simp [off]
theorem off_app (N a b : List Nam) : off N (a ++ b) = off N a ++ off N b := by simp [off]
mutual
/-- A way through an expression from the front: the first error; which names weren't in scope. -/
def rd (N : List Nam) (most ec : Int) : Ex → List Nam → List Nam → Int × List Nam
  | .mk k s nm l, B, F =>
    if k = 3 ∧ s ∉ B ∧ s ∉ N then (if ec = 0 then rdL N most ec k s nm l 0 B (s :: F) else (ec, s :: F)) else rdL N most ec k s nm l 0 B F
def rdL (N : List Nam) (most ec : Int) (k : Int) (s : Nam) (nm : List Nam) : List Ex → Nat → List Nam → List Nam → Int × List Nam
  | [], _, _, F => (0, F)
  | p :: ps, i, B, F =>
    if most < N.length + few (off N (bro k s nm i) ++ B) then (19, F)
    else if (rd N most ec p (off N (bro k s nm i) ++ B) F).1 = 0 then rdL N most ec k s nm ps (i + 1) (off N (bro k s nm i) ++ B) (rd N most ec p (off N (bro k s nm i) ++ B) F).2
    else rd N most ec p (off N (bro k s nm i) ++ B) F
end
mutual
/-- The names that must be in scope of it, but those of B. -/
def fr : Ex → List Nam → List Nam
  | .mk k s nm l, B => (if k = 3 ∧ s ∉ B then [s] else []) ++ frL k s nm l 0 B
def frL (k : Int) (s : Nam) (nm : List Nam) : List Ex → Nat → List Nam → List Nam
  | [], _, _ => []
  | p :: ps, i, B => fr p (bro k s nm i ++ B) ++ frL k s nm ps (i + 1) (bro k s nm i ++ B)
end
mutual
/-- All names that are brought. -/
def gv : Ex → List Nam
  | .mk k s nm l => gvL k s nm l 0
def gvL (k : Int) (s : Nam) (nm : List Nam) : List Ex → Nat → List Nam
  | [], _ => []
  | p :: ps, i => bro k s nm i ++ (gv p ++ gvL k s nm ps (i + 1))
end
theorem off_add {N B Bf a : List Nam} (h : ∀ z, z ∈ B ↔ z ∈ Bf ∧ z ∉ N) (z : Nam) : z ∈ off N a ++ B ↔ z ∈ a ++ Bf ∧ z ∉ N := by
  rw [List.mem_append, off_mem, h, List.mem_append]
  constructor
  · rintro (⟨h1, h2⟩ | ⟨h1, h2⟩)
    · exact ⟨.inl h1, h2⟩
    · exact ⟨.inr h1, h2⟩
  · rintro ⟨h1 | h1, h2⟩
    · exact .inl ⟨h1, h2⟩
    · exact .inr ⟨h1, h2⟩
theorem few_gv {N a b B : List Nam} {m : Int} (h : N.length + few (off N (a ++ b) ++ B) ≤ m) : N.length + few (off N b ++ (off N a ++ B)) ≤ m ∧ N.length + few (off N a ++ B) ≤ m := by
  have h1 : few (off N b ++ (off N a ++ B)) ≤ few (off N (a ++ b) ++ B) := few_mono fun z hz => by
    simp only [off_app, List.mem_append] at hz ⊢
    rcases hz with hz | hz | hz <;> simp [hz]
  have h2 : few (off N a ++ B) ≤ few (off N (a ++ b) ++ B) := few_mono fun z hz => by
    simp only [off_app, List.mem_append] at hz ⊢
    rcases hz with hz | hz <;> simp [hz]
  omega
theorem few_app {N a b B : List Nam} {m : Int} (h : N.length + few (off N (a ++ b) ++ B) ≤ m) : N.length + few (off N a ++ B) ≤ m ∧ N.length + few (off N b ++ B) ≤ m := by
  have h1 : few (off N b ++ B) ≤ few (off N (a ++ b) ++ B) := few_mono fun z hz => by
    simp only [off_app, List.mem_append] at hz ⊢
    rcases hz with hz | hz <;> simp [hz]
  have h2 : few (off N a ++ B) ≤ few (off N (a ++ b) ++ B) := few_mono fun z hz => by
    simp only [off_app, List.mem_append] at hz ⊢
    rcases hz with hz | hz <;> simp [hz]
  omega
mutual
/-- All are in scope. -/
theorem rd_in (N : List Nam) (most ec : Int) : ∀ (e : Ex) (B Bf F : List Nam), (∀ z, z ∈ B ↔ z ∈ Bf ∧ z ∉ N) → N.length + few (off N (gv e) ++ B) ≤ most → (∀ z ∈ fr e Bf, z ∈ N) → rd N most ec e B F = (0, F)
  | .mk k s nm l, B, Bf, F, hB, hm, hf => by
    simp only [fr, List.mem_append] at hf
    have hn : ¬ (k = 3 ∧ s ∉ B ∧ s ∉ N) := by
      rintro ⟨h1, h2, h3⟩
      by_cases hs : s ∈ Bf
      · exact h2 ((hB s).2 ⟨hs, h3⟩)
      · exact h3 (hf s (.inl (by rw [if_pos ⟨h1, hs⟩]; simp)))
    unfold rd
    rw [if_neg hn]
    exact rdL_in N most ec k s nm l 0 B Bf F hB (by simpa [gv] using hm) (fun z hz => hf z (.inr hz))
theorem rdL_in (N : List Nam) (most ec : Int) (k : Int) (s : Nam) (nm : List Nam) : ∀ (l : List Ex) (i : Nat) (B Bf F : List Nam), (∀ z, z ∈ B ↔ z ∈ Bf ∧ z ∉ N) → N.length + few (off N (gvL k s nm l i) ++ B) ≤ most → (∀ z ∈ frL k s nm l i Bf, z ∈ N) → rdL N most ec k s nm l i B F = (0, F)
  | [], i, B, Bf, F, hB, hm, hf => by simp [rdL]
  | p :: ps, i, B, Bf, F, hB, hm, hf => by
    simp only [gvL] at hm
    simp only [frL, List.mem_append] at hf
    obtain ⟨m1, m2⟩ := few_gv hm
    obtain ⟨m3, m4⟩ := few_app m1
    have hB' := off_add (a := bro k s nm i) hB
    have h1 := rd_in N most ec p _ _ F hB' m3 (fun z hz => hf z (.inl hz))
    unfold rdL
    rw [if_neg (by omega), h1, if_pos rfl]
    exact rdL_in N most ec k s nm ps (i + 1) _ _ F hB' m4 (fun z hz => hf z (.inr hz))
end
mutual
/-- One isn't in scope, and that is told. -/
theorem rd_out (N : List Nam) (most ec : Int) (hec : ec ≠ 0) : ∀ (e : Ex) (B Bf F : List Nam), (∀ z, z ∈ B ↔ z ∈ Bf ∧ z ∉ N) → N.length + few (off N (gv e) ++ B) ≤ most → (∃ z ∈ fr e Bf, z ∉ N) → (rd N most ec e B F).1 = ec
  | .mk k s nm l, B, Bf, F, hB, hm, hf => by
    obtain ⟨z, hz, hn⟩ := hf
    simp only [fr, List.mem_append] at hz
    unfold rd
    by_cases hc : k = 3 ∧ s ∉ B ∧ s ∉ N
    · rw [if_pos hc, if_neg hec]
    · rw [if_neg hc]
      refine rdL_out N most ec hec k s nm l 0 B Bf F hB (by simpa [gv] using hm) ⟨z, ?_, hn⟩
      rcases hz with hz | hz
      · split at hz
        · rename_i h
          obtain rfl : z = s := by simpa using hz
          exact absurd ⟨h.1, fun hb => h.2 ((hB z).1 hb).1, hn⟩ hc
        · cases hz
      · exact hz
theorem rdL_out (N : List Nam) (most ec : Int) (hec : ec ≠ 0) (k : Int) (s : Nam) (nm : List Nam) : ∀ (l : List Ex) (i : Nat) (B Bf F : List Nam), (∀ z, z ∈ B ↔ z ∈ Bf ∧ z ∉ N) → N.length + few (off N (gvL k s nm l i) ++ B) ≤ most → (∃ z ∈ frL k s nm l i Bf, z ∉ N) → (rdL N most ec k s nm l i B F).1 = ec
  | [], i, B, Bf, F, hB, hm, hf => by obtain ⟨z, hz, _⟩ := hf; simp [frL] at hz
  | p :: ps, i, B, Bf, F, hB, hm, hf => by
    simp only [gvL] at hm
    obtain ⟨m1, m2⟩ := few_gv hm
    obtain ⟨m3, m4⟩ := few_app m1
    have hB' := off_add (a := bro k s nm i) hB
    obtain ⟨z, hz, hn⟩ := hf
    simp only [frL, List.mem_append] at hz
    unfold rdL
    rw [if_neg (by omega)]
    by_cases hp : ∃ z ∈ fr p (bro k s nm i ++ Bf), z ∉ N
    · have h1 := rd_out N most ec hec p _ _ F hB' m3 hp
      rw [if_neg (by rw [h1]; exact hec)]
      exact h1
    · have hp' : ∀ z ∈ fr p (bro k s nm i ++ Bf), z ∈ N := fun y hy => Classical.byContradiction fun c => hp ⟨y, hy, c⟩
      rw [rd_in N most ec p _ _ F hB' m3 hp', if_pos rfl]
      refine rdL_out N most ec hec k s nm ps (i + 1) _ _ F hB' m4 ⟨z, ?_, hn⟩
      exact hz.elim (fun h => absurd ⟨z, h, hn⟩ hp) id
end
mutual
/-- Those that aren't in scope are noted. -/
theorem rd_all (N : List Nam) (most : Int) : ∀ (e : Ex) (B Bf F : List Nam), (∀ z, z ∈ B ↔ z ∈ Bf ∧ z ∉ N) → N.length + few (off N (gv e) ++ B) ≤ most → (rd N most 0 e B F).1 = 0 ∧ ∀ z, z ∈ (rd N most 0 e B F).2 ↔ z ∈ F ∨ (z ∈ fr e Bf ∧ z ∉ N)
  | .mk k s nm l, B, Bf, F, hB, hm => by
    unfold rd
    by_cases hc : k = 3 ∧ s ∉ B ∧ s ∉ N
    · rw [if_pos hc, if_pos rfl]
      obtain ⟨h1, h2⟩ := rdL_all N most k s nm l 0 B Bf (s :: F) hB (by simpa [gv] using hm)
      refine ⟨h1, fun z => ?_⟩
      have hs : s ∉ Bf := fun h => hc.2.1 ((hB s).2 ⟨h, hc.2.2⟩)
      rw [h2, fr, if_pos ⟨hc.1, hs⟩, List.mem_cons, List.mem_append, List.mem_singleton]
      constructor
      · rintro ((h | h) | ⟨h, hn⟩)
        · exact .inr ⟨.inl h, h ▸ hc.2.2⟩
        · exact .inl h
        · exact .inr ⟨.inr h, hn⟩
      · rintro (h | ⟨h | h, hn⟩)
        · exact .inl (.inr h)
        · exact .inl (.inl h)
        · exact .inr ⟨h, hn⟩
    · rw [if_neg hc]
      obtain ⟨h1, h2⟩ := rdL_all N most k s nm l 0 B Bf F hB (by simpa [gv] using hm)
      refine ⟨h1, fun z => ?_⟩
      rw [h2, fr, List.mem_append]
      constructor
      · rintro (h | ⟨h, hn⟩)
        · exact .inl h
        · exact .inr ⟨.inr h, hn⟩
      · rintro (h | ⟨h | h, hn⟩)
        · exact .inl h
        · split at h
          · rename_i q
            obtain rfl : z = s := by simpa using h
            exact absurd ⟨q.1, fun hb => q.2 ((hB z).1 hb).1, hn⟩ hc
          · cases h
        · exact .inr ⟨h, hn⟩
theorem rdL_all (N : List Nam) (most : Int) (k : Int) (s : Nam) (nm : List Nam) : ∀ (l : List Ex) (i : Nat) (B Bf F : List Nam), (∀ z, z ∈ B ↔ z ∈ Bf ∧ z ∉ N) → N.length + few (off N (gvL k s nm l i) ++ B) ≤ most → (rdL N most 0 k s nm l i B F).1 = 0 ∧ ∀ z, z ∈ (rdL N most 0 k s nm l i B F).2 ↔ z ∈ F ∨ (z ∈ frL k s nm l i Bf ∧ z ∉ N)
  | [], i, B, Bf, F, hB, hm => by simp [rdL, frL]
  | p :: ps, i, B, Bf, F, hB, hm => by
    simp only [gvL] at hm
    obtain ⟨m1, m2⟩ := few_gv hm
    obtain ⟨m3, m4⟩ := few_app m1
    have hB' := off_add (a := bro k s nm i) hB
    obtain ⟨h1, h2⟩ := rd_all N most p _ _ F hB' m3
    obtain ⟨h3, h4⟩ := rdL_all N most k s nm ps (i + 1) _ _ (rd N most 0 p (off N (bro k s nm i) ++ B) F).2 hB' m4
    unfold rdL
    rw [if_neg (by omega), if_pos h1]
    refine ⟨h3, fun z => ?_⟩
    rw [h4, h2, frL, List.mem_append]
    constructor
    · rintro ((h | ⟨h, hn⟩) | ⟨h, hn⟩)
      · exact .inl h
      · exact .inr ⟨.inl h, hn⟩
      · exact .inr ⟨.inr h, hn⟩
    · rintro (h | ⟨h | h, hn⟩)
      · exact .inl (.inl h)
      · exact .inl (.inr ⟨h, hn⟩)
      · exact .inr ⟨h, hn⟩
end
end Go.Proofs.YtkmdclfkmmlloaaGreatDoor.Xp
namespace Go.Proofs.YtkmdclfkmmlloaaGreatDoor.Xp
open Go Go.Proofs.YtkmdclfkmmlloaaGreatDoor Go.Proofs.YtkmdclfkmmlloaaGreatDoor.Sc Go.Proofs.YtkmdclfkmmlloaaGreatDoor.Names
set_option maxRecDepth 100000

/-- The text of a number that was read. -/
def textN (v : Nam × Nat) : Nam := if Num.checkE v.1 (v.2 : Int) = 0 then Num.textV (Num.canon v.1 (v.2 : Int).toNat) else []
/-- Is it the text of a number's one form? -/
def formB (s : Nam) : Bool :=
  let r := if s.take 2 = [48, 46] then s.drop 1 else s
  decide (Num.readE r = 0 ∧ textN (Num.readV r) = s)
def consts : List Nam := [[116, 114, 117, 101], [102, 97, 108, 115, 101], [110, 117, 108, 108]]
def bins : List Nam := [[111, 114], [97, 110, 100], [61], [33, 61], [60], [60, 61], [62], [62, 61], [43], [45], [42], [47], [42, 42]]
def spans : List Nam := [[91, 93], [91, 41], [40, 93], [40, 41]]
def tests : List Nam := [[60], [60, 61], [62], [62, 61]]
/-- May a kind have so many parts? -/
def partsOk (k : Int) (n : Nat) : Bool :=
  if k = 0 ∨ k = 1 ∨ k = 2 ∨ k = 3 then n == 0
  else if k = 4 ∨ k = 8 ∨ k = 15 ∨ k = 19 then n == 1
  else if k = 5 ∨ k = 7 ∨ k = 9 ∨ k = 12 ∨ k = 13 ∨ k = 14 ∨ k = 18 then n == 2
  else if k = 6 ∨ k = 11 then n == 3
  else if k = 10 then decide (0 < n)
  else true
def namesOk (k : Int) (m n : Nat) : Bool := if k = 15 then true else if k = 17 then m == n else m == 0
def named (k : Int) : Bool := decide (k = 3 ∨ k = 8 ∨ k = 12 ∨ k = 13 ∨ k = 14)
/-- What is wrong with S. -/
def txt (k : Int) (s : Nam) : Int :=
  if k = 0 then (if formB s then 0 else 17)
  else if k = 1 then Utf.checkE s
  else if k = 2 then (if s ∈ consts then 0 else 17)
  else if k = 5 then (if s ∈ bins then 0 else 17)
  else if k = 18 then (if s ∈ spans then 0 else 17)
  else if k = 19 then (if s ∈ tests then 0 else 17)
  else if named k then (if rightB s then 0 else 6)
  else (if s = [] then 0 else 17)
def namesE (nm : List Nam) : Int := if nm.all rightB = false then 6 else if nm.Nodup then 0 else 8
def kindOk (k : Int) : Bool := decide (0 ≤ k ∧ k ≤ 19)
/-- What is wrong with it, without a look into its parts. -/
def alone (k : Int) (s : Nam) (nm : List Nam) (n : Nat) (t : Bool) : Int :=
  if kindOk k = false then 2
  else if (partsOk k n && namesOk k nm.length n) = false then 17
  else if k = 19 ∧ t = false then 17
  else if txt k s ≠ 0 then txt k s
  else namesE nm
mutual
def chk : Ex → Bool → Int
  | .mk k s nm l, t => if alone k s nm l.length t ≠ 0 then alone k s nm l.length t else chkL k l 0
def chkL (k : Int) : List Ex → Nat → Int
  | [], _ => 0
  | p :: ps, i => if chk p (decide (k = 7 ∧ i = 1)) ≠ 0 then chk p (decide (k = 7 ∧ i = 1)) else chkL k ps (i + 1)
end
/-- What Check tells. -/
def checkV (e : Ex) : Int := if 200 < e.depth then 9 else chk e true
/-- Letters, names and expressions. -/
def namesMass (l : List Nam) : Nat := (l.map fun s => 1 + s.length).sum
mutual
def Ex.mass : Ex → Nat
  | .mk _ s nm l => 1 + s.length + namesMass nm + massL l
def massL : List Ex → Nat
  | [] => 0
  | e :: r => e.mass + massL r
end
theorem mass_eq (e : Ex) : e.mass = 1 + e.s.length + namesMass e.nm + massL e.l := by cases e; rfl
theorem namesMass_cons (x : Nam) (l : List Nam) : namesMass (x :: l) = 1 + x.length + namesMass l := by simp [namesMass]
theorem namesMass_len : ∀ l : List Nam, l.length ≤ namesMass l
  | [] => by simp
  | x :: l => by have := namesMass_len l; rw [namesMass_cons, List.length_cons]; omega
theorem namesMass_mem : ∀ {l : List Nam} {x : Nam}, x ∈ l → x.length + 1 ≤ namesMass l
  | [], x, h => by cases h
  | y :: l, x, h => by
    rw [namesMass_cons]
    rcases List.mem_cons.1 h with rfl | h
    · omega
    · have := namesMass_mem h; omega
theorem massL_mem : ∀ {l : List Ex} {e : Ex}, e ∈ l → e.mass ≤ massL l
  | [], e, h => by cases h
  | x :: l, e, h => by
    simp only [massL]
    rcases List.mem_cons.1 h with rfl | h
    · omega
    · have := massL_mem h; omega
mutual
theorem size_mass : ∀ e : Ex, e.size ≤ e.mass
  | .mk _ _ _ l => by have := sizeL_mass l; simp only [Ex.size, Ex.mass]; omega
theorem sizeL_mass : ∀ l : List Ex, sizeL l ≤ massL l
  | [] => by simp [sizeL, massL]
  | e :: r => by have := size_mass e; have := sizeL_mass r; simp only [sizeL, massL]; omega
end
end Go.Proofs.YtkmdclfkmmlloaaGreatDoor.Xp
namespace Go.Proofs.YtkmdclfkmmlloaaGreatDoor.Xp
open Go Go.Proofs.YtkmdclfkmmlloaaGreatDoor Go.Proofs.YtkmdclfkmmlloaaGreatDoor.Sc Go.Proofs.YtkmdclfkmmlloaaGreatDoor.Names
set_option maxRecDepth 100000

theorem chk_mk (k : Int) (s : Nam) (nm : List Nam) (l : List Ex) (t : Bool) : chk (.mk k s nm l) t = if alone k s nm l.length t ≠ 0 then alone k s nm l.length t else chkL k l 0 := by rw [chk]
theorem chkL_cons (k : Int) (p : Ex) (ps : List Ex) (i : Nat) : chkL k (p :: ps) i = if chk p (decide (k = 7 ∧ i = 1)) ≠ 0 then chk p (decide (k = 7 ∧ i = 1)) else chkL k ps (i + 1) := by rw [chkL]
theorem chkL_zero (k : Int) : ∀ (l : List Ex) (i : Nat), chkL k l i = 0 ↔ ∀ j (h : j < l.length), chk l[j] (decide (k = 7 ∧ i + j = 1)) = 0
  | [], i => by simp [chkL]
  | p :: ps, i => by
    rw [chkL_cons]
    have hs : (∀ j (h : j < (p :: ps).length), chk (p :: ps)[j] (decide (k = 7 ∧ i + j = 1)) = 0) ↔ chk p (decide (k = 7 ∧ i = 1)) = 0 ∧ ∀ j (h : j < ps.length), chk ps[j] (decide (k = 7 ∧ i + 1 + j = 1)) = 0 := by
      constructor
      · intro g
        refine ⟨g 0 (by simp), fun j hj => ?_⟩
        have := g (j + 1) (by simpa using hj)
        rw [show i + (j + 1) = i + 1 + j by omega] at this
        exact this
      · rintro ⟨g0, g⟩ j hj
        cases j with
        | zero => exact g0
        | succ j =>
          have := g j (by simpa using hj)
          rw [show i + 1 + j = i + (j + 1) by omega] at this
          exact this
    rw [hs]
    by_cases h : chk p (decide (k = 7 ∧ i = 1)) = 0
    · rw [if_neg (by simpa using h), chkL_zero k ps (i + 1)]
      exact ⟨fun g => ⟨h, g⟩, fun g => g.2⟩
    · rw [if_pos h]
      exact ⟨fun g => absurd g h, fun g => absurd g.1 h⟩
theorem chk_zero (e : Ex) (t : Bool) : chk e t = 0 ↔ alone e.kind e.s e.nm e.l.length t = 0 ∧ ∀ j (h : j < e.l.length), chk e.l[j] (decide (e.kind = 7 ∧ j = 1)) = 0 := by
  obtain ⟨k, s, nm, l⟩ := e
  rw [chk_mk]
  simp only [Ex.kind, Ex.s, Ex.nm, Ex.l]
  have h0 := chkL_zero k l 0
  simp only [Nat.zero_add] at h0
  by_cases h : alone k s nm l.length t = 0
  · rw [if_neg (by simpa using h), h0]
    exact ⟨fun g => ⟨h, g⟩, fun g => g.2⟩
  · rw [if_pos h]
    exact ⟨fun g => absurd g h, fun g => absurd g.1 h⟩
theorem alone_zero {k : Int} {s : Nam} {nm : List Nam} {n : Nat} {t : Bool} : alone k s nm n t = 0 ↔ kindOk k = true ∧ partsOk k n = true ∧ namesOk k nm.length n = true ∧ (k = 19 → t = true) ∧ txt k s = 0 ∧ namesE nm = 0 := by
  unfold alone
  cases h1 : kindOk k with
  | false => simp
  | true =>
    cases h2 : partsOk k n with
    | false => simp
    | true =>
      cases h3 : namesOk k nm.length n with
      | false => simp
      | true =>
        by_cases h4 : k = 19 ∧ t = false
        · simp [h4]
        · by_cases h5 : txt k s = 0
          · have h6 : k = 19 → t = true := fun e => by
              cases t
              · exact absurd ⟨e, rfl⟩ h4
              · rfl
            simp only [h4, h5, if_false, ne_eq, not_true, Bool.and_self, Bool.true_eq_false, true_and]
            exact ⟨fun g => ⟨h6, g⟩, fun g => g.2⟩
          · simp [h4, h5]
theorem alone_test {k : Int} {s : Nam} {nm : List Nam} {n : Nat} {t : Bool} (h : alone k s nm n t = 0) : alone k s nm n true = 0 := by
  rw [alone_zero] at h ⊢
  exact ⟨h.1, h.2.1, h.2.2.1, fun _ => rfl, h.2.2.2.2⟩
theorem chk_test {e : Ex} {t : Bool} (h : chk e t = 0) : chk e true = 0 := by
  rw [chk_zero] at h ⊢
  exact ⟨alone_test h.1, h.2⟩
theorem alone_any {k : Int} (hk : k ≠ 19) (s : Nam) (nm : List Nam) (n : Nat) (t u : Bool) : alone k s nm n t = alone k s nm n u := by
  unfold alone; simp [hk]
theorem chk_any {e : Ex} (hk : e.kind ≠ 19) (t u : Bool) : chk e t = chk e u := by
  obtain ⟨k, s, nm, l⟩ := e
  rw [chk_mk, chk_mk, alone_any (k := k) hk s nm l.length t u]
theorem checkV_zero {e : Ex} : checkV e = 0 ↔ e.depth ≤ 200 ∧ chk e true = 0 := by
  unfold checkV
  by_cases h : 200 < e.depth
  · rw [if_pos h]; simp; omega
  · rw [if_neg h]; exact ⟨fun g => ⟨by omega, g⟩, fun g => g.2⟩
/-- A right expression's parts are right, and less deep. -/
theorem checkV_part {e : Ex} (h : checkV e = 0) {p : Ex} (hp : p ∈ e.l) : checkV p = 0 ∧ p.depth < e.depth := by
  rw [checkV_zero] at h
  obtain ⟨j, hj, rfl⟩ := List.mem_iff_getElem.1 hp
  have h1 := ((chk_zero e true).1 h.2).2 j hj
  have h2 := depthL_mem hp
  have h3 := depth_eq e
  exact ⟨checkV_zero.2 ⟨by omega, chk_test h1⟩, by omega⟩
theorem namesE_zero {nm : List Nam} : namesE nm = 0 ↔ nm.all rightB = true ∧ nm.Nodup := by
  unfold namesE
  cases h : nm.all rightB with
  | false => simp
  | true => by_cases g : nm.Nodup <;> simp [g]

/- Names that are lacking. -/
mutual
theorem fr_mono : ∀ (e : Ex) (B C : List Nam), (∀ z ∈ B, z ∈ C) → ∀ z, z ∈ fr e C → z ∈ fr e B
  | .mk k s nm l, B, C, h, z, hz => by
    simp only [fr, List.mem_append] at hz ⊢
    rcases hz with hz | hz
    · split at hz
      · rename_i c
        rw [if_pos ⟨c.1, fun g => c.2 (h s g)⟩]
        exact .inl hz
      · cases hz
    · exact .inr (frL_mono k s nm l 0 B C h z hz)
theorem frL_mono (k : Int) (s : Nam) (nm : List Nam) : ∀ (l : List Ex) (i : Nat) (B C : List Nam), (∀ z ∈ B, z ∈ C) → ∀ z, z ∈ frL k s nm l i C → z ∈ frL k s nm l i B
  | [], i, B, C, h, z, hz => by simp [frL] at hz
  | p :: ps, i, B, C, h, z, hz => by
    simp only [frL, List.mem_append] at hz ⊢
    have h' : ∀ z ∈ bro k s nm i ++ B, z ∈ bro k s nm i ++ C := fun y hy => by
      rw [List.mem_append] at hy ⊢
      exact hy.imp id (h y)
    exact hz.imp (fr_mono p _ _ h' z) (frL_mono k s nm ps (i + 1) _ _ h' z)
end
mutual
/-- What is lacking without B is lacking with B, or one of B. -/
theorem fr_split : ∀ (e : Ex) (B C : List Nam) (z : Nam), z ∈ fr e C → z ∈ fr e (B ++ C) ∨ z ∈ B
  | .mk k s nm l, B, C, z, hz => by
    simp only [fr, List.mem_append] at hz ⊢
    rcases hz with hz | hz
    · split at hz
      · rename_i c
        obtain rfl : z = s := by simpa using hz
        by_cases hb : z ∈ B
        · exact .inr hb
        · rw [if_pos ⟨c.1, by simp [hb, c.2]⟩]; exact .inl (.inl (by simp))
      · cases hz
    · exact (frL_split k s nm l 0 B C z hz).imp .inr id
theorem frL_split (k : Int) (s : Nam) (nm : List Nam) : ∀ (l : List Ex) (i : Nat) (B C : List Nam) (z : Nam), z ∈ frL k s nm l i C → z ∈ frL k s nm l i (B ++ C) ∨ z ∈ B
  | [], i, B, C, z, hz => by simp [frL] at hz
  | p :: ps, i, B, C, z, hz => by
    simp only [frL, List.mem_append] at hz ⊢
    have hc : ∀ y ∈ bro k s nm i ++ (B ++ C), y ∈ B ++ (bro k s nm i ++ C) := fun y hy => by
      simp only [List.mem_append] at hy ⊢
      rcases hy with h | h | h <;> simp [h]
    have hc' : ∀ y ∈ B ++ (bro k s nm i ++ C), y ∈ bro k s nm i ++ (B ++ C) := fun y hy => by
      simp only [List.mem_append] at hy ⊢
      rcases hy with h | h | h <;> simp [h]
    rcases hz with hz | hz
    · rcases fr_split p B (bro k s nm i ++ C) z hz with h | h
      · exact .inl (.inl (fr_mono p _ _ hc z h))
      · exact .inr h
    · rcases frL_split k s nm ps (i + 1) B (bro k s nm i ++ C) z hz with h | h
      · exact .inl (.inr (frL_mono k s nm ps (i + 1) _ _ hc z h))
      · exact .inr h
end
theorem fr_same {e : Ex} {B C : List Nam} (h : ∀ z, z ∈ B ↔ z ∈ C) (z : Nam) : z ∈ fr e B ↔ z ∈ fr e C :=
  ⟨fr_mono e C B (fun y hy => (h y).2 hy) z, fr_mono e B C (fun y hy => (h y).1 hy) z⟩
/-- What is brought ahead of the first parts. -/
def brs (k : Int) (s : Nam) (nm : List Nam) : Nat → Nat → List Nam
  | i, 0 => bro k s nm i
  | i, j + 1 => brs k s nm (i + 1) j ++ bro k s nm i
theorem frL_part (k : Int) (s : Nam) (nm : List Nam) : ∀ (l : List Ex) (i : Nat) (B : List Nam) (j : Nat) (h : j < l.length) (z : Nam), z ∈ fr l[j] (brs k s nm i j ++ B) → z ∈ frL k s nm l i B
  | [], i, B, j, h, z, hz => by simp at h
  | p :: ps, i, B, 0, h, z, hz => by
    simp only [frL, List.mem_append]
    exact .inl hz
  | p :: ps, i, B, j + 1, h, z, hz => by
    simp only [frL, List.mem_append]
    refine .inr (frL_part k s nm ps (i + 1) _ j (by simpa using h) z ?_)
    simp only [brs, List.append_assoc] at hz
    simpa using hz
/-- What a part needs the whole needs, or gives it. -/
theorem fr_part {e : Ex} {j : Nat} (h : j < e.l.length) {z : Nam} (hz : z ∈ fr e.l[j] []) : z ∈ fr e [] ∨ z ∈ brs e.kind e.s e.nm 0 j := by
  obtain ⟨k, s, nm, l⟩ := e
  simp only [Ex.kind, Ex.s, Ex.nm, Ex.l] at *
  rcases fr_split l[j] (brs k s nm 0 j) [] z hz with g | g
  · refine .inl ?_
    simp only [fr, List.mem_append]
    exact .inr (frL_part k s nm l 0 [] j h z g)
  · exact .inr g
end Go.Proofs.YtkmdclfkmmlloaaGreatDoor.Xp
namespace Go.Proofs.YtkmdclfkmmlloaaGreatDoor.Xp
open Go Go.Proofs.YtkmdclfkmmlloaaGreatDoor Go.Proofs.YtkmdclfkmmlloaaGreatDoor.Sc Go.Proofs.YtkmdclfkmmlloaaGreatDoor.Names
set_option maxRecDepth 100000

mutual
/-- Weights of all, o of each alone. -/
def Ex.wgt (o : Nam → List Nam → Nat) : Ex → Nat
  | .mk _ s nm l => o s nm + wgtL o l
def wgtL (o : Nam → List Nam → Nat) : List Ex → Nat
  | [] => 0
  | e :: r => e.wgt o + wgtL o r
end
def one1 (_ : Nam) (_ : List Nam) : Nat := 1
def lets (s : Nam) (nm : List Nam) : Nat := s.length + namesMass nm
mutual
theorem wgt_size : ∀ e : Ex, e.wgt one1 = e.size
  | .mk _ _ _ l => by simp only [Ex.wgt, Ex.size, one1, wgtL_size l]
theorem wgtL_size : ∀ l : List Ex, wgtL one1 l = sizeL l
  | [] => rfl
  | e :: r => by simp only [wgtL, sizeL, wgt_size e, wgtL_size r]
end
mutual
theorem wgt_mass : ∀ e : Ex, e.mass = e.size + e.wgt lets
  | .mk _ s nm l => by
    have := wgtL_mass l
    simp only [Ex.wgt, Ex.size, Ex.mass, lets]
    omega
theorem wgtL_mass : ∀ l : List Ex, massL l = sizeL l + wgtL lets l
  | [] => rfl
  | e :: r => by
    have h1 := wgt_mass e
    have h2 := wgtL_mass r
    simp only [wgtL, sizeL, massL]
    omega
end
theorem wgtL_take (o : Nam → List Nam → Nat) : ∀ (l : List Ex) (i : Nat) (h : i < l.length), wgtL o (l.take (i + 1)) = wgtL o (l.take i) + l[i].wgt o
  | [], i, h => by simp at h
  | e :: r, 0, h => by simp [wgtL]
  | e :: r, i + 1, h => by
    have := wgtL_take o r i (by simpa using h)
    simp only [List.take_succ_cons, wgtL, List.getElem_cons_succ]
    omega
theorem wgtL_le (o : Nam → List Nam → Nat) : ∀ (l : List Ex) (i : Nat), wgtL o (l.take i) ≤ wgtL o l
  | [], i => by simp [wgtL]
  | e :: r, 0 => by simp [wgtL]
  | e :: r, i + 1 => by
    have := wgtL_le o r i
    simp only [List.take_succ_cons, wgtL]
    omega
mutual
/-- What Count and Bytes tell. -/
def cnt (o : Nam → List Nam → Nat) : Ex → Int → Int
  | .mk _ s nm l, most => cntL o l most (o s nm)
def cntL (o : Nam → List Nam → Nat) : List Ex → Int → Int → Int
  | [], _, k => k
  | n :: r, most, k => if k ≤ most then cntL o r most (k + cnt o n (most - k)) else k
end
mutual
theorem cnt_le (o : Nam → List Nam → Nat) : ∀ (n : Ex) (most : Int), 0 ≤ cnt o n most ∧ cnt o n most ≤ n.wgt o
  | .mk p s nm l, most => by
    have := cntL_le o l most (o s nm) (by omega)
    simp only [cnt, Ex.wgt]
    omega
theorem cntL_le (o : Nam → List Nam → Nat) : ∀ (l : List Ex) (most k : Int), 0 ≤ k → k ≤ cntL o l most k ∧ cntL o l most k ≤ k + wgtL o l
  | [], most, k, h => by simp [cntL, wgtL]
  | n :: r, most, k, h => by
    unfold cntL
    split
    · have h1 := cnt_le o n (most - k)
      have h2 := cntL_le o r most (k + cnt o n (most - k)) (by omega)
      simp only [wgtL]
      omega
    · simp only [wgtL]; omega
end
mutual
theorem cnt_all (o : Nam → List Nam → Nat) : ∀ (n : Ex) (most : Int), (n.wgt o : Int) ≤ most → cnt o n most = n.wgt o
  | .mk p s nm l, most, h => by
    simp only [cnt, Ex.wgt] at h ⊢
    have := cntL_all o l most (o s nm) (by omega)
    omega
theorem cntL_all (o : Nam → List Nam → Nat) : ∀ (l : List Ex) (most k : Int), k + wgtL o l ≤ most → cntL o l most k = k + wgtL o l
  | [], most, k, h => by simp [cntL, wgtL]
  | n :: r, most, k, h => by
    simp only [wgtL] at h ⊢
    unfold cntL
    rw [if_pos (by omega), cnt_all o n (most - k) (by omega), cntL_all o r most _ (by omega)]
    omega
end
mutual
theorem cnt_more (o : Nam → List Nam → Nat) : ∀ (n : Ex) (most : Int), most < n.wgt o → most < cnt o n most
  | .mk p s nm l, most, h => by
    simp only [cnt, Ex.wgt] at h ⊢
    exact cntL_more o l most _ (by omega)
theorem cntL_more (o : Nam → List Nam → Nat) : ∀ (l : List Ex) (most k : Int), most < k + wgtL o l → most < cntL o l most k
  | [], most, k, h => by simpa [cntL, wgtL] using h
  | n :: r, most, k, h => by
    simp only [wgtL] at h
    unfold cntL
    split
    · by_cases c : (n.wgt o : Int) ≤ most - k
      · rw [cnt_all o n _ c]
        exact cntL_more o r most _ (by omega)
      · have h1 := cnt_more o n (most - k) (by omega)
        cases r with
        | nil => simp only [cntL]; omega
        | cons m s => unfold cntL; rw [if_neg (by omega)]; omega
    · omega
end

/- How many names. -/
mutual
def nams : Ex → List Nam
  | .mk _ s nm l => s :: (nm ++ namsL l)
def namsL : List Ex → List Nam
  | [] => []
  | e :: r => nams e ++ namsL r
end
theorem bro_in {k : Int} {s : Nam} {nm : List Nam} {i : Nat} {z : Nam} (h : z ∈ bro k s nm i) : z = s ∨ z ∈ nm ∨ z = item := by
  unfold bro at h
  split at h
  · split at h
    · simp at h; exact .inl h
    · cases h
  · split at h
    · split at h
      · simp at h; exact .inr (.inr h)
      · cases h
    · split at h
      · split at h
        · exact .inr (.inl h)
        · cases h
      · split at h
        · split at h
          · exact .inr (.inl (List.mem_of_mem_drop (List.mem_of_mem_take h)))
          · cases h
        · cases h
mutual
theorem fr_nams : ∀ (e : Ex) (B : List Nam) (z : Nam), z ∈ fr e B → z ∈ nams e
  | .mk k s nm l, B, z, h => by
    simp only [fr, List.mem_append] at h
    simp only [nams, List.mem_cons, List.mem_append]
    rcases h with h | h
    · split at h
      · simp at h; exact .inl h
      · cases h
    · exact .inr (.inr (frL_nams k s nm l 0 B z h))
theorem frL_nams (k : Int) (s : Nam) (nm : List Nam) : ∀ (l : List Ex) (i : Nat) (B : List Nam) (z : Nam), z ∈ frL k s nm l i B → z ∈ namsL l
  | [], i, B, z, h => by simp [frL] at h
  | p :: ps, i, B, z, h => by
    simp only [frL, List.mem_append] at h
    simp only [namsL, List.mem_append]
    rcases h with h | h
    · exact .inl (fr_nams p _ z h)
    · exact .inr (frL_nams k s nm ps (i + 1) _ z h)
end
mutual
theorem gv_nams : ∀ (e : Ex) (z : Nam), z ∈ gv e → z ∈ nams e ∨ z = item
  | .mk k s nm l, z, h => by
    simp only [gv] at h
    simp only [nams, List.mem_cons, List.mem_append]
    rcases gvL_nams k s nm l 0 z h with h | h | h | h
    · exact .inl (.inl h)
    · exact .inl (.inr (.inl h))
    · exact .inr h
    · exact .inl (.inr (.inr h))
theorem gvL_nams (k : Int) (s : Nam) (nm : List Nam) : ∀ (l : List Ex) (i : Nat) (z : Nam), z ∈ gvL k s nm l i → z = s ∨ z ∈ nm ∨ z = item ∨ z ∈ namsL l
  | [], i, z, h => by simp [gvL] at h
  | p :: ps, i, z, h => by
    simp only [gvL, List.mem_append] at h
    simp only [namsL, List.mem_append]
    rcases h with h | h | h
    · rcases bro_in h with h | h | h
      · exact .inl h
      · exact .inr (.inl h)
      · exact .inr (.inr (.inl h))
    · rcases gv_nams p z h with h | h
      · exact .inr (.inr (.inr (.inl h)))
      · exact .inr (.inr (.inl h))
    · rcases gvL_nams k s nm ps (i + 1) z h with h | h | h | h
      · exact .inl h
      · exact .inr (.inl h)
      · exact .inr (.inr (.inl h))
      · exact .inr (.inr (.inr (.inr h)))
end
def longs (l : List Nam) : List Nam := l.filter fun z => decide (2 ≤ z.length)
theorem longs_cons (z : Nam) (l : List Nam) : (longs (z :: l)).length ≤ (longs l).length + (if 2 ≤ z.length then 1 else 0) := by
  unfold longs
  rw [List.filter_cons]
  split <;> simp_all
theorem longs_app (a b : List Nam) : (longs (a ++ b)).length = (longs a).length + (longs b).length := by simp [longs]
theorem longs_names : ∀ l : List Nam, 3 * (longs l).length ≤ namesMass l
  | [] => by simp [longs]
  | z :: l => by
    have h1 := longs_cons z l
    have h2 := longs_names l
    rw [namesMass_cons]
    split at h1 <;> omega
mutual
theorem longs_mass : ∀ e : Ex, 3 * (longs (nams e)).length ≤ e.mass
  | .mk k s nm l => by
    have h1 := longs_cons s (nm ++ namsL l)
    have h2 := longs_names nm
    have h3 := longsL_mass l
    rw [longs_app] at h1
    simp only [nams, Ex.mass]
    split at h1 <;> omega
theorem longsL_mass : ∀ l : List Ex, 3 * (longs (namsL l)).length ≤ massL l
  | [] => by simp [longs, namsL]
  | e :: r => by
    have h1 := longs_mass e
    have h2 := longsL_mass r
    simp only [namsL, longs_app, massL]
    omega
end
def shorts : List Nam := [] :: (List.range 256).map fun n => [UInt8.ofNat n]
theorem shorts_len : shorts.length = 257 := by simp [shorts]
theorem shorts_mem {z : Nam} (h : z.length < 2) : z ∈ shorts := by
  match z, h with
  | [], _ => simp [shorts]
  | [b], _ =>
    simp only [shorts, List.mem_cons, List.mem_map, List.mem_range]
    exact .inr ⟨b.toNat, b.toNat_lt, by simp⟩
/-- So many names there can be at most. -/
theorem few_nams {e : Ex} {B more : List Nam} (h : ∀ z ∈ B, z ∈ nams e ∨ z = item ∨ z ∈ more) : 3 * few B ≤ e.mass + 3 * 258 + 3 * more.length := by
  have h1 : few B ≤ few (longs (nams e) ++ (shorts ++ item :: more)) := few_mono fun z hz => by
    simp only [List.mem_append, List.mem_cons]
    rcases h z hz with h | h | h
    · by_cases c : 2 ≤ z.length
      · exact .inl (List.mem_filter.2 ⟨h, by simpa using c⟩)
      · exact .inr (.inl (shorts_mem (by omega)))
    · exact .inr (.inr (.inl h))
    · exact .inr (.inr (.inr h))
  have h2 := few_le (longs (nams e) ++ (shorts ++ item :: more))
  have h3 := longs_mass e
  simp only [List.length_append, shorts_len, List.length_cons] at h2
  omega
theorem few_nodup : ∀ {D : List Nam}, D.Nodup → few D = D.length
  | [], _ => few_nil
  | x :: D, h => by
    rw [List.nodup_cons] at h
    rw [few_cons, if_neg h.1, few_nodup h.2]
    rfl
theorem few_two {N a : List Nam} (h : N.Nodup) : N.length + few (off N a ++ []) ≤ few (N ++ a) := by
  rw [List.append_nil]
  have h1 : (N ++ norm (off N a)).Nodup := by
    rw [List.nodup_append]
    refine ⟨h, (norm_facts (off N a)).1.nodup, fun x hx y hy e => ?_⟩
    subst e
    exact (off_mem.1 (((norm_facts (off N a)).2.1 x).1 hy)).2 hx
  have h2 := few_nodup h1
  have h3 : few (N ++ norm (off N a)) ≤ few (N ++ a) := few_mono fun z hz => by
    rcases List.mem_append.1 hz with hz | hz
    · exact List.mem_append_left _ hz
    · exact List.mem_append_right _ (off_mem.1 (((norm_facts (off N a)).2.1 z).1 hz)).1
  rw [h2, List.length_append] at h3
  exact h3
/- Names that are lacking are right ones. -/
mutual
theorem fr_right : ∀ (e : Ex) (t : Bool) (B : List Nam) (z : Nam), chk e t = 0 → z ∈ fr e B → rightB z = true
  | .mk k s nm l, t, B, z, hc, h => by
    obtain ⟨h1, h2⟩ := (chk_zero _ _).1 hc
    simp only [Ex.kind, Ex.s, Ex.nm, Ex.l] at h1 h2
    simp only [fr, List.mem_append] at h
    rcases h with h | h
    · split at h
      · rename_i c
        have := (alone_zero.1 h1).2.2.2.2.1
        simp at h
        subst h
        obtain ⟨rfl, _⟩ := c
        simp only [txt, named] at this
        by_cases hr : rightB z = true
        · exact hr
        · simp [hr] at this
      · cases h
    · exact frL_right k s nm l 0 B z (fun p hp => by
        obtain ⟨j, hj, rfl⟩ := List.getElem_of_mem hp
        exact ⟨_, h2 j hj⟩) h
theorem frL_right (k : Int) (s : Nam) (nm : List Nam) : ∀ (l : List Ex) (i : Nat) (B : List Nam) (z : Nam), (∀ p ∈ l, ∃ t, chk p t = 0) → z ∈ frL k s nm l i B → rightB z = true
  | [], i, B, z, _, h => by simp [frL] at h
  | p :: ps, i, B, z, hc, h => by
    simp only [frL, List.mem_append] at h
    rcases h with h | h
    · obtain ⟨t, ht⟩ := hc p (List.mem_cons_self ..)
      exact fr_right p t _ z ht h
    · exact frL_right k s nm ps (i + 1) _ z (fun q hq => hc q (List.mem_cons_of_mem _ hq)) h
end
/-- What must be in scope: all of Free. -/
theorem free_mem {e : Ex} (hd : e.depth ≤ 200) (hm : e.mass ≤ 2000000) (z : Nam) : z ∈ norm (rd [] 9223372036854775807 0 e [] []).2 ↔ z ∈ fr e [] := by
  have hb := few_nams (e := e) (B := off [] (gv e) ++ []) (more := []) (fun z hz => by
    rw [List.append_nil, off_nil] at hz
    rcases gv_nams e z hz with h | h
    · exact .inl h
    · exact .inr (.inl h))
  have h := (rd_all [] 9223372036854775807 e [] [] [] (by simp) (by simp only [List.length_nil] at hb ⊢; omega)).2 z
  rw [(norm_facts _).2.1, h]
  simp
end Go.Proofs.YtkmdclfkmmlloaaGreatDoor.Xp
namespace Go.Proofs.YtkmdclfkmmlloaaGreatDoor.Xp
open Go Go.Proofs.YtkmdclfkmmlloaaGreatDoor Go.Proofs.YtkmdclfkmmlloaaGreatDoor.Sc Go.Proofs.YtkmdclfkmmlloaaGreatDoor.Names
set_option maxRecDepth 100000

/-- Of the right shape: as many parts as names ask. -/
inductive Shp : Ex → Prop
  | mk {k : Int} {s : Nam} {nm : List Nam} {l : List Ex} (h2 : k = 9 ∨ k = 12 ∨ k = 13 ∨ k = 14 → l.length = 2) (h17 : k = 17 → nm.length = l.length) (h3 : k = 3 → rightB s = true) (hl : ∀ p ∈ l, Shp p) : Shp (.mk k s nm l)
theorem Shp.of : ∀ (N : Nat) (e : Ex) (t : Bool), e.size ≤ N → chk e t = 0 → Shp e := by
  intro N
  induction N with
  | zero => intro e t h; have := e.size_pos; omega
  | succ N ih =>
    intro e t hN h
    obtain ⟨k, s, nm, l⟩ := e
    obtain ⟨h1, h2⟩ := (chk_zero _ _).1 h
    simp only [Ex.kind, Ex.s, Ex.nm, Ex.l] at h1 h2
    obtain ⟨_, hp, hn, _, htx, _⟩ := alone_zero.1 h1
    refine .mk (fun hk => ?_) (fun hk => ?_) (fun hk => ?_) (fun p hp => ?_)
    · rcases hk with rfl | rfl | rfl | rfl <;> simpa [partsOk] using hp
    · subst hk; simpa [namesOk] using hn
    · subst hk
      simp only [txt, named] at htx
      by_cases hr : rightB s = true
      · exact hr
      · simp [hr] at htx
    · obtain ⟨j, hj, rfl⟩ := List.getElem_of_mem hp
      refine ih _ _ ?_ (h2 j hj)
      have := sizeL_mem hp
      rw [size_eq] at hN
      simp only [Ex.l] at hN
      omega
theorem Shp.parts {k : Int} {s : Nam} {nm : List Nam} {l : List Ex} (h : Shp (.mk k s nm l)) : (k = 9 ∨ k = 12 ∨ k = 13 ∨ k = 14 → l.length = 2) ∧ (k = 17 → nm.length = l.length) ∧ (k = 3 → rightB s = true) ∧ ∀ p ∈ l, Shp p := by
  cases h with
  | mk h2 h17 h3 hl => exact ⟨h2, h17, h3, hl⟩
theorem bro_nil (k : Int) (s : Nam) (nm : List Nam) (i : Nat) : (off [] (bro k s nm i)) = bro k s nm i := off_nil _
theorem brs_mem (k : Int) (s : Nam) (nm : List Nam) (z : Nam) : ∀ (j a : Nat), z ∈ brs k s nm a j ↔ ∃ t, a ≤ t ∧ t ≤ a + j ∧ z ∈ bro k s nm t
  | 0, a => by
    simp only [brs]
    constructor
    · exact fun h => ⟨a, Nat.le_refl _, by omega, h⟩
    · rintro ⟨t, h1, h2, h⟩
      obtain rfl : t = a := by omega
      exact h
  | j + 1, a => by
    simp only [brs, List.mem_append, brs_mem k s nm z j (a + 1)]
    constructor
    · rintro (⟨t, h1, h2, h⟩ | h)
      · exact ⟨t, by omega, by omega, h⟩
      · exact ⟨a, Nat.le_refl _, by omega, h⟩
    · rintro ⟨t, h1, h2, h⟩
      by_cases e : t = a
      · subst e; exact .inr h
      · exact .inl ⟨t, by omega, by omega, h⟩
/-- What the document brings into scope of a part. -/
def mor (k : Int) (s : Nam) (nm : List Nam) (i : Nat) : List Nam :=
  if k = 12 ∨ k = 13 ∨ k = 14 then (if i = 1 then [s] else [])
  else if k = 9 then (if i = 1 then [item] else [])
  else if k = 15 then nm
  else if k = 17 then nm.take i
  else []
theorem mor_brs {k : Int} {s : Nam} {nm : List Nam} {n i : Nat} (h2 : k = 9 ∨ k = 12 ∨ k = 13 ∨ k = 14 → n = 2) (hi : i < n) (z : Nam) : z ∈ mor k s nm i ↔ z ∈ brs k s nm 0 i := by
  rw [brs_mem]
  unfold mor bro
  by_cases c1 : k = 12 ∨ k = 13 ∨ k = 14
  · have := h2 (by omega)
    simp only [if_pos c1]
    constructor
    · intro h
      split at h
      · rename_i e
        exact ⟨1, by omega, by omega, by simpa using h⟩
      · cases h
    · rintro ⟨t, _, ht, h⟩
      split at h
      · rw [if_pos (by omega)]; exact h
      · cases h
  · simp only [if_neg c1]
    by_cases c2 : k = 9
    · have := h2 (by omega)
      simp only [if_pos c2]
      constructor
      · intro h
        split at h
        · rename_i e
          exact ⟨1, by omega, by omega, by simpa using h⟩
        · cases h
      · rintro ⟨t, _, ht, h⟩
        split at h
        · rw [if_pos (by omega)]; exact h
        · cases h
    · simp only [if_neg c2]
      by_cases c3 : k = 15
      · simp only [if_pos c3]
        constructor
        · exact fun h => ⟨0, by omega, by omega, by simpa using h⟩
        · rintro ⟨t, _, ht, h⟩
          split at h
          · exact h
          · cases h
      · simp only [if_neg c3]
        by_cases c4 : k = 17
        · simp only [if_pos c4]
          constructor
          · intro h
            obtain ⟨j, hj, rfl⟩ := List.getElem_of_mem h
            rw [List.length_take] at hj
            refine ⟨j + 1, by omega, by omega, ?_⟩
            rw [if_pos (by omega), List.getElem_take]
            have e : List.drop j nm = nm[j]'(by omega) :: List.drop (j + 1) nm := List.drop_eq_getElem_cons (by omega)
            show nm[j] ∈ List.take 1 (List.drop j nm)
            rw [e]
            exact List.mem_cons_self ..
          · rintro ⟨t, _, ht, h⟩
            split at h
            · by_cases hl : t - 1 < nm.length
              · rw [List.drop_eq_getElem_cons hl] at h
                simp only [List.take_succ_cons, List.take_zero, List.mem_singleton] at h
                subst h
                refine List.mem_take_iff_getElem.2 ⟨t - 1, by omega, rfl⟩
              · rw [List.drop_eq_nil_of_le (by omega)] at h
                simp at h
            · cases h
        · simp only [if_neg c4]
          simp
/-- Names that aren't there are put behind. -/
def addL (more : List Nam) (l : List Nam) : List Nam := more.foldl (fun l x => if x ∈ l then l else l ++ [x]) l
theorem addL_cons (x : Nam) (more l : List Nam) : addL (x :: more) l = addL more (if x ∈ l then l else l ++ [x]) := rfl
theorem addL_mem : ∀ (more l : List Nam) (z : Nam), z ∈ addL more l ↔ z ∈ l ∨ z ∈ more
  | [], l, z => by simp [addL]
  | x :: more, l, z => by
    rw [addL_cons, addL_mem more]
    split
    · rename_i h
      constructor
      · rintro (h1 | h1)
        · exact .inl h1
        · exact .inr (List.mem_cons_of_mem _ h1)
      · rintro (h1 | h1)
        · exact .inl h1
        · rcases List.mem_cons.1 h1 with rfl | h1
          · exact .inl h
          · exact .inr h1
    · simp [or_assoc]
theorem addL_nodup : ∀ (more l : List Nam), l.Nodup → (addL more l).Nodup
  | [], l, h => h
  | x :: more, l, h => by
    rw [addL_cons]
    refine addL_nodup more _ ?_
    split
    · exact h
    · rename_i c
      rw [List.nodup_append]
      exact ⟨h, by simp, fun a ha b hb e => by simp at hb; subst hb; subst e; exact c ha⟩
def wth (k : Int) (s : Nam) (nm : List Nam) (i : Nat) (l : List Nam) : List Nam := addL (mor k s nm i) l
mutual
/-- What the document's Scoped tells. -/
def rsc : Ex → List Nam → Int
  | .mk k s nm l, M => if 4096 < M.length then 19 else if k = 3 ∧ s ∉ M then 13 else rscL k s nm l 0 M
def rscL (k : Int) (s : Nam) (nm : List Nam) : List Ex → Nat → List Nam → Int
  | [], _, _ => 0
  | p :: ps, i, M => if rsc p (wth k s nm i M) = 0 then rscL k s nm ps (i + 1) M else rsc p (wth k s nm i M)
end
theorem few_perm {N B M : List Nam} (hN : N.Nodup) (hM : M.Nodup) (hB : ∀ z ∈ B, z ∉ N) (h : ∀ z, z ∈ M ↔ z ∈ N ∨ z ∈ B) : M.length = N.length + few B := by
  have h1 : (N ++ norm B).Nodup := by
    rw [List.nodup_append]
    refine ⟨hN, (norm_facts B).1.nodup, fun x hx y hy e => ?_⟩
    subst e
    exact hB _ (((norm_facts B).2.1 x).1 hy) hx
  have h2 : M.Perm (N ++ norm B) := (List.perm_ext_iff_of_nodup hM h1).2 fun z => by
    rw [h, List.mem_append, (norm_facts B).2.1]
  rw [h2.length_eq, List.length_append]
  rfl
mutual
theorem rd_rsc (N : List Nam) (hN : N.Nodup) : ∀ (e : Ex) (B F M : List Nam), Shp e → M.Nodup → (∀ z ∈ B, z ∉ N) → (∀ z, z ∈ M ↔ z ∈ N ∨ z ∈ B) → M.length ≤ 4096 → (rd N 4096 13 e B F).1 = rsc e M
  | .mk k s nm l, B, F, M, hs, hM, hB, h, h4 => by
    obtain ⟨p2, p17, _, hl⟩ := hs.parts
    simp only [rd, rsc, if_neg (show ¬ 4096 < M.length by omega)]
    have e : (k = 3 ∧ s ∉ B ∧ s ∉ N) ↔ (k = 3 ∧ s ∉ M) := by
      rw [h, not_or]
      constructor
      · rintro ⟨a, b, c⟩; exact ⟨a, c, b⟩
      · rintro ⟨a, b, c⟩; exact ⟨a, c, b⟩
    by_cases c : k = 3 ∧ s ∉ M
    · rw [if_pos c, if_pos (e.2 c), if_neg (by decide)]
    · rw [if_neg c, if_neg (fun q => c (e.1 q))]
      refine rdL_rsc N hN k s nm l.length p2 l 0 B F M (by omega) hl hM hB (fun z hz => (h z).1 hz) ?_
      intro z
      rw [h]
      simp
theorem rdL_rsc (N : List Nam) (hN : N.Nodup) (k : Int) (s : Nam) (nm : List Nam) (n : Nat) (h2 : k = 9 ∨ k = 12 ∨ k = 13 ∨ k = 14 → n = 2) : ∀ (l : List Ex) (i : Nat) (B F M : List Nam), i + l.length = n → (∀ p ∈ l, Shp p) → M.Nodup → (∀ z ∈ B, z ∉ N) → (∀ z, z ∈ M → z ∈ N ∨ z ∈ B) → (∀ z, (z ∈ N ∨ z ∈ B) ↔ z ∈ M ∨ ∃ t, t < i ∧ z ∈ bro k s nm t) → (rdL N 4096 13 k s nm l i B F).1 = rscL k s nm l i M
  | [], i, B, F, M, hn, hl, hM, hB, h0, h => by simp [rdL, rscL]
  | p :: ps, i, B, F, M, hn, hl, hM, hB, h0, h => by
    simp only [List.length_cons] at hn
    have hB' : ∀ z ∈ off N (bro k s nm i) ++ B, z ∉ N := by
      intro z hz
      rcases List.mem_append.1 hz with hz | hz
      · exact (off_mem.1 hz).2
      · exact hB z hz
    have hW := addL_nodup (mor k s nm i) M hM
    have hstep : ∀ z, (z ∈ N ∨ z ∈ off N (bro k s nm i) ++ B) ↔ z ∈ M ∨ ∃ t, t < i + 1 ∧ z ∈ bro k s nm t := by
      intro z
      rw [List.mem_append, off_mem]
      constructor
      · rintro (hz | ⟨hz, _⟩ | hz)
        · rcases (h z).1 (.inl hz) with q | ⟨t, q1, q2⟩
          · exact .inl q
          · exact .inr ⟨t, by omega, q2⟩
        · exact .inr ⟨i, by omega, hz⟩
        · rcases (h z).1 (.inr hz) with q | ⟨t, q1, q2⟩
          · exact .inl q
          · exact .inr ⟨t, by omega, q2⟩
      · rintro (q | ⟨t, q1, q2⟩)
        · rcases (h z).2 (.inl q) with q | q
          · exact .inl q
          · exact .inr (.inr q)
        · by_cases ht : t = i
          · subst ht
            by_cases c : z ∈ N
            · exact .inl c
            · exact .inr (.inl ⟨q2, c⟩)
          · rcases (h z).2 (.inr ⟨t, by omega, q2⟩) with q | q
            · exact .inl q
            · exact .inr (.inr q)
    have hmem : ∀ z, z ∈ wth k s nm i M ↔ z ∈ N ∨ z ∈ off N (bro k s nm i) ++ B := by
      intro z
      rw [hstep]
      unfold wth
      rw [addL_mem, mor_brs h2 (by omega) z, brs_mem]
      constructor
      · rintro (q | ⟨t, _, q1, q2⟩)
        · exact .inl q
        · exact .inr ⟨t, by omega, q2⟩
      · rintro (q | ⟨t, q1, q2⟩)
        · exact .inl q
        · exact .inr ⟨t, by omega, by omega, q2⟩
    have hlen := few_perm hN hW hB' hmem
    simp only [rdL, rscL]
    by_cases c : (4096 : Int) < N.length + few (off N (bro k s nm i) ++ B)
    · rw [if_pos c]
      have hr : rsc p (wth k s nm i M) = 19 := by
        obtain ⟨k', s', nm', l'⟩ := p
        simp only [rsc]
        rw [if_pos (show 4096 < (wth k s nm i M).length by unfold wth; omega)]
      rw [hr, if_neg (by decide)]
    · rw [if_neg c]
      have hp := rd_rsc N hN p (off N (bro k s nm i) ++ B) F (wth k s nm i M) (hl p (List.mem_cons_self ..)) hW hB' hmem (by unfold wth; omega)
      rw [hp]
      by_cases c0 : rsc p (wth k s nm i M) = 0
      · rw [if_pos c0, if_pos c0]
        exact rdL_rsc N hN k s nm n h2 ps (i + 1) _ _ M (by omega) (fun q hq => hl q (List.mem_cons_of_mem _ hq)) hM hB' (fun z hz => by rw [hstep]; exact .inl hz) hstep
      · rw [if_neg c0, if_neg c0]
        exact hp
end
/-- Names that are lacking, part by part. -/
theorem frL_iff (k : Int) (s : Nam) (nm : List Nam) : ∀ (l : List Ex) (i : Nat) (B : List Nam) (z : Nam), z ∈ frL k s nm l i B ↔ ∃ j, ∃ h : j < l.length, z ∈ fr l[j] (brs k s nm i j ++ B)
  | [], i, B, z => by simp [frL]
  | p :: ps, i, B, z => by
    simp only [frL, List.mem_append]
    rw [frL_iff k s nm ps (i + 1)]
    constructor
    · rintro (h | ⟨j, hj, h⟩)
      · exact ⟨0, by simp, by simpa [brs] using h⟩
      · exact ⟨j + 1, by simpa using hj, by simpa [brs, List.append_assoc] using h⟩
    · rintro ⟨j, hj, h⟩
      cases j with
      | zero => exact .inl (by simpa [brs] using h)
      | succ j => exact .inr ⟨j, by simpa using hj, by simpa [brs, List.append_assoc] using h⟩
/-- The document's Free of a part is the part's in the way. -/
theorem fr_wth {k : Int} {s : Nam} {nm : List Nam} {n i : Nat} (h2 : k = 9 ∨ k = 12 ∨ k = 13 ∨ k = 14 → n = 2) (hi : i < n) (p : Ex) (B : List Nam) (z : Nam) : z ∈ fr p (wth k s nm i B) ↔ z ∈ fr p (brs k s nm 0 i ++ B) := by
  refine fr_same (fun y => ?_) z
  unfold wth
  rw [addL_mem, List.mem_append, mor_brs h2 hi]
  exact Or.comm
theorem fr_parts (k : Int) (s : Nam) (nm : List Nam) (l : List Ex) (h2 : k = 9 ∨ k = 12 ∨ k = 13 ∨ k = 14 → l.length = 2) (B : List Nam) (z : Nam) : z ∈ fr (.mk k s nm l) B ↔ (k = 3 ∧ s ∉ B ∧ z = s) ∨ ∃ j, ∃ h : j < l.length, z ∈ fr l[j] (wth k s nm j B) := by
  simp only [fr, List.mem_append, frL_iff]
  refine or_congr ?_ (exists_congr fun j => exists_congr fun hj => (fr_wth h2 hj _ B z).symm)
  by_cases c : k = 3 ∧ s ∉ B
  · rw [if_pos c]; simp [c.1, c.2]
  · rw [if_neg c]
    constructor
    · intro h; cases h
    · rintro ⟨a, b, _⟩; exact absurd ⟨a, b⟩ c
end Go.Proofs.YtkmdclfkmmlloaaGreatDoor.Xp
