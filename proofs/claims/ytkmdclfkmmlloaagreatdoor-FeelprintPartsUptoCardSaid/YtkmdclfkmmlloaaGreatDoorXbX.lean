/- Layer 10, mathematics that hangs on no program: expressions; how deep they are, and how many; what is left of a way through one. | Layer 10, mathematics that hangs on no program: which names are in scope where, which are lacking. | Layer 10: what is wrong with an expression. | Layer 10: what follows for expressions that are right. | Layer 10, mathematics: how great an expression is, as the document counts; how many names there can be; what stands in which scope by the document. | Layer 10, mathematics: the document's scopes of parts; right shapes; the document's Scoped is the way from the front. -/
import Derived.Test.YtkmdclfkmmlloaaGreatDoorXbS
import Derived.Test.YtkmdclfkmmlloaaGreatDoorXbM
import Derived.Test.YtkmdclfkmmlloaaGreatDoorXbN
import Derived.Test.YtkmdclfkmmlloaaGreatDoorXbU
set_option linter.unusedVariables false
set_option linter.unusedSimpArgs false
namespace Go.Proofs.YtkmdclfkmmlloaaGreatDoor.Xp
open Go Go.Proofs.YtkmdclfkmmlloaaGreatDoor Go.Proofs.YtkmdclfkmmlloaaGreatDoor.Sc

/-- An expression: its kind, S, Names and parts. -/
inductive Ex where
  | mk (kind : Int) (s : List UInt8) (nm : List (List UInt8)) (l : List Ex)
instance : Inhabited Ex := ⟨.mk 0 [] [] []⟩
def Ex.kind : Ex → Int | .mk k _ _ _ => k
def Ex.s : Ex → List UInt8 | .mk _ s _ _ => s
def Ex.nm : Ex → List (List UInt8) | .mk _ _ n _ => n
def Ex.l : Ex → List Ex | .mk _ _ _ l => l
theorem Ex.eta (e : Ex) : .mk e.kind e.s e.nm e.l = e := by cases e; rfl
theorem Ex.ext {a b : Ex} (h1 : a.kind = b.kind) (h2 : a.s = b.s) (h3 : a.nm = b.nm) (h4 : a.l = b.l) : a = b := by
  rw [← a.eta, ← b.eta, h1, h2, h3, h4]
mutual
/-- How many there are. -/
def Ex.size : Ex → Nat
  | .mk _ _ _ l => 1 + sizeL l
def sizeL : List Ex → Nat
  | [] => 0
  | e :: r => e.size + sizeL r
end
mutual
/-- How deep. -/
def Ex.depth : Ex → Nat
  | .mk _ _ _ l => 1 + depthL l
def depthL : List Ex → Nat
  | [] => 0
  | e :: r => max e.depth (depthL r)
end
theorem size_eq (e : Ex) : e.size = 1 + sizeL e.l := by cases e; rfl
theorem depth_eq (e : Ex) : e.depth = 1 + depthL e.l := by cases e; rfl
theorem Ex.size_pos (e : Ex) : 1 ≤ e.size := by rw [size_eq]; omega
theorem sizeL_len : ∀ l : List Ex, l.length ≤ sizeL l
  | [] => by simp
  | e :: r => by have := sizeL_len r; have := e.size_pos; simp only [List.length_cons, sizeL]; omega
theorem sizeL_mem : ∀ {l : List Ex} {e : Ex}, e ∈ l → e.size ≤ sizeL l
  | [], e, h => by cases h
  | x :: l, e, h => by
    simp only [sizeL]
    rcases List.mem_cons.1 h with rfl | h
    · omega
    · have := sizeL_mem h; omega
theorem depthL_mem : ∀ {l : List Ex} {e : Ex}, e ∈ l → e.depth ≤ depthL l
  | [], e, h => by cases h
  | x :: l, e, h => by
    simp only [depthL]
    rcases List.mem_cons.1 h with rfl | h
    · omega
    · have := depthL_mem h; omega
/- What is left of a way: the rows of parts, the innermost one first. -/
/-- The next one. -/
def pop : List (List Ex) → Option (List (List Ex) × Ex × List Ex)
  | [] => none
  | [] :: r => pop r
  | (x :: xs) :: r => some (r, x, xs)
def sizeS : List (List Ex) → Nat
  | [] => 0
  | l :: r => sizeL l + sizeS r
def depthS : List (List Ex) → Nat
  | [] => 0
  | l :: r => max (match l with | [] => 0 | _ :: _ => r.length + depthL l) (depthS r)
theorem pop_none : ∀ {r : List (List Ex)}, pop r = none → sizeS r = 0 ∧ depthS r = 0
  | [], _ => ⟨rfl, rfl⟩
  | [] :: r, h => by
    have := pop_none (r := r) h
    simp only [sizeS, sizeL, depthS]
    omega
  | (x :: xs) :: r, h => by cases h
theorem pop_some : ∀ {r q : List (List Ex)} {x : Ex} {xs : List Ex}, pop r = some (q, x, xs) → sizeS r = sizeS (x.l :: xs :: q) + 1 ∧ depthS r = max (q.length + 1) (depthS (x.l :: xs :: q)) ∧ q.length < r.length
  | [], _, _, _, h => by cases h
  | [] :: r, q, x, xs, h => by
    have := pop_some (r := r) h
    simp only [sizeS, sizeL, depthS, List.length_cons] at this ⊢
    omega
  | (y :: ys) :: r, q, x, xs, h => by
    simp only [pop, Option.some.injEq, Prod.mk.injEq] at h
    obtain ⟨rfl, rfl, rfl⟩ := h
    have h1 := size_eq y
    have h2 := depth_eq y
    refine ⟨by simp only [sizeS, sizeL]; omega, ?_, by simp⟩
    cases hl : y.l with
    | nil =>
      rw [hl] at h2
      simp only [depthL] at h2
      cases ys with
      | nil => simp only [depthS, depthL, List.length_cons]; omega
      | cons z zs => simp only [depthS, depthL, List.length_cons]; omega
    | cons a tl =>
      rw [hl] at h2
      cases ys with
      | nil => simp only [depthS, depthL, List.length_cons] at h2 ⊢; omega
      | cons z zs => simp only [depthS, depthL, List.length_cons] at h2 ⊢; omega
/-- The same, as far as can be told without a look into the parts. -/
def alikeP (x y : Ex) : Prop := x.kind = y.kind ∧ x.s = y.s ∧ x.nm = y.nm ∧ x.l.length = y.l.length
instance (x y : Ex) : Decidable (alikeP x y) := by unfold alikeP; infer_instance
end Go.Proofs.YtkmdclfkmmlloaaGreatDoor.Xp
namespace Go.Proofs.YtkmdclfkmmlloaaGreatDoor.Xp
open Go Go.Proofs.YtkmdclfkmmlloaaGreatDoor Go.Proofs.YtkmdclfkmmlloaaGreatDoor.Sc

/- Names that are met. -/
/-- How many different ones. -/
def few (B : List (List UInt8)) : Nat := (norm B).length
theorem norm_eq {a b : List (List UInt8)} (h : ∀ z, z ∈ a ↔ z ∈ b) : norm a = norm b :=
  Rise.unique (norm_facts a).1 (norm_facts b).1 fun z => by rw [(norm_facts a).2.1, (norm_facts b).2.1]; exact h z
theorem few_eq {a b : List (List UInt8)} (h : ∀ z, z ∈ a ↔ z ∈ b) : few a = few b := by unfold few; rw [norm_eq h]
theorem ins_len (x : List UInt8) : ∀ (l : List (List UInt8)), Rise l → (ins x l).length = if x ∈ l then l.length else l.length + 1
  | [], _ => by simp [ins]
  | y :: l, h => by
    have h' := List.pairwise_cons.1 h
    unfold ins
    by_cases e : x = y
    · rw [if_pos e, if_pos (by rw [e]; simp)]
    · rw [if_neg e]
      by_cases c : Op.bytesLess x y = true
      · rw [if_pos c]
        have hx : x ∉ y :: l := by
          intro hm
          rcases List.mem_cons.1 hm with hm | hm
          · exact e hm
          · have := h'.1 x hm
            rw [less_asymm c] at this; cases this
        rw [if_neg hx]; rfl
      · rw [if_neg c, List.length_cons, ins_len x l h'.2]
        by_cases hm : x ∈ l
        · rw [if_pos hm, if_pos (List.mem_cons_of_mem _ hm)]; rfl
        · rw [if_neg hm, if_neg (by simp [e, hm])]; rfl
theorem few_nil : few [] = 0 := by have := (norm_facts []).2.2; unfold few; simpa using this
theorem few_cons (x : List UInt8) (B : List (List UInt8)) : few (x :: B) = if x ∈ B then few B else few B + 1 := by
  obtain ⟨n1, n2, n3⟩ := norm_facts B
  have : norm (x :: B) = ins x (norm B) := Rise.unique (norm_facts _).1 (ins_rise x n1) fun z => by rw [(norm_facts _).2.1, ins_mem, n2, List.mem_cons]
  unfold few
  rw [this, ins_len x _ n1]
  by_cases h : x ∈ B
  · rw [if_pos ((n2 x).2 h), if_pos h]
  · rw [if_neg (fun c => h ((n2 x).1 c)), if_neg h]
theorem few_le (B : List (List UInt8)) : few B ≤ B.length := (norm_facts B).2.2
theorem few_mono : ∀ {a b : List (List UInt8)}, (∀ z ∈ a, z ∈ b) → few a ≤ few b := by
  intro a b h
  have : few b = few (a ++ b) := few_eq fun z => by rw [List.mem_append]; exact ⟨.inr, fun c => c.elim (h z) id⟩
  rw [this]
  clear this h
  induction b with
  | nil => rw [List.append_nil]; exact Nat.le_refl _
  | cons x b ih =>
    have : few (a ++ x :: b) = few (x :: (a ++ b)) := few_eq fun z => by simp only [List.mem_append, List.mem_cons]; constructor <;> (rintro (h | h | h) <;> simp [h])
    rw [this, few_cons]
    split <;> omega
abbrev Nam := List UInt8
def item : Nam := [105, 116, 101, 109]
/-- What comes into scope ahead of a part. -/
def bro (k : Int) (s : Nam) (nm : List Nam) (i : Nat) : List Nam :=
  if k = 12 ∨ k = 13 ∨ k = 14 then (if i = 1 then [s] else [])
  else if k = 9 then (if i = 1 then [item] else [])
  else if k = 15 then (if i = 0 then nm else [])
  else if k = 17 then (if 0 < i then (nm.drop (i - 1)).take 1 else [])
  else []
/-- Those that aren't among N. -/
def off (N l : List Nam) : List Nam := l.filter fun x => !decide (x ∈ N)
mutual
/-- The names that must be in scope of it, but those of B. -/
def fr : Ex → List Nam → List Nam
  | .mk k s nm l, B => (if k = 3 ∧ s ∉ B then [s] else []) ++ frL k s nm l 0 B
def frL (k : Int) (s : Nam) (nm : List Nam) : List Ex → Nat → List Nam → List Nam
  | [], _, _ => []
  | p :: ps, i, B => fr p (bro k s nm i ++ B) ++ frL k s nm ps (i + 1) (bro k s nm i ++ B)
end
end Go.Proofs.YtkmdclfkmmlloaaGreatDoor.Xp
namespace Go.Proofs.YtkmdclfkmmlloaaGreatDoor.Xp
open Go Go.Proofs.YtkmdclfkmmlloaaGreatDoor Go.Proofs.YtkmdclfkmmlloaaGreatDoor.Sc Go.Proofs.YtkmdclfkmmlloaaGreatDoor.Names
set_option maxRecDepth 100000

/-- The text of a number that was read. -/
def textN (v : Nam × Nat) : Nam := if Num.checkE v.1 (v.2 : Int) = 0 then Num.textV (Num.canon v.1 (v.2 : Int).toNat) else []
/-- Is it the text of a number's one form? -/
def formB (s : Nam) : Bool :=
  let r := if s.take 2 = [48, 46] then s.drop 1 else s
  decide (Num.readE r = 0 ∧ textN (Num.readV r) = s)
def consts : List Nam := [[116, 114, 117, 101], [102, 97, 108, 115, 101], [110, 117, 108, 108]]
def bins : List Nam := [[111, 114], [97, 110, 100], [61], [33, 61], [60], [60, 61], [62], [62, 61], [43], [45], [42], [47], [42, 42]]
def spans : List Nam := [[91, 93], [91, 41], [40, 93], [40, 41]]
def tests : List Nam := [[60], [60, 61], [62], [62, 61]]
/-- May a kind have so many parts? -/
def partsOk (k : Int) (n : Nat) : Bool :=
  if k = 0 ∨ k = 1 ∨ k = 2 ∨ k = 3 then n == 0
  else if k = 4 ∨ k = 8 ∨ k = 15 ∨ k = 19 then n == 1
  else if k = 5 ∨ k = 7 ∨ k = 9 ∨ k = 12 ∨ k = 13 ∨ k = 14 ∨ k = 18 then n == 2
  else if k = 6 ∨ k = 11 then n == 3
  else if k = 10 then decide (0 < n)
  else true
def namesOk (k : Int) (m n : Nat) : Bool := if k = 15 then true else if k = 17 then m == n else m == 0
def named (k : Int) : Bool := decide (k = 3 ∨ k = 8 ∨ k = 12 ∨ k = 13 ∨ k = 14)
/-- What is wrong with S. -/
def txt (k : Int) (s : Nam) : Int :=
  if k = 0 then (if formB s then 0 else 17)
  else if k = 1 then Utf.checkE s
  else if k = 2 then (if s ∈ consts then 0 else 17)
  else if k = 5 then (if s ∈ bins then 0 else 17)
  else if k = 18 then (if s ∈ spans then 0 else 17)
  else if k = 19 then (if s ∈ tests then 0 else 17)
  else if named k then (if rightB s then 0 else 6)
  else (if s = [] then 0 else 17)
def namesE (nm : List Nam) : Int := if nm.all rightB = false then 6 else if nm.Nodup then 0 else 8
def kindOk (k : Int) : Bool := decide (0 ≤ k ∧ k ≤ 19)
/-- What is wrong with it, without a look into its parts. -/
def alone (k : Int) (s : Nam) (nm : List Nam) (n : Nat) (t : Bool) : Int :=
  if kindOk k = false then 2
  else if (partsOk k n && namesOk k nm.length n) = false then 17
  else if k = 19 ∧ t = false then 17
  else if txt k s ≠ 0 then txt k s
  else namesE nm
mutual
def chk : Ex → Bool → Int
  | .mk k s nm l, t => if alone k s nm l.length t ≠ 0 then alone k s nm l.length t else chkL k l 0
def chkL (k : Int) : List Ex → Nat → Int
  | [], _ => 0
  | p :: ps, i => if chk p (decide (k = 7 ∧ i = 1)) ≠ 0 then chk p (decide (k = 7 ∧ i = 1)) else chkL k ps (i + 1)
end
/-- What Check tells. -/
def checkV (e : Ex) : Int := if 200 < e.depth then 9 else chk e true
/-- Letters, names and expressions. -/
def namesMass (l : List Nam) : Nat := (l.map fun s => 1 + s.length).sum
mutual
def Ex.mass : Ex → Nat
  | .mk _ s nm l => 1 + s.length + namesMass nm + massL l
def massL : List Ex → Nat
  | [] => 0
  | e :: r => e.mass + massL r
end
theorem mass_eq (e : Ex) : e.mass = 1 + e.s.length + namesMass e.nm + massL e.l := by cases e; rfl
theorem namesMass_cons (x : Nam) (l : List Nam) : namesMass (x :: l) = 1 + x.length + namesMass l := by simp [namesMass]
theorem namesMass_len : ∀ l : List Nam, l.length ≤ namesMass l
  | [] => by simp
  | x :: l => by have := namesMass_len l; rw [namesMass_cons, List.length_cons]; omega
theorem namesMass_mem : ∀ {l : List Nam} {x : Nam}, x ∈ l → x.length + 1 ≤ namesMass l
  | [], x, h => by cases h
  | y :: l, x, h => by
    rw [namesMass_cons]
    rcases List.mem_cons.1 h with rfl | h
    · omega
    · have := namesMass_mem h; omega
theorem massL_mem : ∀ {l : List Ex} {e : Ex}, e ∈ l → e.mass ≤ massL l
  | [], e, h => by cases h
  | x :: l, e, h => by
    simp only [massL]
    rcases List.mem_cons.1 h with rfl | h
    · omega
    · have := massL_mem h; omega
mutual
theorem size_mass : ∀ e : Ex, e.size ≤ e.mass
  | .mk _ _ _ l => by have := sizeL_mass l; simp only [Ex.size, Ex.mass]; omega
theorem sizeL_mass : ∀ l : List Ex, sizeL l ≤ massL l
  | [] => by simp [sizeL, massL]
  | e :: r => by have := size_mass e; have := sizeL_mass r; simp only [sizeL, massL]; omega
end
end Go.Proofs.YtkmdclfkmmlloaaGreatDoor.Xp
namespace Go.Proofs.YtkmdclfkmmlloaaGreatDoor.Xp
open Go Go.Proofs.YtkmdclfkmmlloaaGreatDoor Go.Proofs.YtkmdclfkmmlloaaGreatDoor.Sc Go.Proofs.YtkmdclfkmmlloaaGreatDoor.Names
set_option maxRecDepth 100000

theorem chk_mk (k : Int) (s : Nam) (nm : List Nam) (l : List Ex) (t : Bool) : chk (.mk k s nm l) t = if alone k s nm l.length t ≠ 0 then alone k s nm l.length t else chkL k l 0 := by rw [chk]
theorem chkL_cons (k : Int) (p : Ex) (ps : List Ex) (i : Nat) : chkL k (p :: ps) i = if chk p (decide (k = 7 ∧ i = 1)) ≠ 0 then chk p (decide (k = 7 ∧ i = 1)) else chkL k ps (i + 1) := by rw [chkL]
theorem chkL_zero (k : Int) : ∀ (l : List Ex) (i : Nat), chkL k l i = 0 ↔ ∀ j (h : j < l.length), chk l[j] (decide (k = 7 ∧ i + j = 1)) = 0
  | [], i => by simp [chkL]
  | p :: ps, i => by
    rw [chkL_cons]
    have hs : (∀ j (h : j < (p :: ps).length), chk (p :: ps)[j] (decide (k = 7 ∧ i + j = 1)) = 0) ↔ chk p (decide (k = 7 ∧ i = 1)) = 0 ∧ ∀ j (h : j < ps.length), chk ps[j] (decide (k = 7 ∧ i + 1 + j = 1)) = 0 := by
      constructor
      · intro g
        refine ⟨g 0 (by simp), fun j hj => ?_⟩
        have := g (j + 1) (by simpa using hj)
        rw [show i + (j + 1) = i + 1 + j by omega] at this
        exact this
      · rintro ⟨g0, g⟩ j hj
        cases j with
        | zero => exact g0
        | succ j =>
          have := g j (by simpa using hj)
          rw [show i + 1 + j = i + (j + 1) by omega] at this
          exact this
    rw [hs]
    by_cases h : chk p (decide (k = 7 ∧ i = 1)) = 0
    · rw [if_neg (by simpa using h), chkL_zero k ps (i + 1)]
      exact ⟨fun g => ⟨h, g⟩, fun g => g.2⟩
    · rw [if_pos h]
      exact ⟨fun g => absurd g h, fun g => absurd g.1 h⟩
theorem chk_zero (e : Ex) (t : Bool) : chk e t = 0 ↔ alone e.kind e.s e.nm e.l.length t = 0 ∧ ∀ j (h : j < e.l.length), chk e.l[j] (decide (e.kind = 7 ∧ j = 1)) = 0 := by
  obtain ⟨k, s, nm, l⟩ := e
  rw [chk_mk]
  simp only [Ex.kind, Ex.s, Ex.nm, Ex.l]
  have h0 := chkL_zero k l 0
  simp only [Nat.zero_add] at h0
  by_cases h : alone k s nm l.length t = 0
  · rw [if_neg (by simpa using h), h0]
    exact ⟨fun g => ⟨h, g⟩, fun g => g.2⟩
  · rw [if_pos h]
    exact ⟨fun g => absurd g h, fun g => absurd g.1 h⟩
theorem alone_zero {k : Int} {s : Nam} {nm : List Nam} {n : Nat} {t : Bool} : alone k s nm n t = 0 ↔ kindOk k = true ∧ partsOk k n = true ∧ namesOk k nm.length n = true ∧ (k = 19 → t = true) ∧ txt k s = 0 ∧ namesE nm = 0 := by
  unfold alone
  cases h1 : kindOk k with
  | false => simp
  | true =>
    cases h2 : partsOk k n with
    | false => simp
    | true =>
      cases h3 : namesOk k nm.length n with
      | false => simp
      | true =>
        by_cases h4 : k = 19 ∧ t = false
        · simp [h4]
        · by_cases h5 : txt k s = 0
          · have h6 : k = 19 → t = true := fun e => by
              cases t
              · exact absurd ⟨e, rfl⟩ h4
              · rfl
            simp only [h4, h5, if_false, ne_eq, not_true, Bool.and_self, Bool.true_eq_false, true_and]
            exact ⟨fun g => ⟨h6, g⟩, fun g => g.2⟩
          · simp [h4, h5]
theorem alone_test {k : Int} {s : Nam} {nm : List Nam} {n : Nat} {t : Bool} (h : alone k s nm n t = 0) : alone k s nm n true = 0 := by
  rw [alone_zero] at h ⊢
  exact ⟨h.1, h.2.1, h.2.2.1, fun _ => rfl, h.2.2.2.2⟩
theorem chk_test {e : Ex} {t : Bool} (h : chk e t = 0) : chk e true = 0 := by
  rw [chk_zero] at h ⊢
  exact ⟨alone_test h.1, h.2⟩
theorem checkV_zero {e : Ex} : checkV e = 0 ↔ e.depth ≤ 200 ∧ chk e true = 0 := by
  unfold checkV
  by_cases h : 200 < e.depth
  · rw [if_pos h]; simp; omega
  · rw [if_neg h]; exact ⟨fun g => ⟨by omega, g⟩, fun g => g.2⟩
/-- A right expression's parts are right, and less deep. -/
theorem checkV_part {e : Ex} (h : checkV e = 0) {p : Ex} (hp : p ∈ e.l) : checkV p = 0 ∧ p.depth < e.depth := by
  rw [checkV_zero] at h
  obtain ⟨j, hj, rfl⟩ := List.mem_iff_getElem.1 hp
  have h1 := ((chk_zero e true).1 h.2).2 j hj
  have h2 := depthL_mem hp
  have h3 := depth_eq e
  exact ⟨checkV_zero.2 ⟨by omega, chk_test h1⟩, by omega⟩
theorem namesE_zero {nm : List Nam} : namesE nm = 0 ↔ nm.all rightB = true ∧ nm.Nodup := by
  unfold namesE
  cases h : nm.all rightB with
  | false => simp
  | true => by_cases g : nm.Nodup <;> simp [g]

/- Names that are lacking. -/
mutual
theorem fr_mono : ∀ (e : Ex) (B C : List Nam), (∀ z ∈ B, z ∈ C) → ∀ z, z ∈ fr e C → z ∈ fr e B
  | .mk k s nm l, B, C, h, z, hz => by
    simp only [fr, List.mem_append] at hz ⊢
    rcases hz with hz | hz
    · split at hz
      · rename_i c
        rw [if_pos ⟨c.1, fun g => c.2 (h s g)⟩]
        exact .inl hz
      · cases hz
    · exact .inr (frL_mono k s nm l 0 B C h z hz)
theorem frL_mono (k : Int) (s : Nam) (nm : List Nam) : ∀ (l : List Ex) (i : Nat) (B C : List Nam), (∀ z ∈ B, z ∈ C) → ∀ z, z ∈ frL k s nm l i C → z ∈ frL k s nm l i B
  | [], i, B, C, h, z, hz => by simp [frL] at hz
  | p :: ps, i, B, C, h, z, hz => by
    simp only [frL, List.mem_append] at hz ⊢
    have h' : ∀ z ∈ bro k s nm i ++ B, z ∈ bro k s nm i ++ C := fun y hy => by
      rw [List.mem_append] at hy ⊢
      exact hy.imp id (h y)
    exact hz.imp (fr_mono p _ _ h' z) (frL_mono k s nm ps (i + 1) _ _ h' z)
end
theorem fr_same {e : Ex} {B C : List Nam} (h : ∀ z, z ∈ B ↔ z ∈ C) (z : Nam) : z ∈ fr e B ↔ z ∈ fr e C :=
  ⟨fr_mono e C B (fun y hy => (h y).2 hy) z, fr_mono e B C (fun y hy => (h y).1 hy) z⟩
/-- What is brought ahead of the first parts. -/
def brs (k : Int) (s : Nam) (nm : List Nam) : Nat → Nat → List Nam
  | i, 0 => bro k s nm i
  | i, j + 1 => brs k s nm (i + 1) j ++ bro k s nm i
end Go.Proofs.YtkmdclfkmmlloaaGreatDoor.Xp
namespace Go.Proofs.YtkmdclfkmmlloaaGreatDoor.Xp
open Go Go.Proofs.YtkmdclfkmmlloaaGreatDoor Go.Proofs.YtkmdclfkmmlloaaGreatDoor.Sc Go.Proofs.YtkmdclfkmmlloaaGreatDoor.Names
set_option maxRecDepth 100000

mutual
/-- Weights of all, o of each alone. -/
def Ex.wgt (o : Nam → List Nam → Nat) : Ex → Nat
  | .mk _ s nm l => o s nm + wgtL o l
def wgtL (o : Nam → List Nam → Nat) : List Ex → Nat
  | [] => 0
  | e :: r => e.wgt o + wgtL o r
end
def one1 (_ : Nam) (_ : List Nam) : Nat := 1
def lets (s : Nam) (nm : List Nam) : Nat := s.length + namesMass nm
mutual
theorem wgt_size : ∀ e : Ex, e.wgt one1 = e.size
  | .mk _ _ _ l => by simp only [Ex.wgt, Ex.size, one1, wgtL_size l]
theorem wgtL_size : ∀ l : List Ex, wgtL one1 l = sizeL l
  | [] => rfl
  | e :: r => by simp only [wgtL, sizeL, wgt_size e, wgtL_size r]
end
mutual
theorem wgt_mass : ∀ e : Ex, e.mass = e.size + e.wgt lets
  | .mk _ s nm l => by
    have := wgtL_mass l
    simp only [Ex.wgt, Ex.size, Ex.mass, lets]
    omega
theorem wgtL_mass : ∀ l : List Ex, massL l = sizeL l + wgtL lets l
  | [] => rfl
  | e :: r => by
    have h1 := wgt_mass e
    have h2 := wgtL_mass r
    simp only [wgtL, sizeL, massL]
    omega
end
theorem wgtL_take (o : Nam → List Nam → Nat) : ∀ (l : List Ex) (i : Nat) (h : i < l.length), wgtL o (l.take (i + 1)) = wgtL o (l.take i) + l[i].wgt o
  | [], i, h => by simp at h
  | e :: r, 0, h => by simp [wgtL]
  | e :: r, i + 1, h => by
    have := wgtL_take o r i (by simpa using h)
    simp only [List.take_succ_cons, wgtL, List.getElem_cons_succ]
    omega
theorem wgtL_le (o : Nam → List Nam → Nat) : ∀ (l : List Ex) (i : Nat), wgtL o (l.take i) ≤ wgtL o l
  | [], i => by simp [wgtL]
  | e :: r, 0 => by simp [wgtL]
  | e :: r, i + 1 => by
    have := wgtL_le o r i
    simp only [List.take_succ_cons, wgtL]
    omega
mutual
/-- What Count and Bytes tell. -/
def cnt (o : Nam → List Nam → Nat) : Ex → Int → Int
  | .mk _ s nm l, most => cntL o l most (o s nm)
def cntL (o : Nam → List Nam → Nat) : List Ex → Int → Int → Int
  | [], _, k => k
  | n :: r, most, k => if k ≤ most then cntL o r most (k + cnt o n (most - k)) else k
end
mutual
theorem cnt_le (o : Nam → List Nam → Nat) : ∀ (n : Ex) (most : Int), 0 ≤ cnt o n most ∧ cnt o n most ≤ n.wgt o
  | .mk p s nm l, most => by
    have := cntL_le o l most (o s nm) (by omega)
    simp only [cnt, Ex.wgt]
    omega
theorem cntL_le (o : Nam → List Nam → Nat) : ∀ (l : List Ex) (most k : Int), 0 ≤ k → k ≤ cntL o l most k ∧ cntL o l most k ≤ k + wgtL o l
  | [], most, k, h => by simp [cntL, wgtL]
  | n :: r, most, k, h => by
    unfold cntL
    split
    · have h1 := cnt_le o n (most - k)
      have h2 := cntL_le o r most (k + cnt o n (most - k)) (by omega)
      simp only [wgtL]
      omega
    · simp only [wgtL]; omega
end
mutual
theorem cnt_all (o : Nam → List Nam → Nat) : ∀ (n : Ex) (most : Int), (n.wgt o : Int) ≤ most → cnt o n most = n.wgt o
  | .mk p s nm l, most, h => by
    simp only [cnt, Ex.wgt] at h ⊢
    have := cntL_all o l most (o s nm) (by omega)
    omega
theorem cntL_all (o : Nam → List Nam → Nat) : ∀ (l : List Ex) (most k : Int), k + wgtL o l ≤ most → cntL o l most k = k + wgtL o l
  | [], most, k, h => by simp [cntL, wgtL]
  | n :: r, most, k, h => by
    simp only [wgtL] at h ⊢
    unfold cntL
    rw [if_pos (by omega), cnt_all o n (most - k) (by omega), cntL_all o r most _ (by omega)]
    omega
end
mutual
theorem cnt_more (o : Nam → List Nam → Nat) : ∀ (n : Ex) (most : Int), most < n.wgt o → most < cnt o n most
  | .mk p s nm l, most, h => by
    simp only [cnt, Ex.wgt] at h ⊢
    exact cntL_more o l most _ (by omega)
theorem cntL_more (o : Nam → List Nam → Nat) : ∀ (l : List Ex) (most k : Int), most < k + wgtL o l → most < cntL o l most k
  | [], most, k, h => by simpa [cntL, wgtL] using h
  | n :: r, most, k, h => by
    simp only [wgtL] at h
    unfold cntL
    split
    · by_cases c : (n.wgt o : Int) ≤ most - k
      · rw [cnt_all o n _ c]
        exact cntL_more o r most _ (by omega)
      · have h1 := cnt_more o n (most - k) (by omega)
        cases r with
        | nil => simp only [cntL]; omega
        | cons m s => unfold cntL; rw [if_neg (by omega)]; omega
    · omega
end

/- How many names. -/
theorem few_nodup : ∀ {D : List Nam}, D.Nodup → few D = D.length
  | [], _ => few_nil
  | x :: D, h => by
    rw [List.nodup_cons] at h
    rw [few_cons, if_neg h.1, few_nodup h.2]
    rfl
/- Names that are lacking are right ones. -/
end Go.Proofs.YtkmdclfkmmlloaaGreatDoor.Xp
namespace Go.Proofs.YtkmdclfkmmlloaaGreatDoor.Xp
open Go Go.Proofs.YtkmdclfkmmlloaaGreatDoor Go.Proofs.YtkmdclfkmmlloaaGreatDoor.Sc Go.Proofs.YtkmdclfkmmlloaaGreatDoor.Names
set_option maxRecDepth 100000

/-- Of the right shape: as many parts as names ask. -/
inductive Shp : Ex → Prop
  | mk {k : Int} {s : Nam} {nm : List Nam} {l : List Ex} (h2 : k = 9 ∨ k = 12 ∨ k = 13 ∨ k = 14 → l.length = 2) (h17 : k = 17 → nm.length = l.length) (h3 : k = 3 → rightB s = true) (hl : ∀ p ∈ l, Shp p) : Shp (.mk k s nm l)
theorem Shp.of : ∀ (N : Nat) (e : Ex) (t : Bool), e.size ≤ N → chk e t = 0 → Shp e := by
  intro N
  induction N with
  | zero => intro e t h; have := e.size_pos; omega
  | succ N ih =>
    intro e t hN h
    obtain ⟨k, s, nm, l⟩ := e
    obtain ⟨h1, h2⟩ := (chk_zero _ _).1 h
    simp only [Ex.kind, Ex.s, Ex.nm, Ex.l] at h1 h2
    obtain ⟨_, hp, hn, _, htx, _⟩ := alone_zero.1 h1
    refine .mk (fun hk => ?_) (fun hk => ?_) (fun hk => ?_) (fun p hp => ?_)
    · rcases hk with rfl | rfl | rfl | rfl <;> simpa [partsOk] using hp
    · subst hk; simpa [namesOk] using hn
    · subst hk
      simp only [txt, named] at htx
      by_cases hr : rightB s = true
      · exact hr
      · simp [hr] at htx
    · obtain ⟨j, hj, rfl⟩ := List.getElem_of_mem hp
      refine ih _ _ ?_ (h2 j hj)
      have := sizeL_mem hp
      rw [size_eq] at hN
      simp only [Ex.l] at hN
      omega
theorem Shp.parts {k : Int} {s : Nam} {nm : List Nam} {l : List Ex} (h : Shp (.mk k s nm l)) : (k = 9 ∨ k = 12 ∨ k = 13 ∨ k = 14 → l.length = 2) ∧ (k = 17 → nm.length = l.length) ∧ (k = 3 → rightB s = true) ∧ ∀ p ∈ l, Shp p := by
  cases h with
  | mk h2 h17 h3 hl => exact ⟨h2, h17, h3, hl⟩
theorem brs_mem (k : Int) (s : Nam) (nm : List Nam) (z : Nam) : ∀ (j a : Nat), z ∈ brs k s nm a j ↔ ∃ t, a ≤ t ∧ t ≤ a + j ∧ z ∈ bro k s nm t
  | 0, a => by
    simp only [brs]
    constructor
    · exact fun h => ⟨a, Nat.le_refl _, by omega, h⟩
    · rintro ⟨t, h1, h2, h⟩
      obtain rfl : t = a := by omega
      exact h
  | j + 1, a => by
    simp only [brs, List.mem_append, brs_mem k s nm z j (a + 1)]
    constructor
    · rintro (⟨t, h1, h2, h⟩ | h)
      · exact ⟨t, by omega, by omega, h⟩
      · exact ⟨a, Nat.le_refl _, by omega, h⟩
    · rintro ⟨t, h1, h2, h⟩
      by_cases e : t = a
      · subst e; exact .inr h
      · exact .inl ⟨t, by omega, by omega, h⟩
/-- What the document brings into scope of a part. -/
def mor (k : Int) (s : Nam) (nm : List Nam) (i : Nat) : List Nam :=
  if k = 12 ∨ k = 13 ∨ k = 14 then (if i = 1 then [s] else [])
  else if k = 9 then (if i = 1 then [item] else [])
  else if k = 15 then nm
  else if k = 17 then nm.take i
  else []
theorem mor_brs {k : Int} {s : Nam} {nm : List Nam} {n i : Nat} (h2 : k = 9 ∨ k = 12 ∨ k = 13 ∨ k = 14 → n = 2) (hi : i < n) (z : Nam) : z ∈ mor k s nm i ↔ z ∈ brs k s nm 0 i := by
  rw [brs_mem]
  unfold mor bro
  by_cases c1 : k = 12 ∨ k = 13 ∨ k = 14
  · have := h2 (by omega)
    simp only [if_pos c1]
    constructor
    · intro h
      split at h
      · rename_i e
        exact ⟨1, by omega, by omega, by simpa using h⟩
      · cases h
    · rintro ⟨t, _, ht, h⟩
      split at h
      · rw [if_pos (by omega)]; exact h
      · cases h
  · simp only [if_neg c1]
    by_cases c2 : k = 9
    · have := h2 (by omega)
      simp only [if_pos c2]
      constructor
      · intro h
        split at h
        · rename_i e
          exact ⟨1, by omega, by omega, by simpa using h⟩
        · cases h
      · rintro ⟨t, _, ht, h⟩
        split at h
        · rw [if_pos (by omega)]; exact h
        · cases h
    · simp only [if_neg c2]
      by_cases c3 : k = 15
      · simp only [if_pos c3]
        constructor
        · exact fun h => ⟨0, by omega, by omega, by simpa using h⟩
        · rintro ⟨t, _, ht, h⟩
          split at h
          · exact h
          · cases h
      · simp only [if_neg c3]
        by_cases c4 : k = 17
        · simp only [if_pos c4]
          constructor
          · intro h
            obtain ⟨j, hj, rfl⟩ := List.getElem_of_mem h
            rw [List.length_take] at hj
            refine ⟨j + 1, by omega, by omega, ?_⟩
            rw [if_pos (by omega), List.getElem_take]
            have e : List.drop j nm = nm[j]'(by omega) :: List.drop (j + 1) nm := List.drop_eq_getElem_cons (by omega)
            show nm[j] ∈ List.take 1 (List.drop j nm)
            rw [e]
            exact List.mem_cons_self ..
          · rintro ⟨t, _, ht, h⟩
            split at h
            · by_cases hl : t - 1 < nm.length
              · rw [List.drop_eq_getElem_cons hl] at h
                simp only [List.take_succ_cons, List.take_zero, List.mem_singleton] at h
                subst h
                refine List.mem_take_iff_getElem.2 ⟨t - 1, by omega, rfl⟩
              · rw [List.drop_eq_nil_of_le (by omega)] at h
                simp at h
            · cases h
        · simp only [if_neg c4]
          simp
/-- Names that aren't there are put behind. -/
def addL (more : List Nam) (l : List Nam) : List Nam := more.foldl (fun l x => if x ∈ l then l else l ++ [x]) l
theorem addL_cons (x : Nam) (more l : List Nam) : addL (x :: more) l = addL more (if x ∈ l then l else l ++ [x]) := rfl
theorem addL_mem : ∀ (more l : List Nam) (z : Nam), z ∈ addL more l ↔ z ∈ l ∨ z ∈ more
  | [], l, z => by simp [addL]
  | x :: more, l, z => by
    rw [addL_cons, addL_mem more]
    split
    · rename_i h
      constructor
      · rintro (h1 | h1)
        · exact .inl h1
        · exact .inr (List.mem_cons_of_mem _ h1)
      · rintro (h1 | h1)
        · exact .inl h1
        · rcases List.mem_cons.1 h1 with rfl | h1
          · exact .inl h
          · exact .inr h1
    · simp [or_assoc]
def wth (k : Int) (s : Nam) (nm : List Nam) (i : Nat) (l : List Nam) : List Nam := addL (mor k s nm i) l
/-- Names that are lacking, part by part. -/
theorem frL_iff (k : Int) (s : Nam) (nm : List Nam) : ∀ (l : List Ex) (i : Nat) (B : List Nam) (z : Nam), z ∈ frL k s nm l i B ↔ ∃ j, ∃ h : j < l.length, z ∈ fr l[j] (brs k s nm i j ++ B)
  | [], i, B, z => by simp [frL]
  | p :: ps, i, B, z => by
    simp only [frL, List.mem_append]
    rw [frL_iff k s nm ps (i + 1)]
    constructor
    · rintro (h | ⟨j, hj, h⟩)
      · exact ⟨0, by simp, by simpa [brs] using h⟩
      · exact ⟨j + 1, by simpa using hj, by simpa [brs, List.append_assoc] using h⟩
    · rintro ⟨j, hj, h⟩
      cases j with
      | zero => exact .inl (by simpa [brs] using h)
      | succ j => exact .inr ⟨j, by simpa using hj, by simpa [brs, List.append_assoc] using h⟩
/-- The document's Free of a part is the part's in the way. -/
theorem fr_wth {k : Int} {s : Nam} {nm : List Nam} {n i : Nat} (h2 : k = 9 ∨ k = 12 ∨ k = 13 ∨ k = 14 → n = 2) (hi : i < n) (p : Ex) (B : List Nam) (z : Nam) : z ∈ fr p (wth k s nm i B) ↔ z ∈ fr p (brs k s nm 0 i ++ B) := by
  refine fr_same (fun y => ?_) z
  unfold wth
  rw [addL_mem, List.mem_append, mor_brs h2 hi]
  exact Or.comm
theorem fr_parts (k : Int) (s : Nam) (nm : List Nam) (l : List Ex) (h2 : k = 9 ∨ k = 12 ∨ k = 13 ∨ k = 14 → l.length = 2) (B : List Nam) (z : Nam) : z ∈ fr (.mk k s nm l) B ↔ (k = 3 ∧ s ∉ B ∧ z = s) ∨ ∃ j, ∃ h : j < l.length, z ∈ fr l[j] (wth k s nm j B) := by
  simp only [fr, List.mem_append, frL_iff]
  refine or_congr ?_ (exists_congr fun j => exists_congr fun hj => (fr_wth h2 hj _ B z).symm)
  by_cases c : k = 3 ∧ s ∉ B
  · rw [if_pos c]; simp [c.1, c.2]
  · rw [if_neg c]
    constructor
    · intro h; cases h
    · rintro ⟨a, b, _⟩; exact absurd ⟨a, b⟩ c
end Go.Proofs.YtkmdclfkmmlloaaGreatDoor.Xp
