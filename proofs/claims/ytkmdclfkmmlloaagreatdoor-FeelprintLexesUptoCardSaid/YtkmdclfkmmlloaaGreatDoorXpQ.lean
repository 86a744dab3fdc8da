/- Layer 10: contract of read, a way through an expression with the names that are met. -/
import Derived.Test.YtkmdclfkmmlloaaGreatDoorXpR
import Derived.Test.YtkmdclfkmmlloaaGreatDoorXbX
set_option linter.unusedVariables false
set_option linter.unusedSimpArgs false
namespace Go.Proofs.YtkmdclfkmmlloaaGreatDoor.Xp
open Go Go.Proofs.YtkmdclfkmmlloaaGreatDoor Go.Proofs.YtkmdclfkmmlloaaGreatDoor.Utf Go.Proofs.YtkmdclfkmmlloaaGreatDoor.Names Go.Proofs.YtkmdclfkmmlloaaGreatDoor.Sc Go.RowKit
set_option maxRecDepth 100000

/-- What is in the map ahead of a part. -/
def bag (N : List Nam) (k : Int) (s : Nam) (nm B : List Nam) (i : Nat) : List Nam := ((List.range i).reverse.flatMap fun j => off N (bro k s nm j)) ++ B
/-- What is in it when the first parts' names are left. -/
def bagT (N : List Nam) (k : Int) (s : Nam) (nm B : List Nam) (i m : Nat) : List Nam := ((List.range' i (m - i)).flatMap fun j => off N (bro k s nm j)) ++ B
theorem bag_zero (N : List Nam) (k : Int) (s : Nam) (nm B : List Nam) : bag N k s nm B 0 = B := rfl
theorem bag_succ (N : List Nam) (k : Int) (s : Nam) (nm B : List Nam) (i : Nat) : bag N k s nm B (i + 1) = off N (bro k s nm i) ++ bag N k s nm B i := by
  unfold bag
  rw [List.range_succ, List.reverse_append, List.reverse_singleton, List.singleton_append, List.flatMap_cons, List.append_assoc]
theorem bagT_end (N : List Nam) (k : Int) (s : Nam) (nm B : List Nam) (m : Nat) : bagT N k s nm B m m = B := by simp [bagT]
theorem bagT_succ (N : List Nam) (k : Int) (s : Nam) (nm B : List Nam) {i m : Nat} (h : i < m) : bagT N k s nm B i m = off N (bro k s nm i) ++ bagT N k s nm B (i + 1) m := by
  unfold bagT
  obtain ⟨c, rfl⟩ : ∃ c, m = i + 1 + c := ⟨m - (i + 1), by omega⟩
  rw [show i + 1 + c - i = c + 1 by omega, show i + 1 + c - (i + 1) = c by omega, List.range'_succ, List.flatMap_cons, List.append_assoc]
theorem bag_perm (N : List Nam) (k : Int) (s : Nam) (nm B : List Nam) (m : Nat) : (bag N k s nm B m).Perm (bagT N k s nm B 0 m) := by
  unfold bag bagT
  rw [Nat.sub_zero, ← List.range_eq_range']
  exact (List.Perm.flatMap_right _ (List.reverse_perm _)).append_right B
/-- How many names are brought ahead of a part. -/
def blen (k : Int) (s : Nam) (nm : List Nam) : Nat → Nat
  | 0 => 0
  | i + 1 => blen k s nm i + (bro k s nm i).length
theorem bro_mem {k : Int} {s : Nam} {nm : List Nam} {i : Nat} {x : Nam} (h : x ∈ bro k s nm i) : x = s ∨ x = item ∨ x ∈ nm := by
  unfold bro at h
  split at h
  · split at h
    · exact .inl (by simpa using h)
    · cases h
  · split at h
    · split at h
      · exact .inr (.inl (by simpa using h))
      · cases h
    · split at h
      · split at h
        · exact .inr (.inr h)
        · cases h
      · split at h
        · split at h
          · exact .inr (.inr (List.mem_of_mem_drop (List.mem_of_mem_take h)))
          · cases h
        · cases h
theorem blen_le (k : Int) (s : Nam) (nm : List Nam) (i : Nat) : blen k s nm i ≤ 1 + nm.length := by
  by_cases c12 : k = 12 ∨ k = 13 ∨ k = 14
  · have h : ∀ i, blen k s nm i = if 2 ≤ i then 1 else 0 := by
      intro i
      induction i with
      | zero => rfl
      | succ i ih =>
        rw [blen, ih, bro_for c12]
        by_cases e : i = 1
        · subst e; simp
        · rw [if_neg e]
          by_cases c : 2 ≤ i
          · rw [if_pos c, if_pos (by omega)]; rfl
          · rw [if_neg c, if_neg (by omega)]; rfl
    rw [h]; split <;> omega
  · by_cases c9 : k = 9
    · have h : ∀ i, blen k s nm i = if 2 ≤ i then 1 else 0 := by
        intro i
        induction i with
        | zero => rfl
        | succ i ih =>
          rw [blen, ih]
          have hb : bro k s nm i = if i = 1 then [item] else [] := by unfold bro; rw [if_neg c12, if_pos c9]
          rw [hb]
          by_cases e : i = 1
          · subst e; simp
          · rw [if_neg e]
            by_cases c : 2 ≤ i
            · rw [if_pos c, if_pos (by omega)]; rfl
            · rw [if_neg c, if_neg (by omega)]; rfl
      rw [h]; split <;> omega
    · by_cases c15 : k = 15
      · have h : ∀ i, blen k s nm i ≤ nm.length ∧ (i = 0 → blen k s nm i = 0) := by
          intro i
          induction i with
          | zero => exact ⟨Nat.zero_le _, fun _ => rfl⟩
          | succ i ih =>
            have hb : bro k s nm i = if i = 0 then nm else [] := by unfold bro; rw [if_neg c12, if_neg c9, if_pos c15]
            refine ⟨?_, fun e => by omega⟩
            rw [blen, hb]
            by_cases e : i = 0
            · rw [ih.2 e, if_pos e]; omega
            · rw [if_neg e]; simpa using ih.1
        have := (h i).1
        omega
      · by_cases c17 : k = 17
        · have h : ∀ i, blen k s nm i ≤ min (i - 1) nm.length := by
            intro i
            induction i with
            | zero => simp [blen]
            | succ i ih =>
              have hb : bro k s nm i = if 0 < i then (nm.drop (i - 1)).take 1 else [] := by unfold bro; rw [if_neg c12, if_neg c9, if_neg c15, if_pos c17]
              rw [blen, hb]
              by_cases e : 0 < i
              · rw [if_pos e, List.length_take, List.length_drop]; omega
              · rw [if_neg e]; simp only [List.length_nil]; omega
          have := h i
          omega
        · have h : ∀ i, blen k s nm i = 0 := by
            intro i
            induction i with
            | zero => rfl
            | succ i ih =>
              have hb : bro k s nm i = [] := by unfold bro; rw [if_neg c12, if_neg c9, if_neg c15, if_neg c17]
              rw [blen, ih, hb]; rfl
          rw [h]; omega
theorem bag_len (N : List Nam) (k : Int) (s : Nam) (nm B : List Nam) : ∀ i, (bag N k s nm B i).length ≤ B.length + blen k s nm i
  | 0 => by simp [bag_zero, blen]
  | i + 1 => by
    have h1 := bag_len N k s nm B i
    have h2 := off_len N (bro k s nm i)
    rw [bag_succ, List.length_append, blen]
    omega
theorem bro_len (k : Int) (s : Nam) (nm : List Nam) (i : Nat) : (bro k s nm i).length ≤ 1 + nm.length := by
  have h1 := blen_le k s nm (i + 1)
  rw [blen] at h1
  omega
theorem massL_take (l : List Ex) (i : Nat) (h : i < l.length) : massL (l.take (i + 1)) = massL (l.take i) + l[i].mass := by
  have : ∀ a b : List Ex, massL (a ++ b) = massL a + massL b := by
    intro a b
    induction a with
    | nil => simp [massL]
    | cons x a ih => simp only [List.cons_append, massL, ih]; omega
  rw [List.take_succ_eq_append_getElem h, this]; simp [massL]
theorem massL_le (l : List Ex) (i : Nat) : massL (l.take i) ≤ massL l := by
  have : ∀ a b : List Ex, massL (a ++ b) = massL a + massL b := by
    intro a b
    induction a with
    | nil => simp [massL]
    | cons x a ih => simp only [List.cons_append, massL, ih]; omega
  have h := this (l.take i) (l.drop i)
  rw [List.take_append_drop] at h
  omega
theorem rd_mk (N : List Nam) (most ec k : Int) (s : Nam) (nm : List Nam) (l : List Ex) (B F : List Nam) : rd N most ec (.mk k s nm l) B F = if k = 3 ∧ s ∉ B ∧ s ∉ N then (if ec = 0 then rdL N most ec k s nm l 0 B (s :: F) else (ec, s :: F)) else rdL N most ec k s nm l 0 B F := by rw [rd]
theorem rdL_cons (N : List Nam) (most ec k : Int) (s : Nam) (nm : List Nam) (p : Ex) (ps : List Ex) (i : Nat) (B F : List Nam) : rdL N most ec k s nm (p :: ps) i B F = if most < N.length + few (off N (bro k s nm i) ++ B) then (19, F)
    else if (rd N most ec p (off N (bro k s nm i) ++ B) F).1 = 0 then rdL N most ec k s nm ps (i + 1) (off N (bro k s nm i) ++ B) (rd N most ec p (off N (bro k s nm i) ++ B) F).2
    else rd N most ec p (off N (bro k s nm i) ++ B) F := by rw [rdL]
theorem Keep.undrew {A : Nat → Prop} {w w' : World} (h : Keep A w.drew w') : Keep A w w' := ⟨h.os, h.tape, h.output, h.size, h.block⟩
/-- What is told of a name that isn't in scope. -/
structure LackOk (W0 : World) (rb mb : Nat) (A : Nat → Prop) (g : Nat) (cb : Array Value) (ec : Int) (S : World → List Nam → Prop) : Prop where
  enters : ∀ args w, (callFunc g args).run Tryz.prog w = .ok (.enter g args) w
  call : ∀ w F x, S w F → F.length ≤ 100000000 → x.length ≤ 2000000 → Calls Tryz.prog g (#[.string (text x)] ++ cb) w fun e w' => e = .returned (.int .i64 ec) ∧ S w' (x :: F) ∧ Keep A w w'
  stay : ∀ w w' F, S w F → Keep (· = mb) w w' → S w' F
  apart : ∀ b, A b → W0.heap.size ≤ b ∧ b ≠ rb ∧ b ≠ mb
mutual
theorem rd_len (N : List Nam) (most ec : Int) : ∀ (e : Ex) (B F : List Nam), (rd N most ec e B F).2.length ≤ F.length + e.size
  | .mk k s nm l, B, F => by
    rw [rd_mk]
    simp only [Ex.size]
    split
    · split
      · have := rdL_len N most ec k s nm l 0 B (s :: F)
        simp only [List.length_cons] at this
        omega
      · simp only [List.length_cons]; omega
    · have := rdL_len N most ec k s nm l 0 B F
      omega
theorem rdL_len (N : List Nam) (most ec : Int) (k : Int) (s : Nam) (nm : List Nam) : ∀ (l : List Ex) (i : Nat) (B F : List Nam), (rdL N most ec k s nm l i B F).2.length ≤ F.length + sizeL l
  | [], i, B, F => by simp [rdL]
  | p :: ps, i, B, F => by
    rw [rdL_cons]
    have h1 := rd_len N most ec p (off N (bro k s nm i) ++ B) F
    have h2 := rdL_len N most ec k s nm ps (i + 1) (off N (bro k s nm i) ++ B) (rd N most ec p (off N (bro k s nm i) ++ B) F).2
    simp only [sizeL]
    split
    · simp
    · split <;> omega
end
end Go.Proofs.YtkmdclfkmmlloaaGreatDoor.Xp
