/- Plain mathematics of layer 4: tags and texts in bytes. No program in it. | Plain mathematics of layer 4: what is written is read as it was, but for places. | Plain mathematics of layer 4: what is written is read as it was, but for places: attributes, tags, texts, all. | Plain mathematics of layer 4: all tokens that are written are read as they were, but for places; what is written is right. | Plain mathematics of layer 4: one tag is one token; without its end it is too short. | Plain mathematics of layer 4: what stands behind right bytes, or ahead of them, leaves their tokens as they were. | Plain mathematics of layer 4: what is wrong stands in the bytes, or at their end. | Plain mathematics of layer 4: a comment behind right bytes, or a declaration ahead of them, leaves their tokens as they were; a declaration behind them is wrong. | Plain mathematics of layer 4: tokens' places rise; at each there stands what it says. -/
import Derived.Test.YthodmdfbahkflaaGreatDoorPk3
set_option linter.unusedVariables false
set_option linter.unusedSimpArgs false
namespace Go.Proofs.YthodmdfbahkflaaGreatDoor.Tok
open Go Go.Proofs.YthodmdfbahkflaaGreatDoor Go.Proofs.YthodmdfbahkflaaGreatDoor.Utf Go.Proofs.YthodmdfbahkflaaGreatDoor.Names Go.Proofs.YthodmdfbahkflaaGreatDoor.Ent
set_option maxRecDepth 100000

/-- A name and a value, as they are written, and the name's place. -/
structure Pr where
  place : Int
  name : List UInt8
  value : List UInt8
/-- A token: its kind, its place, its name or text, its attributes. -/
structure Tok where
  kind : Int
  place : Int
  s : List UInt8
  attrs : List Pr
def Pr.shift (n : Nat) (p : Pr) : Pr := { p with place := n + p.place }
def Tok.shift (n : Nat) (t : Tok) : Tok := { t with place := n + t.place, attrs := t.attrs.map (Pr.shift n) }
/-- But for places. -/
def Pr.bare (p : Pr) : List UInt8 × List UInt8 := (p.name, p.value)
def Tok.bare (t : Tok) : Int × List UInt8 × List (List UInt8 × List UInt8) := (t.kind, t.s, t.attrs.map Pr.bare)
theorem bare_shift (n : Nat) (t : Tok) : (t.shift n).bare = t.bare := by
  unfold Tok.bare Tok.shift
  simp [Pr.bare, Pr.shift, Function.comp_def]
theorem bares_shift (n : Nat) (l : List Tok) : (l.map (Tok.shift n)).map Tok.bare = l.map Tok.bare := by
  rw [List.map_map]
  exact List.map_congr_left (fun t _ => bare_shift n t)

/-- What is read, and how many bytes; or what is wrong, and where. -/
inductive Res (α : Type) where
  | ok (x : α) (n : Nat)
  | bad (p e : Nat)
/-- From a place on. -/
def Res.from (k : Nat) {α β : Type} (f : α → Nat → Res β) : Res α → Res β
  | .ok x n => (match f x n with | .ok y m => .ok y (k + n + m) | .bad p e => .bad (k + n + p) e)
  | .bad p e => .bad (k + p) e

def isSp (b : UInt8) : Bool := Utf.space (b.toNat : Int)
def blanks (l : List UInt8) : Nat := (l.takeWhile isSp).length
def qn (c : Int) : Bool := Utf.part c || decide (c = 58)
def pn (c : Int) : Bool := Utf.first c || decide (c = 58)
/-- How many bytes the characters of a name have that stand there. -/
def runF : Nat → List UInt8 → Nat
  | 0, _ => 0
  | f + 1, l => if (rune l).2 ≠ 0 ∧ qn (rune l).1 = true then (rune l).2 + runF f (l.drop (rune l).2) else 0
def run (l : List UInt8) : Nat := runF l.length l
def nameLen (l : List UInt8) : Nat := if (rune l).2 ≠ 0 ∧ pn (rune l).1 = true then run l else 0
/-- Something else is asked. -/
def short (l : List UInt8) : Nat := if l = [] then 10 else 5
def nameR (l : List UInt8) : Res (List UInt8) :=
  if nameLen l = 0 then .bad 0 (short l) else if (splitO (l.take (nameLen l))).isSome = true then .ok (l.take (nameLen l)) (nameLen l) else .bad 0 6
def valueR : List UInt8 → Res (List UInt8)
  | [] => .bad 0 10
  | q :: r =>
    if q = 34 ∨ q = 39 then
      match firstAt q r with
      | none => if (tell true r).2.2 ≠ 0 then .bad (1 + (tell true r).2.1) (tell true r).2.2 else .bad (1 + r.length) 10
      | some k => if (tell true (r.take k)).2.2 ≠ 0 then .bad (1 + (tell true (r.take k)).2.1) (tell true (r.take k)).2.2 else .ok (tell true (r.take k)).1 (k + 2)
    else .bad 0 5
/-- Behind an attribute's name. -/
def equalR (l : List UInt8) : Res (List UInt8) :=
  match l.drop (blanks l) with
  | 61 :: r => Res.from (blanks l + 1 + blanks r) (fun v _ => .ok v 0) (valueR (r.drop (blanks r)))
  | m => .bad (blanks l) (short m)
/-- An attribute twice is told at its name. -/
def attrT (seen : List (List UInt8)) (l : List UInt8) : Res (List UInt8 × List UInt8) :=
  match nameR l with
  | .bad p e => .bad p e
  | .ok nm k => if seen.contains nm = true then .bad 0 8 else
    match equalR (l.drop k) with
    | .bad p e => .bad (k + p) e
    | .ok v n => .ok (nm, v) (k + n)
def attrsF : Nat → List (List UInt8) → List UInt8 → Res (List Pr)
  | 0, _, _ => .bad 0 5
  | f + 1, seen, l =>
    match l.drop (blanks l) with
    | [] => .bad (blanks l) 10
    | c :: r =>
      if c = 62 ∨ c = 47 then .ok [] (blanks l)
      else if blanks l = 0 then .bad 0 5
      else match attrT seen (c :: r) with
        | .bad p e => .bad (blanks l + p) e
        | .ok (nm, v) n =>
          match attrsF f (nm :: seen) ((c :: r).drop n) with
          | .bad p e => .bad (blanks l + n + p) e
          | .ok xs k => .ok (⟨blanks l, nm, v⟩ :: xs.map (Pr.shift (blanks l + n))) (blanks l + n + k)
/-- A tag that opens: behind its <. -/
def tagR (r : List UInt8) : Res Tok :=
  match nameR r with
  | .bad p e => .bad p e
  | .ok nm k =>
    match attrsF (r.length + 1) [] (r.drop k) with
    | .bad p e => .bad (k + p) e
    | .ok xs n =>
      match r.drop (k + n) with
      | 62 :: _ => .ok ⟨0, 0, nm, xs.map (Pr.shift k)⟩ (k + n + 1)
      | 47 :: 62 :: _ => .ok ⟨2, 0, nm, xs.map (Pr.shift k)⟩ (k + n + 2)
      | 47 :: m => .bad (k + n + 1) (short m)
      | m => .bad (k + n) (short m)
/-- One that closes: behind its </. -/
def closeR (r : List UInt8) : Res Tok :=
  match nameR r with
  | .bad p e => .bad p e
  | .ok nm k =>
    match (r.drop k).drop (blanks (r.drop k)) with
    | 62 :: _ => .ok ⟨1, 0, nm, []⟩ (k + blanks (r.drop k) + 1)
    | m => .bad (k + blanks (r.drop k)) (short m)
/-- The first place of a text. -/
def find (t : List UInt8) : List UInt8 → Option Nat
  | [] => if t = [] then some 0 else none
  | c :: r => if pre t (c :: r) = true then some 0 else (find t r).map (· + 1)
/-- Ends of lines. -/
def lines : List UInt8 → List UInt8
  | [] => []
  | 13 :: 10 :: r => 10 :: lines r
  | 13 :: r => 10 :: lines r
  | c :: r => c :: lines r
def commentR (l : List UInt8) : Res (Option Tok) :=
  match find [45, 45] (l.drop 4) with
  | none => .bad l.length 10
  | some k =>
    match l.drop (4 + k + 2) with
    | 62 :: _ => .ok none (4 + k + 3)
    | [] => .bad l.length 10
    | _ => .bad (4 + k) 5
def declR (l : List UInt8) : Res (Option Tok) :=
  match find [63, 62] (l.drop 5) with
  | none => .bad l.length 10
  | some k => .ok none (5 + k + 2)
def rawR (l : List UInt8) : Res (Option Tok) :=
  match find [93, 93, 62] (l.drop 9) with
  | none => .bad l.length 10
  | some k => .ok (if lines ((l.drop 9).take k) = [] then none else some ⟨3, 0, lines ((l.drop 9).take k), []⟩) (9 + k + 3)
/-- How far a text goes. -/
def textLen (l : List UInt8) : Nat := (firstAt 60 l).getD l.length
def textR (l : List UInt8) : Res (Option Tok) :=
  let t := tell false (l.take (textLen l))
  match find [93, 93, 62] l with
  | some k => if k < textLen l ∧ (t.2.2 = 0 ∨ k < t.2.1) then .bad k 5 else if t.2.2 ≠ 0 then .bad t.2.1 t.2.2 else .ok (some ⟨3, 0, t.1, []⟩) (textLen l)
  | none => if t.2.2 ≠ 0 then .bad t.2.1 t.2.2 else .ok (some ⟨3, 0, t.1, []⟩) (textLen l)
def Res.up {α β : Type} (k : Nat) (f : α → β) : Res α → Res β
  | .ok x n => .ok (f x) (k + n)
  | .bad p e => .bad (k + p) e
/-- Is it a declaration's beginning? -/
def decl (l : List UInt8) : Bool := pre [60, 63, 120, 109, 108] l && (match l.drop 5 with | c :: _ => isSp c | [] => false)
/-- The next thing. -/
def oneR (first : Bool) (l : List UInt8) : Res (Option Tok) :=
  if first = true ∧ decl l = true then declR l
  else if pre [60, 33, 45, 45] l = true then commentR l
  else if pre [60, 33, 91, 67, 68, 65, 84, 65, 91] l = true then rawR l
  else if pre [60, 33] l = true ∨ pre [60, 63] l = true then .bad 0 5
  else if pre [60, 47] l = true then Res.up 2 some (closeR (l.drop 2))
  else if pre [60] l = true then Res.up 1 (fun t => some { t with attrs := t.attrs.map (Pr.shift 1) }) (tagR (l.drop 1))
  else textR l
def toksF : Nat → Bool → List UInt8 → Res (List Tok)
  | 0, _, _ => .ok [] 0
  | f + 1, first, l =>
    if l = [] then .ok [] 0
    else match oneR first l with
      | .bad p e => .bad p e
      | .ok o n =>
        match toksF f false (l.drop n) with
        | .bad p e => .bad (n + p) e
        | .ok ts k => .ok (o.toList ++ ts.map (Tok.shift n)) (n + k)
/-- The tokens of right bytes. -/
def toks (first : Bool) (l : List UInt8) : Res (List Tok) := toksF l.length first l
/-- The tokens, the place, the error. -/
def tokens (b : List UInt8) : List Tok × Nat × Nat :=
  if 16777216 < b.length then ([], 0, 19)
  else if check b < b.length then ([], check b, 4)
  else match toks true b with
    | .ok ts _ => (ts, b.length, 0)
    | .bad p e => ([], p, e)
end Go.Proofs.YthodmdfbahkflaaGreatDoor.Tok
namespace Go.Proofs.YthodmdfbahkflaaGreatDoor.Tok
open Go Go.Proofs.YthodmdfbahkflaaGreatDoor Go.Proofs.YthodmdfbahkflaaGreatDoor.Utf Go.Proofs.YthodmdfbahkflaaGreatDoor.Names Go.Proofs.YthodmdfbahkflaaGreatDoor.Ent
set_option maxRecDepth 100000

/-- Attributes' bytes, or what is wrong. -/
def attrsW : List (List UInt8) → List Pr → Res (List UInt8)
  | _, [] => .ok [] 0
  | seen, p :: r =>
    if splitO p.name = none then .bad 0 6 else if seen.contains p.name = true then .bad 0 8 else if check p.value ≠ p.value.length then .bad 0 4
    else match attrsW (p.name :: seen) r with
      | .bad i e => .bad i e
      | .ok s n => .ok (32 :: (p.name ++ (61 :: 34 :: (esc true p.value ++ (34 :: s))))) n
/-- A token's bytes, behind another one. -/
def tokW (ahead : Int) (t : Tok) : Res (List UInt8) :=
  if t.kind < 0 ∨ 3 < t.kind then .bad 0 2
  else if t.kind = 3 then
    (if t.s = [] ∨ t.attrs ≠ [] ∨ ahead = 3 then .bad 0 2 else if check t.s ≠ t.s.length then .bad 0 4 else .ok (esc false t.s) 0)
  else if splitO t.s = none then .bad 0 6
  else if t.kind = 1 then (if t.attrs ≠ [] then .bad 0 2 else .ok (60 :: 47 :: (t.s ++ [62])) 0)
  else match attrsW [] t.attrs with
    | .bad i e => .bad i e
    | .ok a _ => .ok (60 :: (t.s ++ (a ++ (if t.kind = 2 then [47, 62] else [62])))) 0
/-- The bytes, or with which token something is wrong, and what. -/
def wr : Int → List Tok → Res (List UInt8)
  | _, [] => .ok [] 0
  | ahead, t :: r =>
    match tokW ahead t with
    | .bad _ e => .bad 0 e
    | .ok s _ => match wr t.kind r with
      | .bad i e => .bad (i + 1) e
      | .ok b n => .ok (s ++ b) n

/-! Characters of names. -/
theorem rune_byte (b : UInt8) (h : b.toNat < 128) (hf : fine (b.toNat : Int) = true) (r : List UInt8) : rune (b :: r) = (b.toNat, 1) := by
  have := Ent.rune_low b.toNat h hf r
  rwa [show UInt8.ofNat b.toNat = b from by simp] at this
theorem runF_eq : ∀ (f g : Nat) (l : List UInt8), l.length ≤ f → l.length ≤ g → runF f l = runF g l
  | 0, 0, l, _, _ => rfl
  | 0, g + 1, l, h, _ => by
    have : l = [] := List.eq_nil_of_length_eq_zero (by omega)
    subst this
    simp [runF, rune_nil]
  | f + 1, 0, l, _, h => by
    have : l = [] := List.eq_nil_of_length_eq_zero (by omega)
    subst this
    simp [runF, rune_nil]
  | f + 1, g + 1, l, h1, h2 => by
    unfold runF
    by_cases c : (rune l).2 ≠ 0 ∧ qn (rune l).1 = true
    · have hr := rune_le l
      rw [if_pos c, if_pos c, runF_eq f g (l.drop (rune l).2) (by simp; omega) (by simp; omega)]
    · rw [if_neg c, if_neg c]
theorem run_step {l : List UInt8} (h : (rune l).2 ≠ 0) (hq : qn (rune l).1 = true) : run l = (rune l).2 + run (l.drop (rune l).2) := by
  have hr := rune_le l
  unfold run
  cases hl : l.length with
  | zero => omega
  | succ n =>
    conv => lhs; unfold runF
    rw [if_pos ⟨h, hq⟩, runF_eq n _ _ (by simp; omega) (Nat.le_refl _)]
theorem run_stop {l : List UInt8} (h : ¬ ((rune l).2 ≠ 0 ∧ qn (rune l).1 = true)) : run l = 0 := by
  unfold run
  cases hl : l.length with
  | zero => rfl
  | succ n => unfold runF; rw [if_neg h]
theorem run_nil : run [] = 0 := rfl
/-- A byte that no name has. -/
theorem run_end (b : UInt8) (h : b = 32 ∨ b = 62 ∨ b = 47 ∨ b = 61) (r : List UInt8) : run (b :: r) = 0 := by
  have hb : rune (b :: r) = (b.toNat, 1) := rune_byte b (by rcases h with rfl | rfl | rfl | rfl <;> decide) (by rcases h with rfl | rfl | rfl | rfl <;> decide) r
  refine run_stop (fun c => ?_)
  rw [hb] at c
  rcases h with rfl | rfl | rfl | rfl <;> exact absurd c.2 (by decide)
theorem run_all : ∀ (s : List UInt8) (cs : List Nat), chars s = some cs → cs.all (fun c => qn c) = true → ∀ m, run (s ++ m) = s.length + run m := by
  intro s
  refine by_chars (p := fun s => ∀ cs, chars s = some cs → cs.all (fun c => qn c) = true → ∀ m, run (s ++ m) = s.length + run m) ?_ ?_ ?_ s
  · intro cs h _ m; simp
  · intro l h0 h cs hc; rw [chars_none h0 h] at hc; cases hc
  · intro l h ih cs hc hq m
    have hr := rune_le l
    rw [chars_step h] at hc
    cases hd : chars (l.drop (rune l).2) with
    | none => rw [hd] at hc; cases hc
    | some ds =>
      rw [hd] at hc
      cases hc
      simp only [List.all_cons, Bool.and_eq_true] at hq
      have ha := rune_append m h
      have := ih ds hd hq.2 m
      rw [run_step (by rw [ha]; exact h) (by rw [ha]; exact hq.1), ha, drop_append_le l m _ hr.1, this]
      simp; omega
/-- A name's characters. -/
def Nm (s : List UInt8) : Prop := ∃ (c : Nat) (cs : List Nat), chars s = some (c :: cs) ∧ pn c = true ∧ cs.all (fun c => qn c) = true
theorem pn_qn {c : Int} (h : pn c = true) : qn c = true := by
  unfold pn qn at *
  rw [Bool.or_eq_true] at *
  rcases h with h | h
  · exact .inl ((part_iff c).2 (.inl ((next_iff c).2 (.inl h))))
  · exact .inr h
theorem nm_plain {s : List UInt8} (h : plainB s = true) : Nm s := by
  obtain ⟨c, cs, h1, h2, h3⟩ := shp_iff.1 h
  refine ⟨c, cs, h1, by simp [pn, h2], ?_⟩
  rw [List.all_eq_true] at *
  intro x hx
  simp [qn, h3 x hx]
theorem nm_split {s : List UInt8} (h : splitO s ≠ none) : Nm s := by
  unfold splitO at h
  cases hf : firstAt 58 s with
  | none =>
    rw [hf] at h
    simp only at h
    by_cases c : plainB s = true
    · exact nm_plain c
    · rw [if_neg c] at h; exact absurd rfl h
  | some i =>
    rw [hf] at h
    simp only at h
    by_cases c : (plainB (s.take i) && plainB (s.drop (i + 1))) = true
    · rw [Bool.and_eq_true] at c
      have hlt := firstAt_lt hf
      have hat := (firstAt_at hf).1
      have e : s = s.take i ++ 58 :: s.drop (i + 1) := by
        conv => lhs; rw [← List.take_append_drop i s, List.drop_eq_getElem_cons hlt]
        rw [List.getElem?_eq_getElem hlt] at hat
        rw [Option.some.inj hat]
      obtain ⟨a, xs, a1, a2, a3⟩ := nm_plain c.1
      obtain ⟨b, bs, b1, b2, b3⟩ := nm_plain c.2
      have hcol : chars (58 :: s.drop (i + 1)) = some (58 :: b :: bs) := by
        have hr : rune (58 :: s.drop (i + 1)) = (58, 1) := rune_byte 58 (by decide) (by decide) _
        rw [chars_step (by rw [hr]; decide), hr]
        simp only [List.drop_succ_cons, List.drop_zero, b1, Option.map_some]
      refine ⟨a, xs ++ 58 :: b :: bs, ?_, a2, ?_⟩
      · rw [e, chars_append _ _ _ a1, hcol]; rfl
      · rw [List.all_append, a3, Bool.true_and]
        simp only [List.all_cons, b3, pn_qn b2, Bool.and_true]
        decide
    · rw [if_neg c] at h; exact absurd rfl h
theorem nm_len {s : List UInt8} (h : Nm s) (b : UInt8) (hb : b = 32 ∨ b = 62 ∨ b = 47 ∨ b = 61) (r : List UInt8) : nameLen (s ++ b :: r) = s.length ∧ 0 < s.length := by
  obtain ⟨c, cs, h1, h2, h3⟩ := h
  have hne : s ≠ [] := by rintro rfl; rw [chars_nil] at h1; cases h1
  have hr : (rune s).2 ≠ 0 := by
    intro z; rw [chars_none hne z] at h1; cases h1
  have hc : (rune s).1 = c := by
    rw [chars_step hr] at h1
    cases hd : chars (s.drop (rune s).2) with
    | none => rw [hd] at h1; cases h1
    | some ds => rw [hd] at h1; cases h1; rfl
  have ha := rune_append (b :: r) hr
  refine ⟨?_, List.length_pos_iff.2 hne⟩
  unfold nameLen
  rw [ha, if_pos ⟨hr, by rw [hc]; exact h2⟩, run_all s (c :: cs) h1 (by simp only [List.all_cons, h3, pn_qn h2, Bool.and_true]), run_end b hb, Nat.add_zero]
theorem nameR_ok {s : List UInt8} (h : splitO s ≠ none) (b : UInt8) (hb : b = 32 ∨ b = 62 ∨ b = 47 ∨ b = 61) (r : List UInt8) : nameR (s ++ b :: r) = .ok s s.length := by
  obtain ⟨h1, h2⟩ := nm_len (nm_split h) b hb r
  unfold nameR
  rw [h1, if_neg (by omega)]
  have e : (s ++ b :: r).take s.length = s := by simp
  rw [e, if_pos (by cases hs : splitO s with | none => exact absurd hs h | some p => rfl)]
/-! What is escaped has no signs of tags. -/
end Go.Proofs.YthodmdfbahkflaaGreatDoor.Tok
namespace Go.Proofs.YthodmdfbahkflaaGreatDoor.Tok
open Go Go.Proofs.YthodmdfbahkflaaGreatDoor Go.Proofs.YthodmdfbahkflaaGreatDoor.Utf Go.Proofs.YthodmdfbahkflaaGreatDoor.Names Go.Proofs.YthodmdfbahkflaaGreatDoor.Ent
set_option maxRecDepth 100000

theorem blanks_none (b : UInt8) (r : List UInt8) (h : isSp b = false) : blanks (b :: r) = 0 := by simp [blanks, List.takeWhile_cons, h]
theorem find_at : ∀ (t l : List UInt8) (k : Nat), find t l = some k → pre t (l.drop k) = true
  | t, [], k, h => by
    unfold find at h
    split at h
    · rename_i e; subst e; injection h with h; subst h; rfl
    · cases h
  | t, c :: r, k, h => by
    unfold find at h
    split at h
    · rename_i e; injection h with h; subst h; exact e
    · cases hf : find t r with
      | none => rw [hf] at h; cases h
      | some j =>
        rw [hf] at h
        simp at h
        subst h
        simpa using find_at t r j hf
end Go.Proofs.YthodmdfbahkflaaGreatDoor.Tok
namespace Go.Proofs.YthodmdfbahkflaaGreatDoor.Tok
open Go Go.Proofs.YthodmdfbahkflaaGreatDoor Go.Proofs.YthodmdfbahkflaaGreatDoor.Utf Go.Proofs.YthodmdfbahkflaaGreatDoor.Names Go.Proofs.YthodmdfbahkflaaGreatDoor.Ent
set_option maxRecDepth 100000

/-! What is written is right. -/
def Ck (l : List UInt8) : Prop := check l = l.length
theorem Ck.append {a b : List UInt8} (h : Ck a) (k : Ck b) : Ck (a ++ b) := by
  unfold Ck at *
  rw [check_of_chars] at *
  cases ha : chars a with
  | none => exact absurd ha h
  | some cs =>
    rw [chars_append a b cs ha]
    cases hb : chars b with
    | none => exact absurd hb k
    | some ds => simp
theorem Ck.cons {c : UInt8} (h : c.toNat < 128) (hf : fine (c.toNat : Int) = true) {l : List UInt8} (k : Ck l) : Ck (c :: l) := by
  have hr := rune_byte c h hf l
  unfold Ck at *
  rw [check_step (by rw [hr]; simp), hr]
  simp only [List.drop_succ_cons, List.drop_zero, List.length_cons, k]
  omega
theorem Ck.nm {s : List UInt8} (h : Nm s) : Ck s := by
  obtain ⟨c, cs, h1, _⟩ := h
  unfold Ck
  rw [check_of_chars, h1]; simp
theorem Ck.lit {l : List UInt8} (h : l.all (fun c => decide (c.toNat < 128) && fine (c.toNat : Int)) = true) : Ck l := by
  induction l with
  | nil => rfl
  | cons c r ih =>
    simp only [List.all_cons, Bool.and_eq_true, decide_eq_true_eq] at h
    exact Ck.cons h.1.1 h.1.2 (ih (by simpa using h.2))
theorem Ck.esc (v : Bool) (l : List UInt8) (h : check l = l.length) : Ck (esc v l) := by
  refine by_runes (p := fun l => Ck (Ent.esc v l)) rfl ?_ l h
  intro c r hf _ ih
  rw [esc_append, esc_enc v c hf]
  refine Ck.append ?_ ih
  cases ht : escT v c with
  | none =>
    have := check_enc c hf []
    rw [List.append_nil, check_nil, Nat.add_zero] at this
    exact this
  | some t =>
    simp only [Option.getD_some]
    unfold escT at ht
    repeat' split at ht
    all_goals first
      | (cases ht; done)
      | (injection ht with ht; subst ht; exact Ck.lit (by decide))
end Go.Proofs.YthodmdfbahkflaaGreatDoor.Tok
namespace Go.Proofs.YthodmdfbahkflaaGreatDoor.Tok
open Go Go.Proofs.YthodmdfbahkflaaGreatDoor Go.Proofs.YthodmdfbahkflaaGreatDoor.Utf Go.Proofs.YthodmdfbahkflaaGreatDoor.Names Go.Proofs.YthodmdfbahkflaaGreatDoor.Ent
set_option maxRecDepth 100000

end Go.Proofs.YthodmdfbahkflaaGreatDoor.Tok
namespace Go.Proofs.YthodmdfbahkflaaGreatDoor.Tok
open Go Go.Proofs.YthodmdfbahkflaaGreatDoor Go.Proofs.YthodmdfbahkflaaGreatDoor.Utf Go.Proofs.YthodmdfbahkflaaGreatDoor.Names Go.Proofs.YthodmdfbahkflaaGreatDoor.Ent
set_option maxRecDepth 100000

theorem nth_mid (x m : List UInt8) (b : UInt8) : nth (x ++ b :: m) x.length = b.toNat := by simp [nth, List.getD]
/-- A < behind changes no character. -/
theorem rune_lt (x m : List UInt8) (hx : x ≠ []) : rune (x ++ 60 :: m) = rune x := by
  have hl := List.length_pos_iff.2 hx
  by_cases h : (rune x).2 = 0
  · rw [rune_none h]
    apply rune_none
    apply Classical.byContradiction
    intro k
    have hk : (rune (x ++ 60 :: m)).2 ≤ x.length := by
      apply Classical.byContradiction
      intro c
      have := Utf.rune_low k (j := x.length) (by omega) (by rw [nth_mid]; decide)
      rw [this] at c
      exact c hl
    have := rune_own (x ++ 60 :: m) x _ rfl k hk (fun i hi => (nth_append_left x (60 :: m) i (by omega)).symm)
    rw [this] at h
    exact k h
  · exact rune_append _ h
theorem run_lt : ∀ (n : Nat) (x m : List UInt8), x.length = n → run (x ++ 60 :: m) = run x := by
  intro n
  induction n using Nat.strongRecOn with
  | _ n ih =>
    intro x m hn
    by_cases hx : x = []
    · subst hx
      have hb : rune (60 :: m) = (60, 1) := rune_byte 60 (by decide) (by decide) m
      rw [List.nil_append, run_nil]
      refine run_stop (fun c => ?_)
      rw [hb] at c
      exact absurd c.2 (by decide)
    · have hr := rune_lt x m hx
      by_cases c : (rune x).2 ≠ 0 ∧ qn (rune x).1 = true
      · have hle := rune_le x
        rw [run_step (by rw [hr]; exact c.1) (by rw [hr]; exact c.2), run_step c.1 c.2, hr, drop_append_le x _ _ hle.1]
        rw [ih (x.drop (rune x).2).length (by simp; omega) _ m rfl]
      · rw [run_stop (by rw [hr]; exact c), run_stop c]
theorem nameLen_lt (x m : List UInt8) (hx : x ≠ []) : nameLen (x ++ 60 :: m) = nameLen x := by
  unfold nameLen
  rw [rune_lt x m hx, run_lt _ x m rfl]
theorem runF_le : ∀ (f : Nat) (l : List UInt8), runF f l ≤ l.length
  | 0, l => by simp [runF]
  | f + 1, l => by
    unfold runF
    split
    · have := runF_le f (l.drop (rune l).2)
      have hr := rune_le l
      simp only [List.length_drop] at this
      omega
    · omega
theorem nameLen_le (l : List UInt8) : nameLen l ≤ l.length := by
  unfold nameLen
  split
  · exact runF_le _ l
  · omega
theorem nameR_is {l nm : List UInt8} {k : Nat} (h : nameR l = .ok nm k) : nm = l.take k ∧ 1 ≤ k ∧ k ≤ l.length ∧ l ≠ [] := by
  unfold nameR at h
  split at h
  · cases h
  split at h
  · injection h with h1 h2
    have := nameLen_le l
    refine ⟨by rw [← h1, ← h2], by omega, by omega, ?_⟩
    rintro rfl
    simp at this; omega
  · cases h
theorem nameR_lt {l nm : List UInt8} {k : Nat} (h : nameR l = .ok nm k) (m : List UInt8) : nameR (l ++ 60 :: m) = .ok nm k := by
  have hi := nameR_is h
  have hn := nameLen_lt l m hi.2.2.2
  have hle := nameLen_le l
  unfold nameR at h ⊢
  rw [hn, List.take_append_of_le_length hle]
  split at h
  · cases h
  · rename_i c
    rw [if_neg c]
    split at h
    · rename_i c2; rw [if_pos c2]; exact h
    · cases h
theorem blanks_lt : ∀ (x m : List UInt8), blanks (x ++ 60 :: m) = blanks x
  | [], m => by
    have : isSp 60 = false := by decide
    simp [blanks, List.takeWhile_cons, this]
  | a :: x, m => by
    have ih := blanks_lt x m
    unfold blanks at *
    by_cases c : isSp a = true
    · simp only [List.cons_append, List.takeWhile_cons, c, if_true, List.length_cons, ih]
    · simp [List.takeWhile_cons, c]
theorem blanks_le (x : List UInt8) : blanks x ≤ x.length := by unfold blanks; exact (List.takeWhile_prefix isSp).length_le
theorem valueR_lt {l v : List UInt8} {n : Nat} (h : valueR l = .ok v n) (m : List UInt8) : valueR (l ++ m) = .ok v n ∧ n ≤ l.length := by
  cases l with
  | nil => unfold valueR at h; cases h
  | cons q r =>
    unfold valueR at h
    simp only at h
    split at h
    · rename_i hq
      cases hf : firstAt q r with
      | none =>
        rw [hf] at h
        simp only at h
        split at h <;> cases h
      | some k =>
        rw [hf] at h
        simp only at h
        have hlt := firstAt_lt hf
        split at h
        · cases h
        · rename_i c
          injection h with h1 h2
          refine ⟨?_, by simp; omega⟩
          rw [List.cons_append]
          unfold valueR
          simp only
          rw [if_pos hq, firstAt_ahead m hf]
          simp only
          rw [List.take_append_of_le_length (by omega), if_neg c, h1, h2]
    · cases h
theorem equalR_lt {l v : List UInt8} {n : Nat} (h : equalR l = .ok v n) (m : List UInt8) : equalR (l ++ 60 :: m) = .ok v n ∧ n ≤ l.length := by
  have hbl := blanks_le l
  unfold equalR at h
  cases hd : l.drop (blanks l) with
  | nil => rw [hd] at h; cases h
  | cons c r =>
    rw [hd] at h
    have hlen : l.length = blanks l + (r.length + 1) := by
      have := congrArg List.length hd
      simp at this; omega
    by_cases hc : c = 61
    · subst hc
      simp only at h
      have hbr := blanks_le r
      cases hv : valueR (r.drop (blanks r)) with
      | bad p e => rw [hv] at h; simp only [Res.from] at h; cases h
      | ok w k =>
        rw [hv] at h
        simp only [Res.from] at h
        injection h with h1 h2
        obtain ⟨e1, e2⟩ := valueR_lt hv (60 :: m)
        rw [List.length_drop] at e2
        refine ⟨?_, by omega⟩
        unfold equalR
        rw [blanks_lt, drop_append_le l _ _ hbl, hd, List.cons_append]
        simp only
        rw [blanks_lt, drop_append_le r _ _ hbr, e1]
        simp only [Res.from]
        rw [h1, h2]
    · split at h
      · rename_i heq; injection heq with heq _; exact absurd heq hc
      · cases h
theorem attrT_lt {seen : List (List UInt8)} {l : List UInt8} {x : List UInt8 × List UInt8} {n : Nat} (h : attrT seen l = .ok x n) (m : List UInt8) : attrT seen (l ++ 60 :: m) = .ok x n ∧ n ≤ l.length ∧ 1 ≤ n ∧ x.1.length ≤ n ∧ x.1 = l.take x.1.length := by
  unfold attrT at h
  cases hn : nameR l with
  | bad p e => rw [hn] at h; cases h
  | ok nm k =>
    rw [hn] at h
    simp only at h
    have hi := nameR_is hn
    split at h
    · cases h
    · rename_i c
      cases he : equalR (l.drop k) with
      | bad p e => rw [he] at h; cases h
      | ok v j =>
        rw [he] at h
        simp only at h
        injection h with h1 h2
        obtain ⟨e1, e2⟩ := equalR_lt he m
        rw [List.length_drop] at e2
        have hnl : nm.length = k := by rw [hi.1, List.length_take]; omega
        subst h1
        refine ⟨?_, by omega, by omega, by simp only; omega, by simp only; rw [hnl]; exact hi.1⟩
        unfold attrT
        rw [nameR_lt hn m]
        simp only
        rw [if_neg c, drop_append_le l _ _ hi.2.2.1, e1]
        simp only [h2]
theorem attrsF_lt : ∀ (f : Nat) (seen : List (List UInt8)) (l : List UInt8) (xs : List Pr) (n : Nat), attrsF f seen l = .ok xs n → ∀ (m : List UInt8) (g : Nat), f ≤ g → attrsF g seen (l ++ 60 :: m) = .ok xs n ∧ n ≤ l.length
  | 0, seen, l, xs, n, h, m, g, hg => by unfold attrsF at h; cases h
  | f + 1, seen, l, xs, n, h, m, g, hg => by
    obtain ⟨g', rfl⟩ : ∃ g', g = g' + 1 := ⟨g - 1, by omega⟩
    have hbl := blanks_le l
    unfold attrsF at h ⊢
    rw [blanks_lt, drop_append_le l _ _ hbl]
    cases hd : l.drop (blanks l) with
    | nil => rw [hd] at h; cases h
    | cons c r =>
      rw [hd] at h
      have hlen : l.length = blanks l + (r.length + 1) := by
        have := congrArg List.length hd
        simp at this; omega
      rw [List.cons_append]
      simp only at h ⊢
      split at h
      · rename_i hc
        rw [if_pos hc]
        injection h with h1 h2
        exact ⟨by rw [h1, h2], by omega⟩
      · rename_i hc
        rw [if_neg hc]
        split at h
        · cases h
        · rename_i hb
          rw [if_neg hb]
          cases ha : attrT seen (c :: r) with
          | bad p e => rw [ha] at h; cases h
          | ok x k =>
            rw [ha] at h
            obtain ⟨nm, v⟩ := x
            simp only at h
            obtain ⟨e1, e2, e3, _, _⟩ := attrT_lt ha m
            rw [List.cons_append] at e1
            rw [e1]
            simp only
            have hdr : (c :: (r ++ 60 :: m)).drop k = (c :: r).drop k ++ 60 :: m := by
              rw [← List.cons_append]; exact drop_append_le _ _ _ e2
            rw [hdr]
            cases hr : attrsF f (nm :: seen) ((c :: r).drop k) with
            | bad p e => rw [hr] at h; cases h
            | ok ys j =>
              rw [hr] at h
              simp only at h
              injection h with h1 h2
              obtain ⟨i1, i2⟩ := attrsF_lt f (nm :: seen) _ ys j hr m g' (by omega)
              rw [List.length_drop] at i2
              rw [i1]
              simp only
              simp only [List.length_cons] at e2 i2
              exact ⟨by rw [h1, h2], by omega⟩
theorem tagR_lt {r : List UInt8} {t : Tok} {n : Nat} (h : tagR r = .ok t n) (m : List UInt8) : tagR (r ++ 60 :: m) = .ok t n ∧ n ≤ r.length := by
  unfold tagR at h
  cases hn : nameR r with
  | bad p e => rw [hn] at h; cases h
  | ok nm k =>
    rw [hn] at h
    simp only at h
    have hi := nameR_is hn
    cases ha : attrsF (r.length + 1) [] (r.drop k) with
    | bad p e => rw [ha] at h; cases h
    | ok xs j =>
      rw [ha] at h
      simp only at h
      obtain ⟨e1, e2⟩ := attrsF_lt _ _ _ _ _ ha m ((r ++ 60 :: m).length + 1) (by simp)
      rw [List.length_drop] at e2
      have hd : (r ++ 60 :: m).drop (k + j) = r.drop (k + j) ++ 60 :: m := drop_append_le _ _ _ (by omega)
      unfold tagR
      rw [nameR_lt hn m]
      simp only
      rw [drop_append_le r _ _ hi.2.2.1, e1]
      simp only
      rw [hd]
      cases hr : r.drop (k + j) with
      | nil => rw [hr] at h; cases h
      | cons c s =>
        rw [hr] at h
        have hlen : r.length = k + j + (s.length + 1) := by
          have := congrArg List.length hr
          simp at this; omega
        rw [List.cons_append]
        split at h
        · rename_i heq
          injection heq with q1 q2
          subst q1
          injection h with h1 h2
          exact ⟨by simp only [h1, h2], by omega⟩
        · rename_i heq
          injection heq with q1 q2
          subst q1 q2
          injection h with h1 h2
          simp only [List.length_cons] at hlen
          exact ⟨by simp only [List.cons_append, h1, h2], by omega⟩
        · cases h
        · cases h
theorem closeR_lt {r : List UInt8} {t : Tok} {n : Nat} (h : closeR r = .ok t n) (m : List UInt8) : closeR (r ++ 60 :: m) = .ok t n ∧ n ≤ r.length := by
  unfold closeR at h
  cases hn : nameR r with
  | bad p e => rw [hn] at h; cases h
  | ok nm k =>
    rw [hn] at h
    simp only at h
    have hi := nameR_is hn
    have hbl := blanks_le (r.drop k)
    unfold closeR
    rw [nameR_lt hn m]
    simp only
    rw [drop_append_le r _ _ hi.2.2.1, blanks_lt, drop_append_le _ _ _ hbl]
    cases hr : (r.drop k).drop (blanks (r.drop k)) with
    | nil => rw [hr] at h; cases h
    | cons c s =>
      rw [hr] at h
      have hlen : r.length = k + blanks (r.drop k) + (s.length + 1) := by
        have := congrArg List.length hr
        simp at this; omega
      rw [List.cons_append]
      split at h
      · rename_i heq
        injection heq with q1 q2
        subst q1
        injection h with h1 h2
        exact ⟨by simp only [h1, h2], by omega⟩
      · cases h
theorem find_le : ∀ (t l : List UInt8) (k : Nat), find t l = some k → k + t.length ≤ l.length := by
  intro t l k h
  have := pre_len (find_at t l k h)
  rw [List.length_drop] at this
  by_cases e : k ≤ l.length
  · omega
  · have hd : l.drop k = [] := List.drop_of_length_le (by omega)
    have hp := find_at t l k h
    rw [hd] at hp
    exfalso
    have : ∀ (t l : List UInt8) (k : Nat), find t l = some k → k ≤ l.length := by
      intro t l
      induction l with
      | nil => intro k h; unfold find at h; split at h <;> simp at h <;> omega
      | cons c r ih =>
        intro k h
        unfold find at h
        split at h
        · simp at h; omega
        · cases hf : find t r with
          | none => rw [hf] at h; cases h
          | some j => rw [hf] at h; simp at h; have := ih j hf; simp; omega
    exact e (this t l k h)
theorem pre_long : ∀ (t l m : List UInt8), t.length ≤ l.length → pre t (l ++ m) = pre t l
  | [], l, m, _ => by simp [pre]
  | a :: t, [], m, h => by simp at h
  | a :: t, c :: l, m, h => by
    have ih := pre_long t l m (by simpa using h)
    unfold pre at *
    simp only [List.cons_append, List.isPrefixOf, ih]
theorem find_lt : ∀ (t l : List UInt8) (k : Nat), t ≠ [] → find t l = some k → ∀ m, find t (l ++ m) = some k
  | t, [], k, ht, h, m => by unfold find at h; rw [if_neg ht] at h; cases h
  | t, c :: r, k, ht, h, m => by
    have hle := find_le t (c :: r) k h
    unfold find at h
    rw [List.cons_append]
    unfold find
    have hp : pre t (c :: (r ++ m)) = pre t (c :: r) := by rw [← List.cons_append]; exact pre_long t (c :: r) m (by omega)
    rw [hp]
    split at h
    · rename_i e; rw [if_pos e]; exact h
    · rename_i e
      rw [if_neg e]
      cases hf : find t r with
      | none => rw [hf] at h; cases h
      | some j => rw [hf] at h; rw [find_lt t r j ht hf m]; exact h
end Go.Proofs.YthodmdfbahkflaaGreatDoor.Tok
namespace Go.Proofs.YthodmdfbahkflaaGreatDoor.Tok
open Go Go.Proofs.YthodmdfbahkflaaGreatDoor Go.Proofs.YthodmdfbahkflaaGreatDoor.Utf Go.Proofs.YthodmdfbahkflaaGreatDoor.Names Go.Proofs.YthodmdfbahkflaaGreatDoor.Ent
set_option maxRecDepth 100000

theorem short_ne (l : List UInt8) : short l ≠ 0 := by unfold short; split <;> decide
theorem nameR_bad {l : List UInt8} {p e : Nat} (h : nameR l = .bad p e) : p ≤ l.length ∧ e ≠ 0 := by
  unfold nameR at h
  split at h
  · injection h with h1 h2; subst h1 h2; exact ⟨by omega, short_ne l⟩
  · split at h
    · cases h
    · injection h with h1 h2; subst h1 h2; exact ⟨by omega, by decide⟩
theorem valueR_bad {l : List UInt8} {p e : Nat} (h : valueR l = .bad p e) : p ≤ l.length ∧ e ≠ 0 := by
  cases l with
  | nil => unfold valueR at h; injection h with h1 h2; subst h1 h2; exact ⟨by omega, by decide⟩
  | cons q r =>
    unfold valueR at h
    simp only at h
    split at h
    · cases hf : firstAt q r with
      | none =>
        rw [hf] at h
        simp only at h
        have := tell_le true r
        split at h
        · rename_i c; injection h with h1 h2; subst h1 h2; exact ⟨by simp; omega, c⟩
        · injection h with h1 h2; subst h1 h2; exact ⟨by simp; omega, by decide⟩
      | some k =>
        rw [hf] at h
        simp only at h
        have := tell_le true (r.take k)
        rw [List.length_take] at this
        split at h
        · rename_i c; injection h with h1 h2; subst h1 h2; exact ⟨by simp; omega, c⟩
        · cases h
    · injection h with h1 h2; subst h1 h2; exact ⟨by omega, by decide⟩
theorem equalR_bad {l : List UInt8} {p e : Nat} (h : equalR l = .bad p e) : p ≤ l.length ∧ e ≠ 0 := by
  have hbl := blanks_le l
  unfold equalR at h
  split at h
  · rename_i r hd
    have hlen : l.length = blanks l + (r.length + 1) := by
      have := congrArg List.length hd
      simp at this; omega
    have hbr := blanks_le r
    cases hv : valueR (r.drop (blanks r)) with
    | ok v n => rw [hv] at h; simp only [Res.from] at h; cases h
    | bad p' e' =>
      rw [hv] at h
      simp only [Res.from] at h
      injection h with h1 h2
      have := valueR_bad hv
      rw [List.length_drop] at this
      exact ⟨by omega, by rw [← h2]; exact this.2⟩
  · injection h with h1 h2
    exact ⟨by omega, by rw [← h2]; exact short_ne _⟩
theorem attrT_bad {seen : List (List UInt8)} {l : List UInt8} {p e : Nat} (h : attrT seen l = .bad p e) : p ≤ l.length ∧ e ≠ 0 := by
  unfold attrT at h
  cases hn : nameR l with
  | bad p' e' => rw [hn] at h; simp only at h; injection h with h1 h2; subst h1 h2; exact nameR_bad hn
  | ok nm k =>
    rw [hn] at h
    simp only at h
    have hi := nameR_is hn
    split at h
    · injection h with h1 h2; subst h1 h2; exact ⟨by omega, by decide⟩
    · cases he : equalR (l.drop k) with
      | ok v n => rw [he] at h; cases h
      | bad p' e' =>
        rw [he] at h
        simp only at h
        injection h with h1 h2
        have := equalR_bad he
        rw [List.length_drop] at this
        exact ⟨by omega, by rw [← h2]; exact this.2⟩
theorem attrsF_bad : ∀ (f : Nat) (seen : List (List UInt8)) (l : List UInt8) (p e : Nat), attrsF f seen l = .bad p e → p ≤ l.length ∧ e ≠ 0
  | 0, seen, l, p, e, h => by unfold attrsF at h; injection h with h1 h2; subst h1 h2; exact ⟨by omega, by decide⟩
  | f + 1, seen, l, p, e, h => by
    have hbl := blanks_le l
    unfold attrsF at h
    split at h
    · injection h with h1 h2; subst h1 h2; exact ⟨hbl, by decide⟩
    · rename_i c r hd
      have hlen : l.length = blanks l + (r.length + 1) := by
        have := congrArg List.length hd
        simp at this; omega
      split at h
      · cases h
      · split at h
        · injection h with h1 h2; subst h1 h2; exact ⟨by omega, by decide⟩
        · cases ha : attrT seen (c :: r) with
          | bad p' e' =>
            rw [ha] at h
            simp only at h
            injection h with h1 h2
            have := attrT_bad ha
            simp only [List.length_cons] at this
            exact ⟨by omega, by rw [← h2]; exact this.2⟩
          | ok x k =>
            obtain ⟨nm, v⟩ := x
            rw [ha] at h
            simp only at h
            have hk := (attrT_lt ha []).2.1
            simp only [List.length_cons] at hk
            cases hr : attrsF f (nm :: seen) ((c :: r).drop k) with
            | ok ys j => rw [hr] at h; cases h
            | bad p' e' =>
              rw [hr] at h
              simp only at h
              injection h with h1 h2
              have := attrsF_bad f _ _ _ _ hr
              simp only [List.length_drop, List.length_cons] at this
              exact ⟨by omega, by rw [← h2]; exact this.2⟩
theorem tagR_bad {r : List UInt8} {p e : Nat} (h : tagR r = .bad p e) : p ≤ r.length ∧ e ≠ 0 := by
  unfold tagR at h
  cases hn : nameR r with
  | bad p' e' => rw [hn] at h; simp only at h; injection h with h1 h2; subst h1 h2; exact nameR_bad hn
  | ok nm k =>
    rw [hn] at h
    simp only at h
    have hi := nameR_is hn
    cases ha : attrsF (r.length + 1) [] (r.drop k) with
    | bad p' e' =>
      rw [ha] at h
      simp only at h
      injection h with h1 h2
      have := attrsF_bad _ _ _ _ _ ha
      rw [List.length_drop] at this
      exact ⟨by omega, by rw [← h2]; exact this.2⟩
    | ok xs j =>
      rw [ha] at h
      simp only at h
      have hj := (attrsF_lt _ _ _ _ _ ha [] _ (Nat.le_refl _)).2
      rw [List.length_drop] at hj
      split at h
      · cases h
      · cases h
      · rename_i m _ hd
        injection h with h1 h2
        have hlen : r.length = k + j + (m.length + 1) := by
          have := congrArg List.length hd
          simp at this; omega
        exact ⟨by omega, by rw [← h2]; exact short_ne _⟩
      · injection h with h1 h2
        exact ⟨by omega, by rw [← h2]; exact short_ne _⟩
theorem closeR_bad {r : List UInt8} {p e : Nat} (h : closeR r = .bad p e) : p ≤ r.length ∧ e ≠ 0 := by
  unfold closeR at h
  cases hn : nameR r with
  | bad p' e' => rw [hn] at h; simp only at h; injection h with h1 h2; subst h1 h2; exact nameR_bad hn
  | ok nm k =>
    rw [hn] at h
    simp only at h
    have hi := nameR_is hn
    have hbl := blanks_le (r.drop k)
    rw [List.length_drop] at hbl
    split at h
    · cases h
    · injection h with h1 h2
      exact ⟨by omega, by rw [← h2]; exact short_ne _⟩
theorem commentR_bad {l : List UInt8} (h4 : 4 ≤ l.length) {p e : Nat} (h : commentR l = .bad p e) : p ≤ l.length ∧ e ≠ 0 := by
  unfold commentR at h
  cases hf : find [45, 45] (l.drop 4) with
  | none => rw [hf] at h; simp only at h; injection h with h1 h2; subst h1 h2; exact ⟨Nat.le_refl _, by decide⟩
  | some k =>
    rw [hf] at h
    have hle := find_le _ _ _ hf
    simp only [List.length_cons, List.length_nil, List.length_drop] at hle
    simp only at h
    split at h
    · cases h
    · injection h with h1 h2; subst h1 h2; exact ⟨Nat.le_refl _, by decide⟩
    · injection h with h1 h2; subst h1 h2; exact ⟨by omega, by decide⟩
theorem textR_bad {l : List UInt8} {p e : Nat} (h : textR l = .bad p e) : p ≤ l.length ∧ e ≠ 0 := by
  have hle := tell_le false (l.take (textLen l))
  rw [List.length_take] at hle
  unfold textR at h
  simp only at h
  cases hf : find [93, 93, 62] l with
  | some k =>
    rw [hf] at h
    have hk := find_le _ _ _ hf
    simp only at h
    split at h
    · injection h with h1 h2; subst h1 h2; exact ⟨by omega, by decide⟩
    · split at h
      · rename_i c; injection h with h1 h2; subst h1 h2; exact ⟨by omega, c⟩
      · cases h
  | none =>
    rw [hf] at h
    simp only at h
    split at h
    · rename_i c; injection h with h1 h2; subst h1 h2; exact ⟨by omega, c⟩
    · cases h
theorem oneR_bad {first : Bool} {l : List UInt8} {p e : Nat} (h : oneR first l = .bad p e) : p ≤ l.length ∧ e ≠ 0 := by
  unfold oneR at h
  split at h
  · unfold declR at h
    cases hf : find [63, 62] (l.drop 5) with
    | none => rw [hf] at h; simp only at h; injection h with h1 h2; subst h1 h2; exact ⟨Nat.le_refl _, by decide⟩
    | some k => rw [hf] at h; cases h
  split at h
  · rename_i c; exact commentR_bad (pre_len c) h
  split at h
  · unfold rawR at h
    cases hf : find [93, 93, 62] (l.drop 9) with
    | none => rw [hf] at h; simp only at h; injection h with h1 h2; subst h1 h2; exact ⟨Nat.le_refl _, by decide⟩
    | some k => rw [hf] at h; cases h
  split at h
  · injection h with h1 h2; subst h1 h2; exact ⟨by omega, by decide⟩
  split at h
  · rename_i c
    have hl := pre_len c
    simp only [List.length_cons, List.length_nil] at hl
    cases hc : closeR (l.drop 2) with
    | ok t k => rw [hc] at h; cases h
    | bad p' e' =>
      rw [hc] at h
      simp only [Res.up] at h
      injection h with h1 h2
      have := closeR_bad hc
      rw [List.length_drop] at this
      exact ⟨by omega, by rw [← h2]; exact this.2⟩
  split at h
  · rename_i c
    have hl := pre_len c
    simp only [List.length_cons, List.length_nil] at hl
    cases hc : tagR (l.drop 1) with
    | ok t k => rw [hc] at h; cases h
    | bad p' e' =>
      rw [hc] at h
      simp only [Res.up] at h
      injection h with h1 h2
      have := tagR_bad hc
      rw [List.length_drop] at this
      exact ⟨by omega, by rw [← h2]; exact this.2⟩
  · exact textR_bad h
end Go.Proofs.YthodmdfbahkflaaGreatDoor.Tok
namespace Go.Proofs.YthodmdfbahkflaaGreatDoor.Tok
open Go Go.Proofs.YthodmdfbahkflaaGreatDoor Go.Proofs.YthodmdfbahkflaaGreatDoor.Utf Go.Proofs.YthodmdfbahkflaaGreatDoor.Names Go.Proofs.YthodmdfbahkflaaGreatDoor.Ent
set_option maxRecDepth 100000

theorem drop_lt {l : List UInt8} {k : Nat} (h : k ≤ l.length) (m : List UInt8) : (l ++ m).drop k = l.drop k ++ m := drop_append_le l m k h
theorem commentR_lt {l : List UInt8} {o : Option Tok} {n : Nat} (h4 : 4 ≤ l.length) (h : commentR l = .ok o n) (m : List UInt8) : commentR (l ++ 60 :: m) = .ok o n ∧ n ≤ l.length ∧ 1 ≤ n := by
  unfold commentR at h ⊢
  rw [drop_lt h4]
  cases hf : find [45, 45] (l.drop 4) with
  | none => rw [hf] at h; cases h
  | some k =>
    rw [hf] at h
    rw [find_lt _ _ _ (by simp) hf]
    simp only at h ⊢
    have hle := find_le _ _ _ hf
    simp only [List.length_cons, List.length_nil, List.length_drop] at hle
    rw [drop_lt (show 4 + k + 2 ≤ l.length by omega)]
    cases hd : l.drop (4 + k + 2) with
    | nil => rw [hd] at h; cases h
    | cons c r =>
      rw [hd] at h
      have hlen : l.length = 4 + k + 2 + (r.length + 1) := by
        have := congrArg List.length hd
        simp at this; omega
      rw [List.cons_append]
      split at h
      · rename_i heq
        injection heq with q1 q2
        subst q1
        injection h with h1 h2
        exact ⟨by simp only [h1, h2], by omega, by omega⟩
      · cases h
      · cases h
theorem declR_lt {l : List UInt8} {o : Option Tok} {n : Nat} (h5 : 5 ≤ l.length) (h : declR l = .ok o n) (m : List UInt8) : declR (l ++ m) = .ok o n ∧ n ≤ l.length ∧ 1 ≤ n := by
  unfold declR at h ⊢
  rw [drop_lt h5]
  cases hf : find [63, 62] (l.drop 5) with
  | none => rw [hf] at h; cases h
  | some k =>
    rw [hf] at h
    rw [find_lt _ _ _ (by simp) hf]
    simp only at h ⊢
    have hle := find_le _ _ _ hf
    simp only [List.length_cons, List.length_nil, List.length_drop] at hle
    injection h with h1 h2
    exact ⟨by rw [h1, h2], by omega, by omega⟩
theorem rawR_lt {l : List UInt8} {o : Option Tok} {n : Nat} (h9 : 9 ≤ l.length) (h : rawR l = .ok o n) (m : List UInt8) : rawR (l ++ m) = .ok o n ∧ n ≤ l.length ∧ 1 ≤ n := by
  unfold rawR at h ⊢
  rw [drop_lt h9]
  cases hf : find [93, 93, 62] (l.drop 9) with
  | none => rw [hf] at h; cases h
  | some k =>
    rw [hf] at h
    rw [find_lt _ _ _ (by simp) hf]
    have hle := find_le _ _ _ hf
    simp only [List.length_cons, List.length_nil, List.length_drop] at hle
    have ht : (l.drop 9 ++ m).take k = (l.drop 9).take k := List.take_append_of_le_length (by simp; omega)
    simp only at h ⊢
    rw [ht]
    injection h with h1 h2
    exact ⟨by rw [h1, h2], by omega, by omega⟩
theorem textLen_lt (l m : List UInt8) : textLen (l ++ 60 :: m) = textLen l := by
  unfold textLen
  cases hf : firstAt 60 l with
  | none => rw [firstAt_between m hf]; rfl
  | some k => rw [firstAt_ahead _ hf]; rfl
theorem textLen_le (l : List UInt8) : textLen l ≤ l.length := by
  unfold textLen
  cases hf : firstAt 60 l with
  | none => simp
  | some k => have := firstAt_lt hf; simp; omega
theorem find_text (l m : List UInt8) (k : Nat) (h0 : find [93, 93, 62] l = none) (h : find [93, 93, 62] (l ++ 60 :: m) = some k) : l.length ≤ k := by
  apply Classical.byContradiction
  intro hlt
  obtain ⟨x, hx⟩ := (pre_iff _ _).1 (find_at _ _ _ h)
  have g : ∀ j, (l ++ 60 :: m)[k + j]? = ([93, 93, 62] ++ x)[j]? := fun j => by rw [← hx, List.getElem?_drop]
  have g1 := g 1
  have g2 := g 2
  simp at g1 g2
  by_cases c1 : k + 2 < l.length
  · -- then it stands in l
    have hp : pre [93, 93, 62] (l.drop k) = true := by
      have := find_at _ _ _ h
      rw [drop_lt (by omega), pre_long _ _ _ (by simp; omega)] at this
      exact this
    have : ∀ (l : List UInt8) (k : Nat), pre [93, 93, 62] (l.drop k) = true → find [93, 93, 62] l ≠ none := by
      intro l
      induction l with
      | nil => intro k hk; simp [pre] at hk
      | cons c r ih =>
        intro k hk hn
        unfold find at hn
        split at hn
        · cases hn
        · rename_i e
          cases k with
          | zero => exact e hk
          | succ k =>
            cases hf : find [93, 93, 62] r with
            | none => exact ih k hk hf
            | some j => rw [hf] at hn; cases hn
    exact this l k hp h0
  · by_cases c2 : k + 1 < l.length
    · rw [List.getElem?_append_right (by omega)] at g2
      have : k + 2 - l.length = 0 := by omega
      rw [this] at g2
      simp at g2
    · rw [List.getElem?_append_right (by omega)] at g1
      have : k + 1 - l.length = 0 := by omega
      rw [this] at g1
      simp at g1
theorem textR_lt {l : List UInt8} {o : Option Tok} {n : Nat} (h0 : l ≠ []) (hh : ∀ r, l ≠ 60 :: r) (h : textR l = .ok o n) (m : List UInt8) : textR (l ++ 60 :: m) = .ok o n ∧ n ≤ l.length ∧ 1 ≤ n := by
  have hle := textLen_le l
  have htk : (l ++ 60 :: m).take (textLen l) = l.take (textLen l) := List.take_append_of_le_length hle
  have h1 : 1 ≤ textLen l := by
    unfold textLen
    cases hf : firstAt 60 l with
    | none => have := List.length_pos_iff.2 h0; simp; omega
    | some k =>
      simp only [Option.getD_some]
      cases k with
      | zero =>
        have := (firstAt_at hf).1
        obtain ⟨c, r, rfl⟩ := List.exists_cons_of_ne_nil h0
        simp at this
        exact absurd (by rw [this]) (hh r)
      | succ k => omega
  unfold textR at h ⊢
  rw [textLen_lt, htk]
  simp only at h ⊢
  have key : ∀ k, find [93, 93, 62] l = none → find [93, 93, 62] (l ++ 60 :: m) = some k → ¬ k < textLen l := fun k a b => by
    have := find_text l m k a b; omega
  cases hf : find [93, 93, 62] l with
  | some k =>
    rw [hf] at h
    rw [find_lt _ _ _ (by simp) hf]
    simp only at h ⊢
    split at h
    · cases h
    · rename_i c1
      rw [if_neg c1]
      split at h
      · cases h
      · rename_i c2
        rw [if_neg c2]
        injection h with h2 h3
        exact ⟨by rw [h2, h3], by omega, by omega⟩
  | none =>
    rw [hf] at h
    simp only at h
    split at h
    · cases h
    · rename_i c2
      injection h with h2 h3
      cases hf2 : find [93, 93, 62] (l ++ 60 :: m) with
      | none => simp only; rw [if_neg c2]; exact ⟨by rw [h2, h3], by omega, by omega⟩
      | some k =>
        simp only
        rw [if_neg (fun c => key k hf hf2 c.1), if_neg c2]
        exact ⟨by rw [h2, h3], by omega, by omega⟩
theorem pre_lt : ∀ (q x m : List UInt8), 60 ∉ q → pre q (x ++ 60 :: m) = pre q x
  | [], x, m, _ => by simp [pre]
  | a :: q, [], m, h => by
    have : a ≠ 60 := fun e => h (by simp [e])
    simp [pre, List.isPrefixOf, this]
  | a :: q, c :: x, m, h => by
    have ih := pre_lt q x m (fun e => h (by simp [e]))
    unfold pre at *
    simp only [List.cons_append, List.isPrefixOf, ih]
theorem pre_lt1 (q l m : List UInt8) (h0 : l ≠ []) (h : 60 ∉ q) : pre (60 :: q) (l ++ 60 :: m) = pre (60 :: q) l := by
  obtain ⟨c, r, rfl⟩ := List.exists_cons_of_ne_nil h0
  have := pre_lt q r m h
  unfold pre at *
  simp only [List.cons_append, List.isPrefixOf, this]
theorem decl_lt (l m : List UInt8) (h0 : l ≠ []) : decl (l ++ 60 :: m) = decl l := by
  unfold decl
  rw [pre_lt1 _ l m h0 (by decide)]
  by_cases hp : pre [60, 63, 120, 109, 108] l = true
  · have hlen := pre_len hp
    rw [drop_lt (show 5 ≤ l.length from hlen)]
    cases hd : l.drop 5 with
    | nil =>
      have : isSp 60 = false := by decide
      simp [this]
    | cons c r => rfl
  · rw [show pre [60, 63, 120, 109, 108] l = false from by simpa using hp]; rfl
/-- A < behind changes nothing of what stands there. -/
theorem oneR_lt {first : Bool} {l : List UInt8} {o : Option Tok} {n : Nat} (h0 : l ≠ []) (h : oneR first l = .ok o n) (m : List UInt8) : oneR first (l ++ 60 :: m) = .ok o n ∧ n ≤ l.length ∧ 1 ≤ n := by
  unfold oneR at h ⊢
  rw [decl_lt l m h0, pre_lt1 _ l m h0 (by decide), pre_lt1 _ l m h0 (by decide), pre_lt1 _ l m h0 (by decide), pre_lt1 _ l m h0 (by decide), pre_lt1 _ l m h0 (by decide), pre_lt1 _ l m h0 (by decide)]
  by_cases c0 : first = true ∧ decl l = true
  · rw [if_pos c0] at h ⊢
    have : 5 ≤ l.length := by
      have h2 := c0.2
      unfold decl at h2
      rw [Bool.and_eq_true] at h2
      exact pre_len h2.1
    exact declR_lt this h _
  rw [if_neg c0] at h ⊢
  by_cases c1 : pre [60, 33, 45, 45] l = true
  · rw [if_pos c1] at h ⊢
    exact commentR_lt (pre_len c1) h m
  rw [if_neg c1] at h ⊢
  by_cases c2 : pre [60, 33, 91, 67, 68, 65, 84, 65, 91] l = true
  · rw [if_pos c2] at h ⊢
    exact rawR_lt (pre_len c2) h _
  rw [if_neg c2] at h ⊢
  by_cases c3 : pre [60, 33] l = true ∨ pre [60, 63] l = true
  · rw [if_pos c3] at h; cases h
  rw [if_neg c3] at h ⊢
  by_cases c4 : pre [60, 47] l = true
  · rw [if_pos c4] at h ⊢
    have h2 := pre_len c4
    simp only [List.length_cons, List.length_nil] at h2
    rw [drop_lt h2]
    cases hc : closeR (l.drop 2) with
    | bad p e => rw [hc] at h; cases h
    | ok t k =>
      rw [hc] at h
      obtain ⟨e1, e2⟩ := closeR_lt hc m
      rw [e1]
      simp only [Res.up] at h ⊢
      injection h with q1 q2
      rw [List.length_drop] at e2
      exact ⟨by rw [q1, q2], by omega, by omega⟩
  rw [if_neg c4] at h ⊢
  by_cases c5 : pre [60] l = true
  · rw [if_pos c5] at h ⊢
    have h2 := pre_len c5
    simp only [List.length_cons, List.length_nil] at h2
    rw [drop_lt h2]
    cases hc : tagR (l.drop 1) with
    | bad p e => rw [hc] at h; cases h
    | ok t k =>
      rw [hc] at h
      obtain ⟨e1, e2⟩ := tagR_lt hc m
      rw [e1]
      simp only [Res.up] at h ⊢
      injection h with q1 q2
      rw [List.length_drop] at e2
      exact ⟨by rw [q1, q2], by omega, by omega⟩
  rw [if_neg c5] at h ⊢
  refine textR_lt h0 (fun r e => ?_) h m
  subst e
  exact c5 rfl
theorem toksF_eq : ∀ (f g : Nat) (first : Bool) (l : List UInt8), l.length ≤ f → l.length ≤ g → toksF f first l = toksF g first l
  | 0, 0, first, l, _, _ => rfl
  | 0, g + 1, first, l, h, _ => by
    have : l = [] := List.eq_nil_of_length_eq_zero (by omega)
    subst this; simp [toksF]
  | f + 1, 0, first, l, _, h => by
    have : l = [] := List.eq_nil_of_length_eq_zero (by omega)
    subst this; simp [toksF]
  | f + 1, g + 1, first, l, h1, h2 => by
    unfold toksF
    by_cases c : l = []
    · rw [if_pos c, if_pos c]
    · rw [if_neg c, if_neg c]
      cases ho : oneR first l with
      | bad p e => rfl
      | ok o n =>
        have hn := (oneR_lt c ho []).2
        simp only
        rw [toksF_eq f g false (l.drop n) (by simp; omega) (by simp; omega)]
/-- Tokens, and those behind them. -/
def join (ts : List Tok) (k : Nat) : Res (List Tok) → Res (List Tok)
  | .bad p e => .bad (k + p) e
  | .ok us j => .ok (ts ++ us.map (Tok.shift k)) (k + j)
theorem toks_nil (first : Bool) : toks first [] = .ok [] 0 := rfl
theorem toks_bad {first : Bool} {l : List UInt8} {p e : Nat} (h0 : l ≠ []) (h : oneR first l = .bad p e) : toks first l = .bad p e := by
  unfold toks
  cases hl : l.length with
  | zero => exact absurd (List.eq_nil_of_length_eq_zero hl) h0
  | succ n => unfold toksF; rw [if_neg h0, h]
theorem toks_step {first : Bool} {l : List UInt8} {o : Option Tok} {n : Nat} (h0 : l ≠ []) (h : oneR first l = .ok o n) : toks first l = join o.toList n (toks false (l.drop n)) := by
  have hn := (oneR_lt h0 h []).2
  unfold toks
  cases hl : l.length with
  | zero => exact absurd (List.eq_nil_of_length_eq_zero hl) h0
  | succ k =>
    conv => lhs; unfold toksF
    rw [if_neg h0, h]
    simp only
    rw [toksF_eq k (l.drop n).length false (l.drop n) (by simp; omega) (Nat.le_refl _)]
    rfl
theorem shift_shift (a b : Nat) (t : Tok) : Tok.shift a (Tok.shift b t) = Tok.shift (a + b) t := by
  have hp : ∀ p : Pr, Pr.shift a (Pr.shift b p) = Pr.shift (a + b) p := fun p => by simp only [Pr.shift]; congr 1; omega
  simp only [Tok.shift, List.map_map]
  congr 1
  · omega
  · exact List.map_congr_left (fun p _ => hp p)
theorem join_join (xs ys : List Tok) (a b : Nat) (r : Res (List Tok)) : join xs a (join ys b r) = join (xs ++ ys.map (Tok.shift a)) (a + b) r := by
  cases r with
  | bad p e => simp only [join]; congr 1; omega
  | ok us j =>
    simp only [join, List.map_append, List.map_map, List.append_assoc]
    congr 1
    · congr 2
      exact List.map_congr_left (fun t _ => shift_shift a b t)
    · omega
/-- Where right bytes end, what begins with a < goes on. -/
theorem toks_lt : ∀ (n : Nat) (l : List UInt8), l.length = n → ∀ (first : Bool) (ts : List Tok) (k : Nat), toks first l = .ok ts k → k = l.length ∧ (l ≠ [] → ∀ m, toks first (l ++ 60 :: m) = join ts l.length (toks false (60 :: m))) := by
  intro n
  induction n using Nat.strongRecOn with
  | _ n ih =>
    intro l hn first ts k h
    by_cases h0 : l = []
    · subst h0
      rw [toks_nil] at h
      injection h with _ h
      exact ⟨h.symm, fun e => absurd rfl e⟩
    · cases ho : oneR first l with
      | bad p e => rw [toks_bad h0 ho] at h; cases h
      | ok o j =>
        have hj := oneR_lt h0 ho []
        rw [toks_step h0 ho] at h
        cases ht : toks false (l.drop j) with
        | bad p e => rw [ht] at h; cases h
        | ok us i =>
          rw [ht] at h
          simp only [join] at h
          injection h with h1 h2
          have hi := ih (l.drop j).length (by simp; omega) (l.drop j) rfl false us i ht
          have hil := hi.1
          rw [List.length_drop] at hil
          refine ⟨by omega, fun _ m => ?_⟩
          have ho2 := (oneR_lt h0 ho m).1
          have hne : l ++ 60 :: m ≠ [] := by simp
          rw [toks_step hne ho2, drop_lt hj.2.1]
          by_cases hd : l.drop j = []
          · have hjl : j = l.length := by
              have := congrArg List.length hd
              simp at this; omega
            rw [hd, toks_nil] at ht
            injection ht with ht1 ht2
            subst ht1
            rw [hd, List.nil_append, ← h1, hjl]
            simp
          · rw [hi.2 hd m, join_join, ← h1]
            congr 1
            rw [List.length_drop]; omega
theorem toks_err : ∀ (n : Nat) (l : List UInt8), l.length = n → ∀ (first : Bool) (p e : Nat), toks first l = .bad p e → p ≤ l.length ∧ e ≠ 0 := by
  intro n
  induction n using Nat.strongRecOn with
  | _ n ih =>
    intro l hn first p e h
    by_cases h0 : l = []
    · subst h0; rw [toks_nil] at h; cases h
    · cases ho : oneR first l with
      | bad p' e' =>
        rw [toks_bad h0 ho] at h
        injection h with h1 h2
        subst h1 h2
        exact oneR_bad ho
      | ok o j =>
        have hj := (oneR_lt h0 ho []).2
        rw [toks_step h0 ho] at h
        cases ht : toks false (l.drop j) with
        | ok us i => rw [ht] at h; cases h
        | bad p' e' =>
          rw [ht] at h
          simp only [join] at h
          injection h with h1 h2
          have := ih (l.drop j).length (by simp; omega) _ rfl false p' e' ht
          rw [List.length_drop] at this
          exact ⟨by omega, by rw [← h2]; exact this.2⟩
theorem tokens_ok {b : List UInt8} {ts : List Tok} {n : Nat} (h : tokens b = (ts, n, 0)) : n = b.length ∧ Ck b ∧ b.length ≤ 16777216 ∧ ∃ k, toks true b = .ok ts k := by
  unfold tokens at h
  split at h
  · injection h with _ h; injection h with _ h; cases h
  rename_i hl
  split at h
  · injection h with _ h; injection h with _ h; cases h
  rename_i hc
  have hcl := check_le b
  cases ht : toks true b with
  | bad p e =>
    rw [ht] at h
    simp only at h
    injection h with h1 h2
    injection h2 with h2 h3
    subst h3
    exact absurd rfl (toks_err _ _ rfl _ _ _ ht).2
  | ok us k =>
    rw [ht] at h
    simp only at h
    injection h with h1 h2
    injection h2 with h2 h3
    exact ⟨h2.symm, by unfold Ck; omega, by omega, k, by rw [h1]⟩
theorem tokens_of {b : List UInt8} (hc : Ck b) (hl : b.length ≤ 16777216) : tokens b = match toks true b with | .ok ts _ => (ts, b.length, 0) | .bad p e => ([], p, e) := by
  unfold Ck at hc
  unfold tokens
  rw [if_neg (by omega), if_neg (by omega)]
  all_goals (cases toks true b <;> rfl)
end Go.Proofs.YthodmdfbahkflaaGreatDoor.Tok
namespace Go.Proofs.YthodmdfbahkflaaGreatDoor.Tok
open Go Go.Proofs.YthodmdfbahkflaaGreatDoor Go.Proofs.YthodmdfbahkflaaGreatDoor.Utf Go.Proofs.YthodmdfbahkflaaGreatDoor.Names Go.Proofs.YthodmdfbahkflaaGreatDoor.Ent
set_option maxRecDepth 100000

/-- At an attribute's place there stands its name. -/
def GoodA (l : List UInt8) (a : Pr) : Prop := 0 ≤ a.place ∧ a.place + a.name.length ≤ l.length ∧ (l.drop a.place.toNat).take a.name.length = a.name
/-- At a token's place there stands a <, or a text; its attributes stand behind that. -/
def GoodT (l : List UInt8) (t : Tok) : Prop := 0 ≤ t.place ∧ t.place < l.length ∧ (t.kind ≠ 3 → l[t.place.toNat]? = some 60) ∧ ∀ a ∈ t.attrs, t.place < a.place ∧ GoodA l a
/-- Tokens' places rise. -/
def Rise (l : List UInt8) : Int → List Tok → Prop
  | _, [] => True
  | last, t :: r => last < t.place ∧ GoodT l t ∧ Rise l t.place r
theorem GoodA.shift {l : List UInt8} {k : Nat} {a : Pr} (h : GoodA (l.drop k) a) (hk : k ≤ l.length) : GoodA l (a.shift k) := by
  obtain ⟨h1, h2, h3⟩ := h
  rw [List.length_drop] at h2
  rw [List.drop_drop] at h3
  have e : (k + a.place).toNat = k + a.place.toNat := by omega
  refine ⟨by simp only [Pr.shift]; omega, by simp only [Pr.shift]; omega, ?_⟩
  simp only [Pr.shift]
  rw [e]; exact h3
theorem GoodT.shift {l : List UInt8} {k : Nat} {t : Tok} (h : GoodT (l.drop k) t) (hk : k ≤ l.length) : GoodT l (t.shift k) := by
  obtain ⟨h1, h2, h3, h4⟩ := h
  rw [List.length_drop] at h2
  have e : (k + t.place).toNat = k + t.place.toNat := by omega
  refine ⟨by simp only [Tok.shift]; omega, by simp only [Tok.shift]; omega, fun c => ?_, fun a ha => ?_⟩
  · simp only [Tok.shift]
    rw [e, ← List.getElem?_drop]
    exact h3 c
  · simp only [Tok.shift] at ha ⊢
    obtain ⟨b, hb, rfl⟩ := List.mem_map.1 ha
    obtain ⟨q1, q2⟩ := h4 b hb
    exact ⟨by simp only [Pr.shift]; omega, q2.shift hk⟩
theorem Rise.mono {l : List UInt8} : ∀ (ts : List Tok) (a b : Int), b ≤ a → Rise l a ts → Rise l b ts
  | [], a, b, h, _ => trivial
  | t :: r, a, b, h, k => ⟨by have := k.1; omega, k.2.1, k.2.2⟩
theorem Rise.shift {l : List UInt8} {k : Nat} (hk : k ≤ l.length) : ∀ (ts : List Tok) (a : Int), Rise (l.drop k) a ts → Rise l (k + a) (ts.map (Tok.shift k))
  | [], a, _ => trivial
  | t :: r, a, h => by
    refine ⟨by simp only [Tok.shift]; have := h.1; omega, h.2.1.shift hk, ?_⟩
    exact Rise.shift hk r t.place h.2.2

theorem closeR_good {r : List UInt8} {t : Tok} {n : Nat} (h : closeR r = .ok t n) : t.place = 0 ∧ t.attrs = [] ∧ t.kind ≠ 3 := by
  unfold closeR at h
  cases hn : nameR r with
  | bad p' e' => rw [hn] at h; cases h
  | ok nm k =>
    rw [hn] at h
    simp only at h
    split at h
    · injection h with h1 h2; subst h1; exact ⟨rfl, rfl, by simp⟩
    · cases h
end Go.Proofs.YthodmdfbahkflaaGreatDoor.Tok
