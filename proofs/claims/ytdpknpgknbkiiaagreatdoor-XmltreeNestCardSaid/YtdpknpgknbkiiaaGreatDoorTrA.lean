/- Plain mathematics of layer 5: elements in elements. No program in it. | Plain mathematics of layer 5: elements in elements, up to the greatest depth. | Plain mathematics of layer 5: a document within an element is its child. | Plain mathematics: the tokens that are read are no longer than the bytes, four times. | Plain mathematics: there are no more tokens than bytes, and no more attributes. | Plain mathematics of layer 5: what a state may be behind so many tokens. -/
import Derived.Test.YtdpknpgknbkiiaaGreatDoorTkA
set_option linter.unusedVariables false
set_option linter.unusedSimpArgs false
namespace Go.Proofs.YtdpknpgknbkiiaaGreatDoor.Tree
open Go Go.Proofs.YtdpknpgknbkiiaaGreatDoor Go.Proofs.YtdpknpgknbkiiaaGreatDoor.Utf Go.Proofs.YtdpknpgknbkiiaaGreatDoor.Names Go.Proofs.YtdpknpgknbkiiaaGreatDoor.Ent Go.Proofs.YtdpknpgknbkiiaaGreatDoor.Tok
set_option maxRecDepth 100000

/-- A namespace and a local name. -/
abbrev Nm := List UInt8 × List UInt8
/-- Namespaces that are given to prefixes, the last one first. -/
abbrev Sp := List (List UInt8 × List UInt8)
structure Att where
  nm : Nm
  value : List UInt8
inductive Node where
  | mk (place : Int) (nm : Nm) (attrs : List Att) (kids : List Node) (text : List UInt8)
def Node.place : Node → Int | .mk p _ _ _ _ => p
def Node.nm : Node → Nm | .mk _ n _ _ _ => n
def Node.attrs : Node → List Att | .mk _ _ a _ _ => a
def Node.kids : Node → List Node | .mk _ _ _ k _ => k
def Node.text : Node → List UInt8 | .mk _ _ _ _ t => t
def noNode : Node := .mk 0 ([], []) [] [] []

def xmlns : List UInt8 := [120, 109, 108, 110, 115]
def xml : List UInt8 := [120, 109, 108]
/-- http://www.w3.org/XML/1998/namespace -/
def xmlSpace : List UInt8 := [104, 116, 116, 112, 58, 47, 47, 119, 119, 119, 46, 119, 51, 46, 111, 114, 103, 47, 88, 77, 76, 47, 49, 57, 57, 56, 47, 110, 97, 109, 101, 115, 112, 97, 99, 101]
/-- http://www.w3.org/2000/xmlns/ -/
def xmlnsSpace : List UInt8 := [104, 116, 116, 112, 58, 47, 47, 119, 119, 119, 46, 119, 51, 46, 111, 114, 103, 47, 50, 48, 48, 48, 47, 120, 109, 108, 110, 115, 47]
/-- Does an attribute give a namespace? -/
def givesB (nm : List UInt8) : Bool := (nm == xmlns) || pre [120, 109, 108, 110, 115, 58] nm
/-- To which prefix? -/
def givenTo (nm : List UInt8) : List UInt8 := match firstAt 58 nm with | some k => nm.drop (k + 1) | none => []
/-- May it? -/
def mayB (p : Pr) : Bool :=
  if p.value = xmlSpace ∨ p.value = xmlnsSpace then false
  else if givenTo p.name = [] then true
  else if givenTo p.name = xml ∨ givenTo p.name = xmlns then false
  else !(p.value == [])
def get (g : Sp) (p : List UInt8) : Option (List UInt8) := (g.find? (fun x => x.1 == p)).map (·.2)
def within : Sp → List Pr → Except (Int × Nat) Sp
  | g, [] => .ok g
  | g, p :: r => if givesB p.name = false then within g r else if mayB p = false then .error (p.place, 2) else within ((givenTo p.name, p.value) :: g) r
def nameIn (g : Sp) (w bare : List UInt8) : Except Nat Nm :=
  match splitO w with
  | none => .error 6
  | some (p, s) => if p = [] then .ok (bare, s) else match get g p with
    | none => .error 7
    | some u => .ok (u, s)
/-- An element's attributes, behind those of the names that are ahead. -/
def attrsIn (g : Sp) : List Nm → List Pr → Except (Int × Nat) (List Att)
  | _, [] => .ok []
  | seen, p :: r => if givesB p.name = true then attrsIn g seen r else
    match nameIn g p.name [] with
    | .error e => .error (p.place, e)
    | .ok nm => if seen.contains nm = true then .error (p.place, 8) else
      match attrsIn g (nm :: seen) r with
      | .error x => .error x
      | .ok l => .ok (⟨nm, p.value⟩ :: l)

/-- An element that is open. -/
structure El where
  place : Int
  nm : Nm
  attrs : List Att
  kids : List Node
  written : List UInt8
  given : Sp
def El.node (e : El) : Node := .mk e.place e.nm e.attrs e.kids []
/-- What the tokens up to now told: the innermost element first. -/
structure Bs where
  opn : List El
  texts : List (Int × List UInt8)
  outer : Option Node
def atFirst : Sp := [(xml, xmlSpace), ([], [])]
def Bs.given (s : Bs) : Sp := match s.opn with | [] => atFirst | e :: _ => e.given
def addN (s : Bs) (n : Node) : Bs :=
  match s.opn with
  | [] => { s with outer := some n }
  | e :: r => { s with opn := { e with kids := e.kids ++ [n] } :: r }
def flat (l : List (Int × List UInt8)) : List UInt8 := l.flatMap (·.2)
def endT (s : Bs) : Bs :=
  match s.texts with
  | [] => s
  | t :: r => { addN s (.mk t.1 ([], []) [] [] (flat (t :: r))) with texts := [] }
def beginT (s : Bs) (t : Tok) : Except (Int × Nat) Bs :=
  if s.outer.isSome = true then .error (t.place, 5)
  else if s.opn.length = 200 then .error (t.place, 9)
  else match within s.given t.attrs with
    | .error x => .error x
    | .ok g => match nameIn g t.s ((get g []).getD []) with
      | .error e => .error (t.place, e)
      | .ok nm => match attrsIn g [] t.attrs with
        | .error x => .error x
        | .ok l => .ok (if t.kind = 2 then addN s (.mk t.place nm l [] []) else { s with opn := ⟨t.place, nm, l, [], t.s, g⟩ :: s.opn })
def endE (s : Bs) (t : Tok) : Except (Int × Nat) Bs :=
  match s.opn with
  | [] => .error (t.place, 5)
  | e :: r => if e.written ≠ t.s then .error (t.place, 5) else .ok (addN { s with opn := r } e.node)
def blankB (l : List UInt8) : Bool := l.all isSp
def stepB (s : Bs) (t : Tok) : Except (Int × Nat) Bs :=
  if t.kind = 3 then (if s.opn ≠ [] then .ok { s with texts := s.texts ++ [(t.place, t.s)] } else if blankB t.s = true then .ok s else .error (t.place, 5))
  else if t.kind = 0 ∨ t.kind = 2 then beginT (endT s) t
  else if t.kind = 1 then endE (endT s) t
  else .error (t.place, 2)
def buildS : Bs → List Tok → Except (Int × Nat) Bs
  | s, [] => .ok s
  | s, t :: r => match stepB s t with
    | .error x => .error x
    | .ok s' => buildS s' r
def Bs.out (s : Bs) (en : Int) : Node × Int × Nat := match s.outer with | none => (noNode, en, 10) | some n => (n, en, 0)
/-- The tree, the place, the error. -/
def build (l : List Tok) (en : Int) : Node × Int × Nat :=
  match buildS ⟨[], [], none⟩ l with
  | .error x => (noNode, x.1, x.2)
  | .ok s => s.out en
def read (b : List UInt8) : Node × Int × Nat :=
  if (tokens b).2.2 ≠ 0 then (noNode, (tokens b).2.1, (tokens b).2.2) else build (tokens b).1 b.length
end Go.Proofs.YtdpknpgknbkiiaaGreatDoor.Tree
namespace Go.Proofs.YtdpknpgknbkiiaaGreatDoor.Tree
open Go Go.Proofs.YtdpknpgknbkiiaaGreatDoor Go.Proofs.YtdpknpgknbkiiaaGreatDoor.Utf Go.Proofs.YtdpknpgknbkiiaaGreatDoor.Names Go.Proofs.YtdpknpgknbkiiaaGreatDoor.Ent Go.Proofs.YtdpknpgknbkiiaaGreatDoor.Tok
set_option maxRecDepth 100000

/-- The same bytes, so many times. -/
def reps (p : List UInt8) : Nat → List UInt8
  | 0 => []
  | k + 1 => p ++ reps p k
theorem reps_last (p : List UInt8) : ∀ k, reps p (k + 1) = reps p k ++ p
  | 0 => by simp [reps]
  | k + 1 => by
    show p ++ reps p (k + 1) = p ++ reps p k ++ p
    rw [reps_last p k, List.append_assoc]
theorem reps_len (p : List UInt8) : ∀ k, (reps p k).length = p.length * k
  | 0 => by simp [reps]
  | k + 1 => by rw [reps, List.length_append, reps_len p k, Nat.mul_succ]; omega
def openA : List UInt8 := [60, 97, 62]
def closeA : List UInt8 := [60, 47, 97, 62]
/-- So many tokens of a kind, from a place on. -/
def rowT (kind : Int) (d : Nat) : Nat → Nat → List Tok
  | _, 0 => []
  | p, k + 1 => ⟨kind, p, [97], []⟩ :: rowT kind d (p + d) k
theorem rowT_shift (kind : Int) (d n : Nat) : ∀ (k p : Nat), (rowT kind d p k).map (Tok.shift n) = rowT kind d (n + p) k
  | 0, p => rfl
  | k + 1, p => by
    simp only [rowT, List.map_cons]
    rw [rowT_shift kind d n k (p + d), Nat.add_assoc n p d]
    simp [Tok.shift]
theorem one_open (first : Bool) (l : List UInt8) : oneR first (openA ++ l) = .ok (some ⟨0, 0, [97], []⟩) 3 := by
  have hw : tokW (-1) ⟨0, 0, [97], []⟩ = .ok openA 0 := by rfl
  obtain ⟨t', h1, h2, _, _, h5⟩ := one_back hw first l (fun h => by cases h)
  have e : t' = ⟨0, 0, [97], []⟩ := by
    obtain ⟨k, p, s, a⟩ := t'
    unfold Tok.bare at h2
    simp only [Prod.mk.injEq, List.map_nil, List.map_eq_nil_iff] at h2
    simp only at h5
    rw [h2.1, h2.2.1, h2.2.2, h5]
  rw [h1, e]
  rfl
theorem one_close (first : Bool) (l : List UInt8) : oneR first (closeA ++ l) = .ok (some ⟨1, 0, [97], []⟩) 4 := by
  have hw : tokW (-1) ⟨1, 0, [97], []⟩ = .ok closeA 0 := by rfl
  obtain ⟨t', h1, h2, _, _, h5⟩ := one_back hw first l (fun h => by cases h)
  have e : t' = ⟨1, 0, [97], []⟩ := by
    obtain ⟨k, p, s, a⟩ := t'
    unfold Tok.bare at h2
    simp only [Prod.mk.injEq, List.map_nil, List.map_eq_nil_iff] at h2
    simp only at h5
    rw [h2.1, h2.2.1, h2.2.2, h5]
  rw [h1, e]
  rfl
theorem toks_closes : ∀ (k : Nat) (first : Bool), toks first (reps closeA k) = .ok (rowT 1 4 0 k) (4 * k)
  | 0, first => rfl
  | k + 1, first => by
    rw [reps, toks_step (by simp [closeA]) (one_close first _)]
    have e : (closeA ++ reps closeA k).drop 4 = reps closeA k := rfl
    rw [e, toks_closes k false]
    simp only [join, Option.toList_some, rowT_shift]
    rw [show 4 + 4 * k = 4 * (k + 1) from by omega]
    simp [rowT]
theorem toks_opens : ∀ (k m : Nat) (first : Bool), toks first (reps openA k ++ reps closeA m) = .ok (rowT 0 3 0 k ++ rowT 1 4 (3 * k) m) (3 * k + 4 * m)
  | 0, m, first => by
    rw [reps, List.nil_append, toks_closes]
    simp [rowT]
  | k + 1, m, first => by
    rw [reps, List.append_assoc, toks_step (by simp [openA]) (one_open first _)]
    have e : (openA ++ (reps openA k ++ reps closeA m)).drop 3 = reps openA k ++ reps closeA m := rfl
    rw [e, toks_opens k m false]
    simp only [join, Option.toList_some, List.map_append, rowT_shift]
    rw [show 3 + (3 * k + 4 * m) = 3 * (k + 1) + 4 * m from by omega, show 3 + 3 * k = 3 * (k + 1) from by omega]
    simp [rowT]
theorem ck_reps {p : List UInt8} (h : Ck p) : ∀ k, Ck (reps p k)
  | 0 => rfl
  | k + 1 => h.append (ck_reps h k)
theorem tokens_deep (k : Nat) (hk : k ≤ 300) : tokens (reps openA k ++ reps closeA k) = (rowT 0 3 0 k ++ rowT 1 4 (3 * k) k, 7 * k, 0) := by
  have hc : Ck (reps openA k ++ reps closeA k) := (ck_reps (Ck.lit (by decide)) k).append (ck_reps (Ck.lit (by decide)) k)
  have hl : (reps openA k ++ reps closeA k).length = 7 * k := by
    rw [List.length_append, reps_len, reps_len]
    show 3 * k + 4 * k = 7 * k
    omega
  rw [tokens_of hc (by omega), toks_opens, hl]

/-- An element that was opened. -/
def elA (p : Nat) : El := ⟨p, ([], [97]), [], [], [97], atFirst⟩
theorem elA_name : nameIn atFirst [97] ((get atFirst []).getD []) = .ok ([], [97]) := by rfl
def pushes : List El → Nat → Nat → List El
  | es, _, 0 => es
  | es, p, k + 1 => pushes (elA p :: es) (p + 3) k
theorem pushes_len : ∀ (k p : Nat) (es : List El), (pushes es p k).length = es.length + k
  | 0, p, es => rfl
  | k + 1, p, es => by rw [pushes, pushes_len k]; simp; omega
theorem pushes_all {P : El → Prop} (h : ∀ p, P (elA p)) : ∀ (k p : Nat) (es : List El), (∀ e ∈ es, P e) → ∀ e ∈ pushes es p k, P e
  | 0, p, es, hs => hs
  | k + 1, p, es, hs => pushes_all h k (p + 3) _ (fun e he => by
      rcases List.mem_cons.1 he with rfl | he
      · exact h p
      · exact hs e he)
/-- Elements without children, that were opened so. -/
def Plain (e : El) : Prop := e.kids = [] ∧ e.written = [97]
theorem begin_open (es : List El) (p : Nat) (hg : ∀ e ∈ es, e.given = atFirst) (hl : es.length < 200) : stepB ⟨es, [], none⟩ ⟨0, p, [97], []⟩ = .ok ⟨elA p :: es, [], none⟩ := by
  have hgv : Bs.given ⟨es, [], none⟩ = atFirst := by
    unfold Bs.given
    cases es with
    | nil => rfl
    | cons e r => exact hg e (by simp)
  unfold stepB
  rw [if_neg (by simp), if_pos (by simp)]
  have he : endT (⟨es, [], none⟩ : Bs) = ⟨es, [], none⟩ := rfl
  rw [he]
  unfold beginT
  rw [if_neg (by simp), if_neg (by simp; omega), hgv]
  simp only [within, elA_name, attrsIn]
  rw [if_neg (by simp)]
  rfl
theorem build_opens : ∀ (k p : Nat) (es : List El) (r : List Tok), (∀ e ∈ es, e.given = atFirst) → es.length + k ≤ 200 → buildS ⟨es, [], none⟩ (rowT 0 3 p k ++ r) = buildS ⟨pushes es p k, [], none⟩ r
  | 0, p, es, r, hg, hl => rfl
  | k + 1, p, es, r, hg, hl => by
    rw [rowT, List.cons_append, buildS, begin_open es p hg (by omega)]
    simp only
    rw [build_opens k (p + 3) (elA p :: es) r (fun e he => by
      rcases List.mem_cons.1 he with rfl | he
      · rfl
      · exact hg e he) (by simp; omega), pushes]
theorem build_over : ∀ (k p : Nat) (es : List El) (r : List Tok), (∀ e ∈ es, e.given = atFirst) → es.length ≤ 200 → 200 < es.length + k → buildS ⟨es, [], none⟩ (rowT 0 3 p k ++ r) = .error (((p + 3 * (200 - es.length) : Nat) : Int), 9)
  | 0, p, es, r, hg, hl, hk => by omega
  | k + 1, p, es, r, hg, hl, hk => by
    rw [rowT, List.cons_append, buildS]
    by_cases h : es.length = 200
    · have he : stepB ⟨es, [], none⟩ ⟨0, p, [97], []⟩ = .error ((p : Int), 9) := by
        unfold stepB
        rw [if_neg (by simp), if_pos (by simp)]
        have he : endT (⟨es, [], none⟩ : Bs) = ⟨es, [], none⟩ := rfl
        rw [he]
        unfold beginT
        rw [if_neg (by simp), if_pos h]
      rw [he, h]
      simp
    · rw [begin_open es p hg (by omega)]
      simp only
      rw [build_over k (p + 3) (elA p :: es) r (fun e he => by
        rcases List.mem_cons.1 he with rfl | he
        · rfl
        · exact hg e he) (by simp; omega) (by simp; omega)]
      congr 2
      simp only [List.length_cons]
      omega
/-- A node with one child, that has one, and so on. -/
inductive Chain : Nat → Node → Prop
  | one {n : Node} (h : n.kids = []) : Chain 1 n
  | more {d : Nat} {n m : Node} (h : n.kids = [m]) (hm : Chain d m) : Chain (d + 1) n
theorem end_close (e : El) (es : List El) (p : Nat) (hw : e.written = [97]) : stepB ⟨e :: es, [], none⟩ ⟨1, p, [97], []⟩ = .ok (addN ⟨es, [], none⟩ e.node) := by
  unfold stepB
  rw [if_neg (by simp), if_neg (by simp), if_pos rfl]
  have he : endT (⟨e :: es, [], none⟩ : Bs) = ⟨e :: es, [], none⟩ := rfl
  rw [he]
  unfold endE
  simp [hw]
theorem build_closes : ∀ (es : List El) (e : El) (p d : Nat), e.written = [97] → Chain d e.node → (∀ x ∈ es, Plain x) → ∃ n, buildS ⟨e :: es, [], none⟩ (rowT 1 4 p (es.length + 1)) = .ok ⟨[], [], some n⟩ ∧ Chain (d + es.length) n
  | [], e, p, d, hw, hc, hs => by
    refine ⟨e.node, ?_, hc⟩
    simp only [List.length_nil, rowT, buildS]
    rw [end_close e [] p hw]
    rfl
  | x :: es, e, p, d, hw, hc, hs => by
    obtain ⟨hk, hx⟩ := hs x (by simp)
    have hc2 : Chain (d + 1) ({ x with kids := x.kids ++ [e.node] } : El).node := .more (m := e.node) (by unfold El.node Node.kids; simp [hk]) hc
    obtain ⟨n, h1, h2⟩ := build_closes es { x with kids := x.kids ++ [e.node] } (p + 4) (d + 1) hx hc2 (fun y hy => hs y (by simp [hy]))
    refine ⟨n, ?_, by rw [List.length_cons]; rw [show d + (es.length + 1) = d + 1 + es.length from by omega]; exact h2⟩
    rw [List.length_cons, rowT, buildS, end_close e (x :: es) p hw]
    exact h1
theorem read_deep (k : Nat) (h1 : 1 ≤ k) (h2 : k ≤ 200) : ∃ n, read (reps openA k ++ reps closeA k) = (n, ((7 * k : Nat) : Int), 0) ∧ Chain k n := by
  have hl : (reps openA k ++ reps closeA k).length = 7 * k := by
    rw [List.length_append, reps_len, reps_len]
    show 3 * k + 4 * k = 7 * k
    omega
  obtain ⟨j, rfl⟩ : ∃ j, k = j + 1 := ⟨k - 1, by omega⟩
  obtain ⟨e, es, hes⟩ : ∃ e es, pushes [] 0 (j + 1) = e :: es := List.exists_cons_of_ne_nil (by
    intro h
    have := pushes_len (j + 1) 0 []
    rw [h] at this
    simp at this)
  have hlen := pushes_len (j + 1) 0 []
  rw [hes] at hlen
  simp only [List.length_cons, List.length_nil] at hlen
  have hall := pushes_all (P := Plain) (fun p => ⟨rfl, rfl⟩) (j + 1) 0 [] (by simp)
  rw [hes] at hall
  have hpe := hall e (by simp)
  have hb := build_opens (j + 1) 0 [] (rowT 1 4 (3 * (j + 1)) (j + 1)) (by simp) (by simp; omega)
  rw [hes] at hb
  obtain ⟨n, h3, h4⟩ := build_closes es e (3 * (j + 1)) 1 hpe.2 (.one (by unfold El.node Node.kids; exact hpe.1)) (fun x hx => hall x (by simp [hx]))
  have hel : es.length = j := by omega
  rw [hel] at h3 h4
  refine ⟨n, ?_, by rw [Nat.add_comm] at h4; exact h4⟩
  unfold read
  rw [tokens_deep _ (by omega)]
  simp only [ne_eq, not_true_eq_false, if_false]
  unfold build
  rw [hb, h3]
  simp only [Bs.out, hl]
theorem read_over (k : Nat) (h1 : 200 < k) (h2 : k ≤ 300) : read (reps openA k ++ reps closeA k) = (noNode, 600, 9) := by
  have hb := build_over k 0 [] (rowT 1 4 (3 * k) k) (by simp) (by simp) (by simp; omega)
  unfold read
  rw [tokens_deep _ h2]
  simp only [ne_eq, not_true_eq_false, if_false]
  unfold build
  rw [hb]
  simp
theorem read_none : read [] = (noNode, 0, 10) := by rfl
end Go.Proofs.YtdpknpgknbkiiaaGreatDoor.Tree
namespace Go.Proofs.YtdpknpgknbkiiaaGreatDoor.Tree
open Go Go.Proofs.YtdpknpgknbkiiaaGreatDoor Go.Proofs.YtdpknpgknbkiiaaGreatDoor.Utf Go.Proofs.YtdpknpgknbkiiaaGreatDoor.Names Go.Proofs.YtdpknpgknbkiiaaGreatDoor.Ent Go.Proofs.YtdpknpgknbkiiaaGreatDoor.Tok
set_option maxRecDepth 100000

/-- What is wrong has a number. -/
theorem nameIn_ne {g : Sp} {wr bare : List UInt8} {e : Nat} (h : nameIn g wr bare = .error e) : e ≠ 0 := by
  unfold nameIn at h
  split at h
  · injection h with h; omega
  · split at h
    · cases h
    · split at h
      · injection h with h; omega
      · cases h
theorem within_ne : ∀ (l : List Pr) (g : Sp) (x : Int × Nat), within g l = .error x → x.2 ≠ 0
  | [], g, x, h => by cases h
  | p :: r, g, x, h => by
    unfold within at h
    split at h
    · exact within_ne r g x h
    · split at h
      · injection h with h; subst h; simp
      · exact within_ne r _ x h
theorem attrsIn_ne : ∀ (l : List Pr) (g : Sp) (seen : List Nm) (x : Int × Nat), attrsIn g seen l = .error x → x.2 ≠ 0
  | [], g, seen, x, h => by cases h
  | p :: r, g, seen, x, h => by
    unfold attrsIn at h
    split at h
    · exact attrsIn_ne r g seen x h
    · cases hn : nameIn g p.name [] with
      | error e =>
        rw [hn] at h
        injection h with h; subst h
        exact nameIn_ne hn
      | ok nm =>
        rw [hn] at h
        dsimp only at h
        split at h
        · injection h with h; subst h; simp
        · cases hr : attrsIn g (nm :: seen) r with
          | error y =>
            rw [hr] at h
            injection h with h; subst h
            exact attrsIn_ne r g _ y hr
          | ok l =>
            rw [hr] at h
            cases h
theorem beginT_ne {s : Bs} {t : Tok} {x : Int × Nat} (h : beginT s t = .error x) : x.2 ≠ 0 := by
  unfold beginT at h
  split at h
  · injection h with h; subst h; simp
  split at h
  · injection h with h; subst h; simp
  split at h
  · rename_i hw; injection h with h; subst h; exact within_ne _ _ _ hw
  split at h
  · rename_i hn; injection h with h; subst h; exact nameIn_ne hn
  split at h
  · rename_i ha; injection h with h; subst h; exact attrsIn_ne _ _ _ _ ha
  · cases h
theorem step_ne {s : Bs} {t : Tok} {x : Int × Nat} (h : stepB s t = .error x) : x.2 ≠ 0 := by
  unfold stepB at h
  split at h
  · split at h
    · cases h
    · split at h
      · cases h
      · injection h with h; subst h; simp
  split at h
  · exact beginT_ne h
  split at h
  · unfold endE at h
    split at h
    · injection h with h; subst h; simp
    · split at h
      · injection h with h; subst h; simp
      · cases h
  · injection h with h; subst h; simp
theorem build_ne : ∀ (l : List Tok) (s : Bs) (x : Int × Nat), buildS s l = .error x → x.2 ≠ 0
  | [], s, x, h => by cases h
  | t :: r, s, x, h => by
    unfold buildS at h
    cases hs : stepB s t with
    | error y => rw [hs] at h; injection h with h; subst h; exact step_ne hs
    | ok s' => rw [hs] at h; exact build_ne r s' x h

/-- The same nodes, but for places. -/
inductive SameN : Node → Node → Prop
  | mk {p q : Int} {nm : Nm} {al : List Att} {tx : List UInt8} (r : List (Node × Node)) (hr : ∀ x ∈ r, SameN x.1 x.2) : SameN (.mk p nm al (r.map (·.1)) tx) (.mk q nm al (r.map (·.2)) tx)
def SameL (a b : List Node) : Prop := ∃ r : List (Node × Node), r.map (·.1) = a ∧ r.map (·.2) = b ∧ ∀ x ∈ r, SameN x.1 x.2
theorem SameN.of {p q : Int} {nm : Nm} {al : List Att} {tx : List UInt8} {a b : List Node} (h : SameL a b) : SameN (.mk p nm al a tx) (.mk q nm al b tx) := by
  obtain ⟨r, rfl, rfl, hr⟩ := h
  exact .mk r hr
theorem SameL.nil : SameL [] [] := ⟨[], rfl, rfl, by simp⟩
theorem SameL.snoc {a b : List Node} {n m : Node} (h : SameL a b) (hn : SameN n m) : SameL (a ++ [n]) (b ++ [m]) := by
  obtain ⟨r, rfl, rfl, hr⟩ := h
  refine ⟨r ++ [(n, m)], by simp, by simp, fun x hx => ?_⟩
  rcases List.mem_append.1 hx with hx | hx
  · exact hr x hx
  · obtain rfl : x = (n, m) := by simpa using hx
    exact hn
theorem SameL.len {a b : List Node} (h : SameL a b) : a.length = b.length := by
  obtain ⟨r, rfl, rfl, _⟩ := h
  simp
mutual
/-- All text of a node, from the front. -/
def Node.all : Node → List UInt8
  | .mk _ _ _ ks tx => tx ++ allL ks
def allL : List Node → List UInt8
  | [] => []
  | n :: r => n.all ++ allL r
end
theorem allL_append : ∀ a b : List Node, allL (a ++ b) = allL a ++ allL b
  | [], b => by simp [allL]
  | n :: a, b => by simp [allL, allL_append a b]
theorem allL_one (n : Node) : allL [n] = n.all := by simp [allL]
theorem SameN.all {a b : Node} (h : SameN a b) : a.all = b.all := by
  induction h with
  | mk r hr ih =>
    unfold Node.all
    congr 1
    clear hr
    induction r with
    | nil => rfl
    | cons x r ihr =>
      simp only [List.map_cons, allL]
      rw [ih x (by simp), ihr (fun y hy => ih y (by simp [hy]))]
theorem SameN.nm {a b : Node} (h : SameN a b) : a.nm = b.nm := by cases h; rfl

structure SameE (a b : El) : Prop where
  nm : a.nm = b.nm
  attrs : a.attrs = b.attrs
  written : a.written = b.written
  given : a.given = b.given
  kids : SameL a.kids b.kids
theorem SameE.node {a b : El} (h : SameE a b) : SameN a.node b.node := by
  unfold El.node
  rw [h.nm, h.attrs]
  exact SameN.of h.kids
theorem SameE.snoc {a b : El} (h : SameE a b) {n m : Node} (hn : SameN n m) : SameE { a with kids := a.kids ++ [n] } { b with kids := b.kids ++ [m] } := ⟨h.nm, h.attrs, h.written, h.given, h.kids.snoc hn⟩
/-- Elements, pair by pair. -/
def SameEs : List El → List El → Prop
  | [], [] => True
  | a :: r, b :: s => SameE a b ∧ SameEs r s
  | _, _ => False
theorem SameEs.len : ∀ {a b : List El}, SameEs a b → a.length = b.length
  | [], [], _ => rfl
  | _ :: a, _ :: b, h => by simp [SameEs.len h.2]
  | [], _ :: _, h => h.elim
  | _ :: _, [], h => h.elim

theorem within_shift (n : Nat) : ∀ (l : List Pr) (g g' : Sp), within g l = .ok g' → within g (l.map (Pr.shift n)) = .ok g'
  | [], g, g', h => h
  | ⟨pp, pn, pv⟩ :: r, g, g', h => by
    unfold within at h
    show within g (⟨(n : Int) + pp, pn, pv⟩ :: r.map (Pr.shift n)) = .ok g'
    unfold within
    dsimp only at h ⊢
    have hm : mayB (⟨(n : Int) + pp, pn, pv⟩ : Pr) = mayB ⟨pp, pn, pv⟩ := by unfold mayB; rfl
    rw [hm]
    by_cases c : givesB pn = false
    · rw [if_pos c] at h ⊢; exact within_shift n r g g' h
    · rw [if_neg c] at h ⊢
      by_cases c2 : mayB ⟨pp, pn, pv⟩ = false
      · rw [if_pos c2] at h; cases h
      · rw [if_neg c2] at h ⊢
        exact within_shift n r _ g' h
theorem attrsIn_shift (n : Nat) (g : Sp) : ∀ (l : List Pr) (seen : List Nm) (al : List Att), attrsIn g seen l = .ok al → attrsIn g seen (l.map (Pr.shift n)) = .ok al
  | [], seen, al, h => h
  | ⟨pp, pn, pv⟩ :: r, seen, al, h => by
    unfold attrsIn at h
    show attrsIn g seen (⟨(n : Int) + pp, pn, pv⟩ :: r.map (Pr.shift n)) = .ok al
    unfold attrsIn
    dsimp only at h ⊢
    by_cases c : givesB pn = true
    · rw [if_pos c] at h ⊢; exact attrsIn_shift n g r seen al h
    · rw [if_neg c] at h ⊢
      cases hn : nameIn g pn [] with
      | error e => rw [hn] at h; cases h
      | ok nm =>
        rw [hn] at h
        dsimp only at h ⊢
        by_cases c2 : seen.contains nm = true
        · rw [if_pos c2] at h; cases h
        · rw [if_neg c2] at h ⊢
          cases hr : attrsIn g (nm :: seen) r with
          | error x => rw [hr] at h; cases h
          | ok xs =>
            rw [hr] at h
            rw [attrsIn_shift n g r (nm :: seen) xs hr]
            exact h
/-- What begins an element. -/
structure Beg (g : Sp) (t : Tok) (g' : Sp) (nm : Nm) (al : List Att) : Prop where
  w : within g t.attrs = .ok g'
  n : nameIn g' t.s ((get g' []).getD []) = .ok nm
  a : attrsIn g' [] t.attrs = .ok al
theorem Beg.shift {g g' : Sp} {t : Tok} {nm : Nm} {al : List Att} (h : Beg g t g' nm al) (k : Nat) : Beg g (t.shift k) g' nm al := ⟨within_shift k _ _ _ h.w, h.n, attrsIn_shift k _ _ _ _ h.a⟩
theorem begin_inv {s s1 : Bs} {t : Tok} (h : beginT s t = .ok s1) : s.outer = none ∧ s.opn.length ≠ 200 ∧ ∃ g nm al, Beg s.given t g nm al ∧ s1 = if t.kind = 2 then addN s (.mk t.place nm al [] []) else { s with opn := ⟨t.place, nm, al, [], t.s, g⟩ :: s.opn } := by
  unfold beginT at h
  split at h
  · cases h
  rename_i c1
  split at h
  · cases h
  rename_i c2
  split at h
  · cases h
  rename_i g hg
  split at h
  · cases h
  rename_i nm hn
  split at h
  · cases h
  rename_i al ha
  injection h with h
  exact ⟨by simpa using c1, c2, g, nm, al, ⟨hg, hn, ha⟩, h.symm⟩
theorem begin_go {s : Bs} {t : Tok} {g : Sp} {nm : Nm} {al : List Att} (ho : s.outer = none) (hb : Beg s.given t g nm al) :
    beginT s t = if s.opn.length = 200 then .error (t.place, 9) else .ok (if t.kind = 2 then addN s (.mk t.place nm al [] []) else { s with opn := ⟨t.place, nm, al, [], t.s, g⟩ :: s.opn }) := by
  unfold beginT
  rw [ho, if_neg (by simp)]
  split
  · rfl
  · rw [hb.w]
    simp only
    rw [hb.n]
    simp only
    rw [hb.a]

/-- The element around. -/
def rEl (K : List Node) : El := ⟨0, ([], [114]), [], K, [114], atFirst⟩
/-- Text nodes. -/
def Txs (K : List Node) : Prop := ∀ n ∈ K, n.nm = ([], [])
theorem Txs.snoc {K : List Node} (h : Txs K) (p : Int) (x : List UInt8) : Txs (K ++ [.mk p ([], []) [] [] x]) := by
  intro n hn
  rcases List.mem_append.1 hn with hn | hn
  · exact h n hn
  · obtain rfl : n = .mk p ([], []) [] [] x := by simpa using hn
    rfl
/-- How far a document is, alone and within an element. -/
inductive Ph : Bs → Bs → Prop
  | ahead {K : List Node} {T : List (Int × List UInt8)} (hK : Txs K) (hT : 1 ≤ (allL K ++ flat T).length) : Ph ⟨[], [], none⟩ ⟨[rEl K], T, none⟩
  | into {e e' : El} {es es' : List El} {K : List Node} {t t' : List (Int × List UInt8)} (he : SameE e e') (hes : SameEs es es') (hK : Txs K) (hT : 1 ≤ (allL K).length) (ht : t.map (·.2) = t'.map (·.2)) : Ph ⟨e :: es, t, none⟩ ⟨e' :: (es' ++ [rEl K]), t', none⟩
  | behind {n n' : Node} {K K2 : List Node} {T : List (Int × List UInt8)} (hn : SameN n n') (hK : Txs K) (hK2 : Txs K2) (hT : 1 ≤ (allL K).length) : Ph ⟨[], [], some n⟩ ⟨[rEl (K ++ n' :: K2)], T, none⟩
theorem flat_of {t t' : List (Int × List UInt8)} (h : t.map (·.2) = t'.map (·.2)) : flat t = flat t' := by
  unfold flat
  rw [← List.flatMap_map (f := fun x : Int × List UInt8 => x.2) (g := fun x => x), ← List.flatMap_map (f := fun x : Int × List UInt8 => x.2) (g := fun x => x), h]
theorem Ph.endT {s s' : Bs} (h : Ph s s') : Ph (endT s) (endT s') ∧ (Tree.endT s).texts = [] ∧ (Tree.endT s').texts = [] := by
  cases h with
  | @ahead K T hK hT =>
    cases T with
    | nil => exact ⟨.ahead hK hT, rfl, rfl⟩
    | cons t r =>
      refine ⟨?_, rfl, rfl⟩
      have : Tree.endT ⟨[rEl K], t :: r, none⟩ = ⟨[rEl (K ++ [.mk t.1 ([], []) [] [] (flat (t :: r))])], [], none⟩ := rfl
      rw [this]
      refine .ahead (hK.snoc _ _) ?_
      rw [allL_append, allL_one]
      simp only [Node.all, allL, flat, List.flatMap_nil, List.append_nil] at hT ⊢
      exact hT
  | @into e e' es es' K t t' he hes hK hT ht =>
    cases t with
    | nil =>
      cases t' with
      | nil => exact ⟨.into he hes hK hT rfl, rfl, rfl⟩
      | cons x y => cases ht
    | cons x y =>
      cases t' with
      | nil => cases ht
      | cons x' y' =>
        refine ⟨?_, rfl, rfl⟩
        have e1 : Tree.endT ⟨e :: es, x :: y, none⟩ = ⟨{ e with kids := e.kids ++ [.mk x.1 ([], []) [] [] (flat (x :: y))] } :: es, [], none⟩ := rfl
        have e2 : Tree.endT ⟨e' :: (es' ++ [rEl K]), x' :: y', none⟩ = ⟨{ e' with kids := e'.kids ++ [.mk x'.1 ([], []) [] [] (flat (x' :: y'))] } :: (es' ++ [rEl K]), [], none⟩ := rfl
        rw [e1, e2, flat_of ht]
        exact .into (he.snoc (SameN.of .nil)) hes hK hT rfl
  | @behind n n' K K2 T hn hK hK2 hT =>
    cases T with
    | nil => exact ⟨.behind hn hK hK2 hT, rfl, rfl⟩
    | cons t r =>
      refine ⟨?_, rfl, rfl⟩
      have : Tree.endT ⟨[rEl (K ++ n' :: K2)], t :: r, none⟩ = ⟨[rEl ((K ++ n' :: K2) ++ [.mk t.1 ([], []) [] [] (flat (t :: r))])], [], none⟩ := rfl
      rw [this, List.append_assoc, List.cons_append]
      exact .behind hn hK (hK2.snoc _ _) hT
theorem Ph.step {s s' s1 : Bs} (h : Ph s s') (t : Tok) (k : Nat) (hs : stepB s t = .ok s1) : (∃ s1', stepB s' (t.shift k) = .ok s1' ∧ Ph s1 s1') ∨ ∃ p, stepB s' (t.shift k) = .error (p, 9) := by
  unfold stepB at hs ⊢
  have hk : (t.shift k).kind = t.kind := rfl
  have hts : (t.shift k).s = t.s := rfl
  rw [hk, hts]
  by_cases c3 : t.kind = 3
  · rw [if_pos c3] at hs ⊢
    cases h with
    | @ahead K T hK hT =>
      rw [if_neg (by simp)] at hs
      rw [if_pos (by simp)]
      split at hs
      · injection hs with hs
        subst hs
        refine .inl ⟨_, rfl, .ahead hK ?_⟩
        simp only [flat, List.flatMap_append, List.length_append] at hT ⊢
        omega
      · cases hs
    | @into e e' es es' K tx tx' he hes hK hT ht =>
      rw [if_pos (by simp)] at hs ⊢
      injection hs with hs
      subst hs
      exact .inl ⟨_, rfl, .into he hes hK hT (by simp [ht])⟩
    | @behind n n' K K2 T hn hK hK2 hT =>
      rw [if_neg (by simp)] at hs
      rw [if_pos (by simp)]
      split at hs
      · injection hs with hs
        subst hs
        exact .inl ⟨_, rfl, .behind hn hK hK2 hT⟩
      · cases hs
  rw [if_neg c3] at hs ⊢
  obtain ⟨hE, ht1, ht2⟩ := h.endT
  generalize Tree.endT s = a at hs hE ht1
  generalize Tree.endT s' = b at hE ht2 ⊢
  by_cases c0 : t.kind = 0 ∨ t.kind = 2
  · rw [if_pos c0] at hs ⊢
    obtain ⟨ho, hl, g, nm, al, hb, rfl⟩ := begin_inv hs
    cases hE with
    | @ahead K T hK hT =>
      have hgo := begin_go (s := ⟨[rEl K], T, none⟩) (t := t.shift k) (g := g) (nm := nm) (al := al) rfl (hb.shift k)
      rw [if_neg (by simp)] at hgo
      left
      refine ⟨_, hgo, ?_⟩
      have hT' : 1 ≤ (allL K).length := by
        simp only at ht2
        subst ht2
        simpa [flat] using hT
      by_cases c2 : t.kind = 2
      · rw [if_pos c2, if_pos (by rw [hk]; exact c2)]
        show Ph ⟨[], [], some _⟩ ⟨[rEl (K ++ [_])], T, none⟩
        exact .behind (K2 := []) (SameN.of .nil) hK (by intro n hn; cases hn) hT'
      · rw [if_neg c2, if_neg (by rw [hk]; exact c2)]
        simp only at ht2
        subst ht2
        exact .into (es := []) (es' := []) ⟨rfl, rfl, rfl, rfl, .nil⟩ trivial hK hT' rfl
    | @into e e' es es' K tx tx' he hes hK hT ht =>
      have hgv : (⟨e' :: (es' ++ [rEl K]), tx', none⟩ : Bs).given = (⟨e :: es, tx, none⟩ : Bs).given := by unfold Bs.given; exact he.given.symm
      have hgo := begin_go (s := ⟨e' :: (es' ++ [rEl K]), tx', none⟩) (t := t.shift k) (g := g) (nm := nm) (al := al) rfl (by rw [hgv]; exact hb.shift k)
      by_cases cl : (e' :: (es' ++ [rEl K])).length = 200
      · rw [if_pos cl] at hgo
        exact .inr ⟨_, hgo⟩
      · rw [if_neg cl] at hgo
        left
        refine ⟨_, hgo, ?_⟩
        by_cases c2 : t.kind = 2
        · rw [if_pos c2, if_pos (by rw [hk]; exact c2)]
          exact .into (he.snoc (SameN.of .nil)) hes hK hT ht
        · rw [if_neg c2, if_neg (by rw [hk]; exact c2)]
          exact .into (es := e :: es) (es' := e' :: es') ⟨rfl, rfl, rfl, rfl, .nil⟩ ⟨he, hes⟩ hK hT ht
    | behind hn hK hK2 hT => cases ho
  rw [if_neg c0] at hs ⊢
  by_cases c1 : t.kind = 1
  · rw [if_pos c1] at hs ⊢
    unfold endE at hs ⊢
    cases hE with
    | ahead hK hT => cases hs
    | @into e e' es es' K tx tx' he hes hK hT ht =>
      simp only at hs ⊢
      rw [hts, ← he.written]
      split at hs
      · cases hs
      · rename_i c
        rw [if_neg c]
        injection hs with hs
        subst hs
        simp only at ht1 ht2
        subst ht1 ht2
        left
        refine ⟨_, rfl, ?_⟩
        cases es with
        | nil =>
          cases es' with
          | nil =>
            show Ph ⟨[], [], some _⟩ ⟨[rEl (K ++ [_])], [], none⟩
            exact .behind (K2 := []) he.node hK (by intro n hn; cases hn) hT
          | cons x r => exact hes.elim
        | cons y q =>
          cases es' with
          | nil => exact hes.elim
          | cons x r => exact .into (hes.1.snoc he.node) hes.2 hK hT rfl
    | behind hn hK hK2 hT => cases hs
  · rw [if_neg c1] at hs
    cases hs
theorem Ph.run {s s' s1 : Bs} (k : Nat) : ∀ (l : List Tok), Ph s s' → buildS s l = .ok s1 → ∀ r, (∃ s1', buildS s' (l.map (Tok.shift k) ++ r) = buildS s1' r ∧ Ph s1 s1') ∨ ∃ p, buildS s' (l.map (Tok.shift k) ++ r) = .error (p, 9)
  | [], h, hs, r => by
    injection hs with hs
    subst hs
    exact .inl ⟨s', rfl, h⟩
  | t :: l, h, hs, r => by
    unfold buildS at hs
    cases hst : stepB s t with
    | error x => rw [hst] at hs; cases hs
    | ok s2 =>
      rw [hst] at hs
      simp only at hs
      rw [List.map_cons, List.cons_append]
      rcases h.step t k hst with ⟨s2', h2, hp⟩ | ⟨p, hp⟩
      · rcases Ph.run k l hp hs r with ⟨s3, h3, hq⟩ | ⟨p, hq⟩
        · exact .inl ⟨s3, by rw [buildS, h2]; exact h3, hq⟩
        · exact .inr ⟨p, by rw [buildS, h2]; exact hq⟩
      · exact .inr ⟨p, by rw [buildS, hp]⟩
/-- What the whole is: an element r whose children are texts, the document, and texts. -/
def Whole (n m : Node) : Prop := m.nm = ([], [114]) ∧ ∃ K n' K2, m.kids = K ++ n' :: K2 ∧ SameN n n' ∧ Txs K ∧ Txs K2 ∧ 1 ≤ (allL K).length
theorem Ph.last {n : Node} {s1 s' : Bs} (h : Ph s1 s') (hn : s1.outer = some n) (en p : Int) : ∃ m, (match buildS s' [⟨1, p, [114], []⟩] with | .error x => (noNode, x.1, x.2) | .ok s => s.out en) = (m, en, 0) ∧ Whole n m := by
  obtain ⟨hE, ht1, ht2⟩ := h.endT
  have ho : (Tree.endT s1).outer = some n := by
    unfold Tree.endT
    cases h with
    | ahead => cases hn
    | into => cases hn
    | behind => exact hn
  have hstep : buildS s' [⟨1, p, [114], []⟩] = match endE (Tree.endT s') ⟨1, p, [114], []⟩ with | .error x => .error x | .ok s => .ok s := by
    rw [buildS]
    unfold stepB
    rw [if_neg (by simp), if_neg (by simp), if_pos rfl]
    cases endE (Tree.endT s') ⟨1, p, [114], []⟩ <;> rfl
  rw [hstep]
  generalize Tree.endT s1 = a at hE ho
  generalize Tree.endT s' = b at hE ht2
  cases hE with
  | ahead => cases ho
  | into => cases ho
  | @behind n0 n' K K2 T hn' hK hK2 hT =>
    injection ho with ho
    subst ho
    refine ⟨(rEl (K ++ n' :: K2)).node, ?_, rfl, K, n', K2, rfl, hn', hK, hK2, hT⟩
    have he : endE ⟨[rEl (K ++ n' :: K2)], T, none⟩ ⟨1, p, [114], []⟩ = .ok (addN ⟨[], T, none⟩ (rEl (K ++ n' :: K2)).node) := by
      unfold endE
      exact if_neg (fun c => c rfl)
    rw [he]
    rfl

/-- An x ahead of a text. -/
theorem tell_x (l : List UInt8) : tell false (120 :: l) = Ent.fin [120] 1 (tell false l) := by
  have := tell_self (v := false) (c := 120) (by decide) (by decide) (by decide) (by decide) (by simp) l
  exact this
theorem textR_x {b : List UInt8} {o : Option Tok} {n : Nat} (h : textR b = .ok o n) : ∃ txt, o = some ⟨3, 0, txt, []⟩ ∧ textR (120 :: b) = .ok (some ⟨3, 0, 120 :: txt, []⟩) (n + 1) := by
  have hl : textLen (120 :: b) = textLen b + 1 := by
    unfold textLen
    rw [firstAt, if_neg (by decide)]
    cases firstAt 60 b <;> simp
  have hf : find [93, 93, 62] (120 :: b) = (find [93, 93, 62] b).map (· + 1) := by
    rw [find, if_neg (by simp [pre, List.isPrefixOf])]
  unfold textR at h ⊢
  rw [hl, hf, List.take_succ_cons, tell_x]
  generalize ht : tell false (b.take (textLen b)) = T at h ⊢
  obtain ⟨out, m, e⟩ := T
  simp only [Ent.fin] at h ⊢
  cases hfb : find [93, 93, 62] b with
  | none =>
    rw [hfb] at h
    simp only [Option.map_none] at h ⊢
    split at h
    · cases h
    · rename_i c
      injection h with h1 h2
      have he : e = 0 := by simpa using c
      rw [if_neg c, if_pos he]
      exact ⟨out, h1.symm, by rw [h2]; rfl⟩
  | some k =>
    rw [hfb] at h
    simp only [Option.map_some] at h ⊢
    split at h
    · cases h
    · rename_i c1
      split at h
      · cases h
      · rename_i c
        injection h with h1 h2
        have he : e = 0 := by simpa using c
        rw [if_neg (fun q => c1 ⟨by omega, by rcases q.2 with q2 | q2; exact .inl q2; exact .inr (by omega)⟩), if_neg c, if_pos he]
        exact ⟨out, h1.symm, by rw [h2]; rfl⟩
theorem one_x (first : Bool) (b : List UInt8) : oneR first (120 :: b) = textR (120 :: b) := by
  unfold oneR decl
  simp [pre, List.isPrefixOf]
theorem textR_x60 (m : List UInt8) : textR (120 :: 60 :: m) = .ok (some ⟨3, 0, [120], []⟩) 1 := by
  have hl : textLen (120 :: 60 :: m) = 1 := by unfold textLen; simp [firstAt]
  have hf : ∀ k, find [93, 93, 62] (120 :: 60 :: m) = some k → 1 ≤ k := by
    intro k hk
    rw [find, if_neg (by simp [pre, List.isPrefixOf])] at hk
    cases h : find [93, 93, 62] (60 :: m) with
    | none => rw [h] at hk; cases hk
    | some j => rw [h] at hk; simp only [Option.map_some, Option.some.injEq] at hk; omega
  have ht : tell false [120] = ([120], 1, 0) := by rfl
  unfold textR
  rw [hl]
  simp only [List.take_succ_cons, List.take_zero, ht]
  cases h : find [93, 93, 62] (120 :: 60 :: m) with
  | none => rfl
  | some k =>
    have := hf k h
    simp only
    rw [if_neg (by omega)]
    rfl
/-- Tokens behind an x. -/
theorem toks_x {b : List UInt8} {ts : List Tok} {k : Nat} (h0 : b ≠ []) (hd : ∀ r, b ≠ 60 :: 63 :: r) (h : toks true b = .ok ts k) :
    ∃ us, (ts = us ∧ toks false (120 :: b) = .ok (⟨3, 0, [120], []⟩ :: us.map (Tok.shift 1)) (k + 1)) ∨
      ∃ txt p, ts = ⟨3, p, txt, []⟩ :: us ∧ toks false (120 :: b) = .ok (⟨3, 0, 120 :: txt, []⟩ :: us.map (Tok.shift 1)) (k + 1) := by
  by_cases hc : ∃ m, b = 60 :: m
  · obtain ⟨m, rfl⟩ := hc
    have hdd : decl (60 :: m) = false := by
      unfold decl
      have hp : pre [60, 63, 120, 109, 108] (60 :: m) = false := by
        rw [← Bool.not_eq_true]
        intro hp
        obtain ⟨r, hr⟩ := (pre_iff _ _).1 hp
        exact hd _ hr
      rw [hp]; rfl
    refine ⟨ts, .inl ⟨rfl, ?_⟩⟩
    rw [toks_step (by simp) ((one_x false _).trans (textR_x60 m))]
    have e : (120 :: 60 :: m).drop 1 = 60 :: m := rfl
    rw [e, toks_first hdd false true, h]
    simp only [join, Option.toList_some, List.singleton_append]
    rw [Nat.add_comm]
  · cases ho : oneR true b with
    | bad p e => rw [toks_bad h0 ho] at h; cases h
    | ok o n =>
      have hne : ∀ q, pre (60 :: q) b = false := by
        intro q
        rw [← Bool.not_eq_true]
        intro hp
        obtain ⟨r, hr⟩ := (pre_iff _ _).1 hp
        exact hc ⟨q ++ r, hr⟩
      have hot : textR b = .ok o n := by
        rw [← ho]
        unfold oneR decl
        simp only [hne]
        simp
      obtain ⟨txt, rfl, hx⟩ := textR_x hot
      rw [toks_step h0 ho] at h
      cases hr : toks false (b.drop n) with
      | bad p e => rw [hr] at h; cases h
      | ok us j =>
        rw [hr] at h
        simp only [join, Option.toList_some, List.singleton_append] at h
        injection h with h1 h2
        refine ⟨us.map (Tok.shift n), .inr ⟨txt, 0, h1.symm, ?_⟩⟩
        rw [toks_step (by simp) ((one_x false _).trans hx)]
        have e : (120 :: b).drop (n + 1) = b.drop n := rfl
        rw [e, hr]
        simp only [join, Option.toList_some, List.singleton_append, List.map_map]
        congr 1
        · congr 1
          exact List.map_congr_left (fun t _ => by
            rw [Function.comp_apply, shift_shift]
            rw [Nat.add_comm])
        · omega
def wholeOf (b : List UInt8) : List UInt8 := [60, 114, 62, 120] ++ b ++ [60, 47, 114, 62]
theorem one_r (first : Bool) (l : List UInt8) : oneR first (60 :: 114 :: 62 :: l) = .ok (some ⟨0, 0, [114], []⟩) 3 := by
  have hw : tokW (-1) ⟨0, 0, [114], []⟩ = .ok [60, 114, 62] 0 := by rfl
  obtain ⟨t', h1, h2, _, _, h5⟩ := one_back hw first l (fun h => by cases h)
  have e : t' = ⟨0, 0, [114], []⟩ := by
    obtain ⟨k, p, s, a⟩ := t'
    unfold Tok.bare at h2
    simp only [Prod.mk.injEq, List.map_nil, List.map_eq_nil_iff] at h2
    simp only at h5
    rw [h2.1, h2.2.1, h2.2.2, h5]
  rw [← e]
  exact h1
theorem close_r : toks false [60, 47, 114, 62] = .ok [⟨1, 0, [114], []⟩] 4 := by rfl
theorem begin_r : stepB ⟨[], [], none⟩ ⟨0, 0, [114], []⟩ = .ok ⟨[rEl []], [], none⟩ := by rfl
theorem build_txt {p : Int} {txt : List UInt8} {us : List Tok} {s1 : Bs} (h : buildS ⟨[], [], none⟩ (⟨3, p, txt, []⟩ :: us) = .ok s1) : buildS ⟨[], [], none⟩ us = .ok s1 := by
  have hst : stepB ⟨[], [], none⟩ ⟨3, p, txt, []⟩ = if blankB txt = true then .ok ⟨[], [], none⟩ else .error (p, 5) := by
    unfold stepB
    rw [if_pos rfl, if_neg (by simp)]
  rw [buildS, hst] at h
  by_cases c : blankB txt = true
  · rw [if_pos c] at h; exact h
  · rw [if_neg c] at h; cases h
set_option maxHeartbeats 1000000 in
/-- A document within an element. -/
theorem read_nest {b : List UInt8} {n : Node} {p : Int} (h : read b = (n, p, 0)) (hb : b.length ≤ 1500) (hd : ∀ r, b ≠ 60 :: 63 :: r) :
    (∃ m q, read (wholeOf b) = (m, q, 0) ∧ Whole n m) ∨ ∃ q, read (wholeOf b) = (noNode, q, 9) := by
  unfold read at h
  split at h
  · rename_i c; injection h with _ h; injection h with _ h; exact absurd h c
  rename_i c
  have c := Classical.not_not.1 c
  obtain ⟨hlen, hck, hl, k, ht⟩ := tokens_ok (b := b) (ts := (tokens b).1) (n := (tokens b).2.1) (by rw [← c])
  have hts : ∃ ts, (tokens b).1 = ts := ⟨_, rfl⟩
  obtain ⟨ts, hts⟩ := hts
  rw [hts] at ht h
  have h0 : b ≠ [] := by
    rintro rfl
    rw [toks_nil] at ht
    injection ht with ht _
    subst ht
    cases h
  have hwl : (wholeOf b).length = b.length + 8 := by simp [wholeOf]
  have hwc : Ck (wholeOf b) := (Ck.append (Ck.append (Ck.lit (by decide)) hck) (Ck.lit (by decide)))
  -- the state behind all of the document alone
  obtain ⟨s1, hs1, hout⟩ : ∃ s1, buildS ⟨[], [], none⟩ ts = .ok s1 ∧ s1.outer = some n := by
    unfold build at h
    cases hb : buildS ⟨[], [], none⟩ ts with
    | error x =>
      rw [hb] at h
      simp only at h
      injection h with _ h
      injection h with _ h
      exact absurd h (build_ne _ _ _ hb)
    | ok s1 =>
      rw [hb] at h
      simp only [Bs.out] at h
      cases ho : s1.outer with
      | none => rw [ho] at h; injection h with _ h; injection h with _ h; cases h
      | some n' => rw [ho] at h; injection h with h _; exact ⟨s1, rfl, by rw [ho, h]⟩
  obtain ⟨us, hx⟩ := toks_x h0 hd ht
  obtain ⟨txt, k', hx1, hx2⟩ : ∃ txt k', toks false (120 :: b) = .ok (⟨3, 0, 120 :: txt, []⟩ :: us.map (Tok.shift 1)) k' ∧ buildS ⟨[], [], none⟩ us = .ok s1 := by
    rcases hx with ⟨rfl, hx⟩ | ⟨txt, p, rfl, hx⟩
    · exact ⟨[], _, hx, hs1⟩
    · exact ⟨txt, _, hx, build_txt hs1⟩
  have htw : toks true (wholeOf b) = .ok (⟨0, 0, [114], []⟩ :: ⟨3, 3, 120 :: txt, []⟩ :: (us.map (Tok.shift 4) ++ [⟨1, ((b.length + 4 : Nat) : Int), [114], []⟩])) (b.length + 8) := by
    have e1 : wholeOf b = 60 :: 114 :: 62 :: ((120 :: b) ++ 60 :: [47, 114, 62]) := by simp [wholeOf]
    rw [e1, toks_step (by simp) (one_r true _)]
    have e2 : (60 :: 114 :: 62 :: ((120 :: b) ++ 60 :: [47, 114, 62])).drop 3 = (120 :: b) ++ 60 :: [47, 114, 62] := rfl
    have hk' := (toks_lt _ (120 :: b) rfl false _ _ hx1)
    rw [e2, hk'.2 (by simp), close_r]
    simp only [join, Option.toList_some, List.singleton_append, List.map_append, List.map_cons, List.map_map, List.map_nil]
    have e3 : (us.map (Tok.shift 3 ∘ Tok.shift 1)) = us.map (Tok.shift 4) := List.map_congr_left (fun t _ => by rw [Function.comp_apply, shift_shift])
    have e4 : Tok.shift 3 (⟨3, 0, 120 :: txt, []⟩ : Tok) = ⟨3, 3, 120 :: txt, []⟩ := rfl
    have e5 : Tok.shift 3 (Tok.shift (120 :: b).length (⟨1, 0, [114], []⟩ : Tok)) = ⟨1, ((b.length + 4 : Nat) : Int), [114], []⟩ := by
      simp only [Tok.shift, List.map_nil, List.length_cons]
      refine congrArg (fun q => (⟨1, q, [114], []⟩ : Tok)) ?_
      omega
    have e6 : 3 + ((120 :: b).length + 4) = b.length + 8 := by rw [List.length_cons]; omega
    rw [e6]
    simp only [List.cons_append, List.map_append, List.map_cons, List.map_map, List.map_nil, e3, e4, e5]
  have hread : read (wholeOf b) = build (⟨0, 0, [114], []⟩ :: ⟨3, 3, 120 :: txt, []⟩ :: (us.map (Tok.shift 4) ++ [⟨1, ((b.length + 4 : Nat) : Int), [114], []⟩])) (wholeOf b).length := by
    unfold read
    rw [tokens_of hwc (by omega), htw]
    simp
  have hst : stepB ⟨[rEl []], [], none⟩ ⟨3, 3, 120 :: txt, []⟩ = .ok ⟨[rEl []], [(3, 120 :: txt)], none⟩ := by
    unfold stepB
    rw [if_pos rfl, if_pos (by simp)]
    rfl
  have hph : Ph ⟨[], [], none⟩ ⟨[rEl []], [(3, 120 :: txt)], none⟩ := .ahead (by intro n hn; cases hn) (by simp [flat, allL])
  have hbw : ∀ l, buildS ⟨[], [], none⟩ (⟨0, 0, [114], []⟩ :: ⟨3, 3, 120 :: txt, []⟩ :: l) = buildS ⟨[rEl []], [(3, 120 :: txt)], none⟩ l := by
    intro l
    rw [buildS, begin_r]
    simp only
    rw [buildS, hst]
  rw [hread]
  unfold build
  rw [hbw]
  rcases Ph.run 4 us hph hx2 [⟨1, ((b.length + 4 : Nat) : Int), [114], []⟩] with ⟨s3, h3, hp3⟩ | ⟨q, hq⟩
  · left
    rw [h3]
    obtain ⟨m, hm, hw⟩ := hp3.last hout ((wholeOf b).length : Int) ((b.length + 4 : Nat) : Int)
    exact ⟨m, _, hm, hw⟩
  · right
    rw [hq]
    exact ⟨q, rfl⟩
end Go.Proofs.YtdpknpgknbkiiaaGreatDoor.Tree
namespace Go.Proofs.YtdpknpgknbkiiaaGreatDoor.Tok
open Go Go.Proofs.YtdpknpgknbkiiaaGreatDoor Go.Proofs.YtdpknpgknbkiiaaGreatDoor.Utf Go.Proofs.YtdpknpgknbkiiaaGreatDoor.Names Go.Proofs.YtdpknpgknbkiiaaGreatDoor.Ent
set_option maxRecDepth 100000

theorem valueR_short {l v : List UInt8} {n : Nat} (h : valueR l = .ok v n) : v.length ≤ 4 * l.length := by
  cases l with
  | nil => unfold valueR at h; cases h
  | cons q r =>
    unfold valueR at h
    simp only at h
    split at h
    · cases hf : firstAt q r with
      | none =>
        rw [hf] at h
        simp only at h
        split at h <;> cases h
      | some k =>
        rw [hf] at h
        simp only at h
        split at h
        · cases h
        · injection h with h1 h2
          have := tell_short true (r.take k)
          rw [List.length_take] at this
          rw [← h1, List.length_cons]
          omega
    · cases h
theorem equalR_short {l v : List UInt8} {n : Nat} (h : equalR l = .ok v n) : v.length ≤ 4 * l.length := by
  unfold equalR at h
  cases hd : l.drop (blanks l) with
  | nil => rw [hd] at h; cases h
  | cons c r =>
    rw [hd] at h
    have hlen := congrArg List.length hd
    rw [List.length_drop, List.length_cons] at hlen
    by_cases hc : c = 61
    · subst hc
      simp only at h
      cases hv : valueR (r.drop (blanks r)) with
      | bad p e => rw [hv] at h; simp only [Res.from] at h; cases h
      | ok w k =>
        rw [hv] at h
        simp only [Res.from] at h
        injection h with h1 h2
        have := valueR_short hv
        rw [List.length_drop] at this
        rw [← h1]
        omega
    · split at h
      · rename_i heq; injection heq with heq _; exact absurd heq hc
      · cases h
theorem attrT_short {seen : List (List UInt8)} {l : List UInt8} {x : List UInt8 × List UInt8} {n : Nat} (h : attrT seen l = .ok x n) : x.1.length ≤ l.length ∧ x.2.length ≤ 4 * l.length := by
  have hl := attrT_lt h []
  unfold attrT at h
  cases hn : nameR l with
  | bad p e => rw [hn] at h; cases h
  | ok nm k =>
    rw [hn] at h
    simp only at h
    split at h
    · cases h
    · cases he : equalR (l.drop k) with
      | bad p e => rw [he] at h; cases h
      | ok v j =>
        rw [he] at h
        simp only at h
        injection h with h1 h2
        have := equalR_short he
        rw [List.length_drop] at this
        refine ⟨by omega, ?_⟩
        rw [← h1]
        simp only
        omega
theorem attrsF_short : ∀ (f : Nat) (seen : List (List UInt8)) (l : List UInt8) (xs : List Pr) (n : Nat), attrsF f seen l = .ok xs n → ∀ p ∈ xs, p.name.length ≤ l.length ∧ p.value.length ≤ 4 * l.length
  | 0, seen, l, xs, n, h => by unfold attrsF at h; cases h
  | f + 1, seen, l, xs, n, h => by
    unfold attrsF at h
    cases hd : l.drop (blanks l) with
    | nil => rw [hd] at h; cases h
    | cons c r =>
      rw [hd] at h
      have hlen := congrArg List.length hd
      rw [List.length_drop] at hlen
      simp only at h
      split at h
      · injection h with h1 h2
        subst h1
        simp
      · split at h
        · cases h
        · cases ha : attrT seen (c :: r) with
          | bad p e => rw [ha] at h; cases h
          | ok x k =>
            rw [ha] at h
            obtain ⟨nm, v⟩ := x
            simp only at h
            have hs := attrT_short ha
            cases hr : attrsF f (nm :: seen) ((c :: r).drop k) with
            | bad p e => rw [hr] at h; cases h
            | ok ys j =>
              rw [hr] at h
              simp only at h
              injection h with h1 h2
              have ih := attrsF_short f _ _ _ _ hr
              subst h1
              intro p hp
              rcases List.mem_cons.1 hp with rfl | hp
              · exact ⟨by simp only at hs ⊢; omega, by simp only at hs ⊢; omega⟩
              · obtain ⟨q, hq, rfl⟩ := List.mem_map.1 hp
                have := ih q hq
                rw [List.length_drop] at this
                simp only [Pr.shift]
                omega
/-- How long a token may be. -/
def Short (n : Nat) (t : Tok) : Prop := t.s.length ≤ 4 * n ∧ ∀ p ∈ t.attrs, p.name.length ≤ n ∧ p.value.length ≤ 4 * n
theorem Short.mono {n m : Nat} {t : Tok} (h : Short n t) (hm : n ≤ m) : Short m t := ⟨by have := h.1; omega, fun p hp => by have := h.2 p hp; omega⟩
theorem Short.shift {n : Nat} {t : Tok} (h : Short n t) (k : Nat) : Short n (t.shift k) := ⟨h.1, fun p hp => by
  obtain ⟨q, hq, rfl⟩ := List.mem_map.1 hp
  exact h.2 q hq⟩
theorem tagR_short {r : List UInt8} {t : Tok} {n : Nat} (h : tagR r = .ok t n) : Short r.length t := by
  unfold tagR at h
  cases hn : nameR r with
  | bad p e => rw [hn] at h; cases h
  | ok nm k =>
    rw [hn] at h
    simp only at h
    have hi := nameR_is hn
    have hnl : nm.length ≤ r.length := by rw [hi.1, List.length_take]; omega
    cases ha : attrsF (r.length + 1) [] (r.drop k) with
    | bad p e => rw [ha] at h; cases h
    | ok xs j =>
      rw [ha] at h
      simp only at h
      have hs := attrsF_short _ _ _ _ _ ha
      rw [List.length_drop] at hs
      have hx : ∀ p ∈ xs.map (Pr.shift k), p.name.length ≤ r.length ∧ p.value.length ≤ 4 * r.length := by
        intro p hp
        obtain ⟨q, hq, rfl⟩ := List.mem_map.1 hp
        have := hs q hq
        simp only [Pr.shift]
        omega
      split at h
      · injection h with h1 h2
        subst h1
        exact ⟨by simp only; omega, hx⟩
      · injection h with h1 h2
        subst h1
        exact ⟨by simp only; omega, hx⟩
      · cases h
      · cases h
theorem closeR_short {r : List UInt8} {t : Tok} {n : Nat} (h : closeR r = .ok t n) : Short r.length t := by
  unfold closeR at h
  cases hn : nameR r with
  | bad p e => rw [hn] at h; cases h
  | ok nm k =>
    rw [hn] at h
    simp only at h
    have hi := nameR_is hn
    have hnl : nm.length ≤ r.length := by rw [hi.1, List.length_take]; omega
    split at h
    · injection h with h1 h2
      subst h1
      exact ⟨by simp only; omega, by simp⟩
    · cases h
theorem lines_short : ∀ (n : Nat) (l : List UInt8), l.length ≤ n → (lines l).length ≤ l.length
  | 0, l, h => by
    have : l = [] := List.eq_nil_of_length_eq_zero (by omega)
    subst this; simp [lines]
  | n + 1, l, h => by
    unfold lines
    split
    · simp
    · rename_i r
      have := lines_short n r (by simp at h; omega)
      simp; omega
    · rename_i r _
      have := lines_short n r (by simp at h; omega)
      simp; omega
    · rename_i c r _ _
      have := lines_short n r (by simp at h; omega)
      simp; omega
theorem textR_short {l : List UInt8} {t : Tok} {n : Nat} (h : textR l = .ok (some t) n) : Short l.length t := by
  unfold textR at h
  have ht := tell_short false (l.take (textLen l))
  rw [List.length_take] at ht
  simp only at h
  have key : ∀ {n : Nat}, (Res.ok (some (⟨3, 0, (tell false (l.take (textLen l))).1, []⟩ : Tok)) (textLen l) : Res (Option Tok)) = .ok (some t) n → Short l.length t := by
    intro n h
    injection h with h1 h2
    injection h1 with h1
    subst h1
    exact ⟨by simp only; omega, by simp⟩
  split at h
  · split at h
    · cases h
    · split at h
      · cases h
      · exact key h
  · split at h
    · cases h
    · exact key h
theorem rawR_short {l : List UInt8} {t : Tok} {n : Nat} (h : rawR l = .ok (some t) n) : Short l.length t := by
  unfold rawR at h
  split at h
  · cases h
  · rename_i k hk
    injection h with h1 h2
    split at h1
    · cases h1
    · injection h1 with h1
      subst h1
      have := lines_short _ ((l.drop 9).take k) (Nat.le_refl _)
      rw [List.length_take, List.length_drop] at this
      exact ⟨by simp only; omega, by simp⟩
theorem oneR_short {first : Bool} {l : List UInt8} {t : Tok} {n : Nat} (h : oneR first l = .ok (some t) n) : Short l.length t := by
  unfold oneR at h
  split at h
  · unfold declR at h
    split at h
    · cases h
    · injection h with h _; cases h
  split at h
  · unfold commentR at h
    split at h
    · cases h
    · split at h
      · injection h with h _; cases h
      · cases h
      · cases h
  split at h
  · exact rawR_short h
  split at h
  · cases h
  split at h
  · cases hc : closeR (l.drop 2) with
    | bad p e => rw [hc] at h; cases h
    | ok x k =>
      rw [hc] at h
      unfold Res.up at h
      injection h with h _
      injection h with h
      subst h
      exact (closeR_short hc).mono (by rw [List.length_drop]; omega)
  split at h
  · cases hc : tagR (l.drop 1) with
    | bad p e => rw [hc] at h; cases h
    | ok x k =>
      rw [hc] at h
      unfold Res.up at h
      injection h with h _
      injection h with h
      subst h
      have hs := (tagR_short hc).mono (m := l.length) (by rw [List.length_drop]; omega)
      refine ⟨hs.1, fun p hp => ?_⟩
      obtain ⟨q, hq, rfl⟩ := List.mem_map.1 hp
      exact hs.2 q hq
  · exact textR_short h
theorem toks_short : ∀ (f : Nat) (first : Bool) (l : List UInt8) (ts : List Tok) (n : Nat), toksF f first l = .ok ts n → ∀ t ∈ ts, Short l.length t
  | 0, first, l, ts, n, h => by unfold toksF at h; injection h with h _; subst h; simp
  | f + 1, first, l, ts, n, h => by
    unfold toksF at h
    split at h
    · injection h with h _; subst h; simp
    · cases ho : oneR first l with
      | bad p e => rw [ho] at h; cases h
      | ok o k =>
        rw [ho] at h
        simp only at h
        cases hr : toksF f false (l.drop k) with
        | bad p e => rw [hr] at h; cases h
        | ok ys j =>
          rw [hr] at h
          simp only at h
          injection h with h1 h2
          have ih := toks_short f _ _ _ _ hr
          subst h1
          intro t ht
          rcases List.mem_append.1 ht with ht | ht
          · obtain rfl : o = some t := by cases o with
              | none => cases ht
              | some y => simp at ht; rw [ht]
            exact oneR_short ho
          · obtain ⟨q, hq, rfl⟩ := List.mem_map.1 ht
            exact ((ih q hq).mono (by rw [List.length_drop]; omega)).shift k
theorem tokens_short' {b : List UInt8} : ∀ t ∈ (tokens b).1, Short b.length t := by
  unfold tokens
  split
  · simp
  split
  · simp
  · cases h : toks true b with
    | bad p e => simp
    | ok ts n => exact toks_short _ _ _ _ _ h
end Go.Proofs.YtdpknpgknbkiiaaGreatDoor.Tok
namespace Go.Proofs.YtdpknpgknbkiiaaGreatDoor.Tok
open Go Go.Proofs.YtdpknpgknbkiiaaGreatDoor Go.Proofs.YtdpknpgknbkiiaaGreatDoor.Utf Go.Proofs.YtdpknpgknbkiiaaGreatDoor.Names Go.Proofs.YtdpknpgknbkiiaaGreatDoor.Ent
set_option maxRecDepth 100000
theorem attrsF_few : ∀ (f : Nat) (seen : List (List UInt8)) (l : List UInt8) (xs : List Pr) (n : Nat), attrsF f seen l = .ok xs n → xs.length ≤ n
  | 0, seen, l, xs, n, h => by unfold attrsF at h; cases h
  | f + 1, seen, l, xs, n, h => by
    unfold attrsF at h
    cases hd : l.drop (blanks l) with
    | nil => rw [hd] at h; cases h
    | cons c r =>
      rw [hd] at h
      simp only at h
      split at h
      · injection h with h1 h2; subst h1; simp
      · split at h
        · cases h
        · rename_i hb
          cases ha : attrT seen (c :: r) with
          | bad p e => rw [ha] at h; cases h
          | ok x k =>
            rw [ha] at h
            obtain ⟨nm, v⟩ := x
            simp only at h
            cases hr : attrsF f (nm :: seen) ((c :: r).drop k) with
            | bad p e => rw [hr] at h; cases h
            | ok ys j =>
              rw [hr] at h
              simp only at h
              injection h with h1 h2
              have ih := attrsF_few f _ _ _ _ hr
              subst h1
              simp
              omega
theorem tagR_few {r : List UInt8} {t : Tok} {n : Nat} (h : tagR r = .ok t n) : t.attrs.length ≤ n := by
  unfold tagR at h
  cases hn : nameR r with
  | bad p e => rw [hn] at h; cases h
  | ok nm k =>
    rw [hn] at h
    simp only at h
    cases ha : attrsF (r.length + 1) [] (r.drop k) with
    | bad p e => rw [ha] at h; cases h
    | ok xs j =>
      rw [ha] at h
      simp only at h
      have hs := attrsF_few _ _ _ _ _ ha
      split at h
      · injection h with h1 h2; subst h1; simp; omega
      · injection h with h1 h2; subst h1; simp; omega
      · cases h
      · cases h
theorem closeR_few {r : List UInt8} {t : Tok} {n : Nat} (h : closeR r = .ok t n) : t.attrs = [] := by
  unfold closeR at h
  cases hn : nameR r with
  | bad p e => rw [hn] at h; cases h
  | ok nm k =>
    rw [hn] at h
    simp only at h
    split at h
    · injection h with h1 h2; subst h1; rfl
    · cases h
theorem textR_few {l : List UInt8} {t : Tok} {n : Nat} (h : textR l = .ok (some t) n) : t.attrs = [] := by
  unfold textR at h
  simp only at h
  split at h
  · split at h
    · cases h
    · split at h
      · cases h
      · injection h with h1 h2; injection h1 with h1; subst h1; rfl
  · split at h
    · cases h
    · injection h with h1 h2; injection h1 with h1; subst h1; rfl
theorem rawR_few {l : List UInt8} {t : Tok} {n : Nat} (h : rawR l = .ok (some t) n) : t.attrs = [] := by
  unfold rawR at h
  split at h
  · cases h
  · injection h with h1 h2
    split at h1
    · cases h1
    · injection h1 with h1; subst h1; rfl
theorem oneR_few {first : Bool} {l : List UInt8} {t : Tok} {n : Nat} (h : oneR first l = .ok (some t) n) : t.attrs.length ≤ n := by
  unfold oneR at h
  split at h
  · unfold declR at h
    split at h
    · cases h
    · injection h with h _; cases h
  split at h
  · unfold commentR at h
    split at h
    · cases h
    · split at h
      · injection h with h _; cases h
      · cases h
      · cases h
  split at h
  · rw [rawR_few h]; simp
  split at h
  · cases h
  split at h
  · cases hc : closeR (l.drop 2) with
    | bad p e => rw [hc] at h; cases h
    | ok x k =>
      rw [hc] at h
      unfold Res.up at h
      injection h with h _
      injection h with h
      subst h
      rw [closeR_few hc]; simp
  split at h
  · cases hc : tagR (l.drop 1) with
    | bad p e => rw [hc] at h; cases h
    | ok x k =>
      rw [hc] at h
      unfold Res.up at h
      injection h with h h2
      injection h with h
      subst h
      have := tagR_few hc
      simp
      omega
  · rw [textR_few h]; simp
theorem toksF_few : ∀ (f : Nat) (first : Bool) (l : List UInt8) (ts : List Tok) (n : Nat), toksF f first l = .ok ts n → ts.length ≤ n ∧ ∀ t ∈ ts, t.attrs.length ≤ n
  | 0, first, l, ts, n, h => by unfold toksF at h; injection h with h _; subst h; simp
  | f + 1, first, l, ts, n, h => by
    unfold toksF at h
    split at h
    · injection h with h _; subst h; simp
    · rename_i h0
      cases ho : oneR first l with
      | bad p e => rw [ho] at h; cases h
      | ok o k =>
        have hk := (oneR_lt h0 ho []).2.2
        rw [ho] at h
        simp only at h
        cases hr : toksF f false (l.drop k) with
        | bad p e => rw [hr] at h; cases h
        | ok ys j =>
          rw [hr] at h
          simp only at h
          injection h with h1 h2
          have ih := toksF_few f _ _ _ _ hr
          subst h1
          constructor
          · cases o <;> simp <;> omega
          · intro t ht
            rcases List.mem_append.1 ht with ht | ht
            · obtain rfl : o = some t := by
                cases o with
                | none => cases ht
                | some y => simp at ht; rw [ht]
              have := oneR_few ho
              omega
            · obtain ⟨q, hq, rfl⟩ := List.mem_map.1 ht
              have := ih.2 q hq
              simp only [Tok.shift, List.length_map]
              omega
theorem tokens_few (b : List UInt8) : (tokens b).1.length ≤ b.length ∧ ∀ t ∈ (tokens b).1, t.attrs.length ≤ b.length := by
  unfold tokens
  split
  · simp
  split
  · simp
  · cases h : toks true b with
    | bad p e => simp
    | ok ts n =>
      have h1 := toksF_few _ _ _ _ _ h
      have h2 := (toks_lt _ b rfl true ts n h).1
      exact ⟨by simp only; omega, fun t ht => by have := h1.2 t ht; omega⟩
end Go.Proofs.YtdpknpgknbkiiaaGreatDoor.Tok
namespace Go.Proofs.YtdpknpgknbkiiaaGreatDoor.Tree
open Go Go.Proofs.YtdpknpgknbkiiaaGreatDoor Go.Proofs.YtdpknpgknbkiiaaGreatDoor.Utf Go.Proofs.YtdpknpgknbkiiaaGreatDoor.Names Go.Proofs.YtdpknpgknbkiiaaGreatDoor.Ent Go.Proofs.YtdpknpgknbkiiaaGreatDoor.Tok
set_option maxRecDepth 100000
/-- A state behind n tokens. -/
structure Inv (n k : Nat) (s : Bs) : Prop where
  opn : s.opn.length ≤ n
  txn : s.texts.length ≤ n
  txl : ∀ t ∈ s.texts, t.2.length ≤ 4000000
  kid : ∀ e ∈ s.opn, e.kids.length ≤ k
  spl : ∀ e ∈ s.opn, ∀ x ∈ e.given, x.2.length ≤ 4000000
  few : ∀ e ∈ s.opn, e.given.length ≤ 2 + 1000000 * n
theorem Inv.start : Inv 0 0 ⟨[], [], none⟩ := ⟨Nat.le_refl _, Nat.le_refl _, by simp, by simp, by simp, by simp⟩
theorem Inv.mono {n k n' k' : Nat} {s : Bs} (h : Inv n k s) (hn : n ≤ n') (hk : k ≤ k') : Inv n' k' s :=
  ⟨Nat.le_trans h.opn hn, Nat.le_trans h.txn hn, h.txl, fun e he => Nat.le_trans (h.kid e he) hk, h.spl, fun e he => by have := h.few e he; omega⟩
theorem Inv.addN {n k : Nat} {s : Bs} (h : Inv n k s) (m : Node) : Inv n (k + 1) (Tree.addN s m) := by
  unfold Tree.addN
  cases ho : s.opn with
  | nil => exact ⟨by simp, h.txn, h.txl, by simp [ho], by simp [ho], by simp [ho]⟩
  | cons e r =>
    have hm : ∀ x ∈ r, x ∈ s.opn := fun x hx => by rw [ho]; simp [hx]
    have he : e ∈ s.opn := by rw [ho]; simp
    refine ⟨by have := h.opn; rw [ho] at this; simpa using this, h.txn, h.txl, ?_, ?_, ?_⟩
    · intro x hx
      rcases List.mem_cons.1 hx with rfl | hx
      · have := h.kid e he; simp; omega
      · exact Nat.le_succ_of_le (h.kid x (hm x hx))
    · intro x hx
      rcases List.mem_cons.1 hx with rfl | hx
      · exact h.spl e he
      · exact h.spl x (hm x hx)
    · intro x hx
      rcases List.mem_cons.1 hx with rfl | hx
      · exact h.few e he
      · exact h.few x (hm x hx)
theorem Inv.endT {n k : Nat} {s : Bs} (h : Inv n k s) : Inv n (k + 1) (Tree.endT s) := by
  unfold Tree.endT
  split
  · exact h.mono (Nat.le_refl _) (by omega)
  · rename_i t r _
    have := h.addN (.mk t.1 ([], []) [] [] (flat (t :: r)))
    exact ⟨this.opn, by simp, by simp, this.kid, this.spl, this.few⟩
theorem Inv.given {n k : Nat} {s : Bs} (h : Inv n k s) : (∀ x ∈ s.given, x.2.length ≤ 4000000) ∧ s.given.length ≤ 2 + 1000000 * n := by
  unfold Bs.given
  cases ho : s.opn with
  | nil => exact ⟨by intro x hx; rcases List.mem_cons.1 hx with rfl | hx; · decide
                     · obtain rfl : x = ([], []) := by simpa using hx
                       decide, by show 2 ≤ _; omega⟩
  | cons e r => exact ⟨h.spl e (by rw [ho]; simp), h.few e (by rw [ho]; simp)⟩
theorem within_fit : ∀ (l : List Pr) (g g' : Sp), within g l = .ok g' → (∀ x ∈ g, x.2.length ≤ 4000000) → (∀ p ∈ l, p.value.length ≤ 4000000) → (∀ x ∈ g', x.2.length ≤ 4000000) ∧ g'.length ≤ g.length + l.length
  | [], g, g', h, hg, hl => by unfold within at h; injection h with h; subst h; exact ⟨hg, by simp⟩
  | p :: r, g, g', h, hg, hl => by
    unfold within at h
    have hr := fun q hq => hl q (List.mem_cons_of_mem _ hq)
    split at h
    · have := within_fit r g g' h hg hr
      exact ⟨this.1, by simp; omega⟩
    · split at h
      · cases h
      · have := within_fit r _ g' h (fun x hx => by
          rcases List.mem_cons.1 hx with rfl | hx
          · exact hl p (by simp)
          · exact hg x hx) hr
        exact ⟨this.1, by simp at this ⊢; omega⟩
theorem Inv.beginT {n k : Nat} {s s' : Bs} {t : Tok} (h : Inv n k s) (hs : Tree.beginT s t = .ok s') (hf : t.attrs.length ≤ 1000000) (hv : ∀ p ∈ t.attrs, p.value.length ≤ 4000000) : Inv (n + 1) (k + 1) s' := by
  obtain ⟨ho, hl, g, nm, al, hb, rfl⟩ := begin_inv hs
  obtain ⟨g1, g2⟩ := h.given
  obtain ⟨w1, w2⟩ := within_fit _ _ _ hb.w g1 hv
  split
  · exact (h.addN _).mono (by omega) (Nat.le_refl _)
  · have hm := h.mono (n' := n + 1) (k' := k + 1) (by omega) (by omega)
    refine ⟨by have := h.opn; simp; omega, hm.txn, hm.txl, ?_, ?_, ?_⟩
    · intro x hx
      rcases List.mem_cons.1 hx with rfl | hx
      · simp
      · exact hm.kid x hx
    · intro x hx
      rcases List.mem_cons.1 hx with rfl | hx
      · exact w1
      · exact hm.spl x hx
    · intro x hx
      rcases List.mem_cons.1 hx with rfl | hx
      · simp only; omega
      · exact hm.few x hx
theorem Inv.endE {n k : Nat} {s s' : Bs} {t : Tok} (h : Inv n k s) (hs : Tree.endE s t = .ok s') : Inv n (k + 1) s' := by
  unfold Tree.endE at hs
  split at hs
  · cases hs
  · rename_i e r ho
    split at hs
    · cases hs
    · injection hs with hs
      subst hs
      have h2 : Inv n k { s with opn := r } := ⟨by have := h.opn; rw [ho] at this; simp at this ⊢; omega, h.txn, h.txl, fun x hx => h.kid x (by rw [ho]; simp [hx]), fun x hx => h.spl x (by rw [ho]; simp [hx]), fun x hx => h.few x (by rw [ho]; simp [hx])⟩
      exact h2.addN _
theorem Inv.step {n : Nat} {s s' : Bs} {t : Tok} (h : Inv n (2 * n) s) (hs : stepB s t = .ok s') (hf : t.attrs.length ≤ 1000000) (hv : ∀ p ∈ t.attrs, p.value.length ≤ 4000000) (hl : t.s.length ≤ 4000000) : Inv (n + 1) (2 * (n + 1)) s' := by
  unfold stepB at hs
  split at hs
  · split at hs
    · injection hs with hs
      subst hs
      refine ⟨by have := h.opn; simp; omega, by have := h.txn; simp; omega, ?_, fun e he => by have := h.kid e he; omega, h.spl, fun e he => by have := h.few e he; omega⟩
      intro x hx
      rcases List.mem_append.1 hx with hx | hx
      · exact h.txl x hx
      · obtain rfl : x = (t.place, t.s) := by simpa using hx
        exact hl
    · split at hs
      · injection hs with hs
        subst hs
        exact h.mono (by omega) (by omega)
      · cases hs
  · split at hs
    · exact (h.endT.beginT hs hf hv).mono (Nat.le_refl _) (by omega)
    · split at hs
      · exact (h.endT.endE hs).mono (by omega) (by omega)
      · cases hs
end Go.Proofs.YtdpknpgknbkiiaaGreatDoor.Tree
