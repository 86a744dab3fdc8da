/- Plain mathematics of layer 5: elements in elements. No program in it. | Plain mathematics of layer 5: elements in elements, up to the greatest depth. | Plain mathematics of layer 5: a document within an element is its child. | Plain mathematics: the tokens that are read are no longer than the bytes, four times. | Plain mathematics: there are no more tokens than bytes, and no more attributes. | Plain mathematics of layer 5: what a state may be behind so many tokens. -/
import Derived.Test.YthodmdfbahkflaaGreatDoorTkA
set_option linter.unusedVariables false
set_option linter.unusedSimpArgs false
namespace Go.Proofs.YthodmdfbahkflaaGreatDoor.Tree
open Go Go.Proofs.YthodmdfbahkflaaGreatDoor Go.Proofs.YthodmdfbahkflaaGreatDoor.Utf Go.Proofs.YthodmdfbahkflaaGreatDoor.Names Go.Proofs.YthodmdfbahkflaaGreatDoor.Ent Go.Proofs.YthodmdfbahkflaaGreatDoor.Tok
set_option maxRecDepth 100000

/-- A namespace and a local name. -/
abbrev Nm := List UInt8 × List UInt8
/-- Namespaces that are given to prefixes, the last one first. -/
abbrev Sp := List (List UInt8 × List UInt8)
structure Att where
  nm : Nm
  value : List UInt8
inductive Node where
  | mk (place : Int) (nm : Nm) (attrs : List Att) (kids : List Node) (text : List UInt8)
def Node.place : Node → Int | .mk p _ _ _ _ => p
def Node.nm : Node → Nm | .mk _ n _ _ _ => n
def Node.attrs : Node → List Att | .mk _ _ a _ _ => a
def Node.kids : Node → List Node | .mk _ _ _ k _ => k
def Node.text : Node → List UInt8 | .mk _ _ _ _ t => t
def noNode : Node := .mk 0 ([], []) [] [] []

def xmlns : List UInt8 := [120, 109, 108, 110, 115]
def xml : List UInt8 := [120, 109, 108]
/-- http://www.w3.org/XML/1998/namespace -/
def xmlSpace : List UInt8 := [104, 116, 116, 112, 58, 47, 47, 119, 119, 119, 46, 119, 51, 46, 111, 114, 103, 47, 88, 77, 76, 47, 49, 57, 57, 56, 47, 110, 97, 109, 101, 115, 112, 97, 99, 101]
/-- http://www.w3.org/2000/xmlns/ -/
def xmlnsSpace : List UInt8 := [104, 116, 116, 112, 58, 47, 47, 119, 119, 119, 46, 119, 51, 46, 111, 114, 103, 47, 50, 48, 48, 48, 47, 120, 109, 108, 110, 115, 47]
/-- Does an attribute give a namespace? -/
def givesB (nm : List UInt8) : Bool := (nm == xmlns) || pre [120, 109, 108, 110, 115, 58] nm
/-- To which prefix? -/
def givenTo (nm : List UInt8) : List UInt8 := match firstAt 58 nm with | some k => nm.drop (k + 1) | none => []
/-- May it? -/
def mayB (p : Pr) : Bool :=
  if p.value = xmlSpace ∨ p.value = xmlnsSpace then false
  else if givenTo p.name = [] then true
  else if givenTo p.name = xml ∨ givenTo p.name = xmlns then false
  else !(p.value == [])
def get (g : Sp) (p : List UInt8) : Option (List UInt8) := (g.find? (fun x => x.1 == p)).map (·.2)
def within : Sp → List Pr → Except (Int × Nat) Sp
  | g, [] => .ok g
  | g, p :: r => if givesB p.name = false then within g r else if mayB p = false then .error (p.place, 2) else within ((givenTo p.name, p.value) :: g) r
def nameIn (g : Sp) (w bare : List UInt8) : Except Nat Nm :=
  match splitO w with
  | none => .error 6
  | some (p, s) => if p = [] then .ok (bare, s) else match get g p with
    | none => .error 7
    | some u => .ok (u, s)
/-- An element's attributes, behind those of the names that are ahead. -/
def attrsIn (g : Sp) : List Nm → List Pr → Except (Int × Nat) (List Att)
  | _, [] => .ok []
  | seen, p :: r => if givesB p.name = true then attrsIn g seen r else
    match nameIn g p.name [] with
    | .error e => .error (p.place, e)
    | .ok nm => if seen.contains nm = true then .error (p.place, 8) else
      match attrsIn g (nm :: seen) r with
      | .error x => .error x
      | .ok l => .ok (⟨nm, p.value⟩ :: l)

/-- An element that is open. -/
structure El where
  place : Int
  nm : Nm
  attrs : List Att
  kids : List Node
  written : List UInt8
  given : Sp
def El.node (e : El) : Node := .mk e.place e.nm e.attrs e.kids []
/-- What the tokens up to now told: the innermost element first. -/
structure Bs where
  opn : List El
  texts : List (Int × List UInt8)
  outer : Option Node
def atFirst : Sp := [(xml, xmlSpace), ([], [])]
def Bs.given (s : Bs) : Sp := match s.opn with | [] => atFirst | e :: _ => e.given
def addN (s : Bs) (n : Node) : Bs :=
  match s.opn with
  | [] => { s with outer := some n }
  | e :: r => { s with opn := { e with kids := e.kids ++ [n] } :: r }
def flat (l : List (Int × List UInt8)) : List UInt8 := l.flatMap (·.2)
def endT (s : Bs) : Bs :=
  match s.texts with
  | [] => s
  | t :: r => { addN s (.mk t.1 ([], []) [] [] (flat (t :: r))) with texts := [] }
def beginT (s : Bs) (t : Tok) : Except (Int × Nat) Bs :=
  if s.outer.isSome = true then .error (t.place, 5)
  else if s.opn.length = 200 then .error (t.place, 9)
  else match within s.given t.attrs with
    | .error x => .error x
    | .ok g => match nameIn g t.s ((get g []).getD []) with
      | .error e => .error (t.place, e)
      | .ok nm => match attrsIn g [] t.attrs with
        | .error x => .error x
        | .ok l => .ok (if t.kind = 2 then addN s (.mk t.place nm l [] []) else { s with opn := ⟨t.place, nm, l, [], t.s, g⟩ :: s.opn })
def endE (s : Bs) (t : Tok) : Except (Int × Nat) Bs :=
  match s.opn with
  | [] => .error (t.place, 5)
  | e :: r => if e.written ≠ t.s then .error (t.place, 5) else .ok (addN { s with opn := r } e.node)
def blankB (l : List UInt8) : Bool := l.all isSp
def stepB (s : Bs) (t : Tok) : Except (Int × Nat) Bs :=
  if t.kind = 3 then (if s.opn ≠ [] then .ok { s with texts := s.texts ++ [(t.place, t.s)] } else if blankB t.s = true then .ok s else .error (t.place, 5))
  else if t.kind = 0 ∨ t.kind = 2 then beginT (endT s) t
  else if t.kind = 1 then endE (endT s) t
  else .error (t.place, 2)
def buildS : Bs → List Tok → Except (Int × Nat) Bs
  | s, [] => .ok s
  | s, t :: r => match stepB s t with
    | .error x => .error x
    | .ok s' => buildS s' r
def Bs.out (s : Bs) (en : Int) : Node × Int × Nat := match s.outer with | none => (noNode, en, 10) | some n => (n, en, 0)
/-- The tree, the place, the error. -/
def build (l : List Tok) (en : Int) : Node × Int × Nat :=
  match buildS ⟨[], [], none⟩ l with
  | .error x => (noNode, x.1, x.2)
  | .ok s => s.out en
def read (b : List UInt8) : Node × Int × Nat :=
  if (tokens b).2.2 ≠ 0 then (noNode, (tokens b).2.1, (tokens b).2.2) else build (tokens b).1 b.length
end Go.Proofs.YthodmdfbahkflaaGreatDoor.Tree
namespace Go.Proofs.YthodmdfbahkflaaGreatDoor.Tree
open Go Go.Proofs.YthodmdfbahkflaaGreatDoor Go.Proofs.YthodmdfbahkflaaGreatDoor.Utf Go.Proofs.YthodmdfbahkflaaGreatDoor.Names Go.Proofs.YthodmdfbahkflaaGreatDoor.Ent Go.Proofs.YthodmdfbahkflaaGreatDoor.Tok
set_option maxRecDepth 100000

end Go.Proofs.YthodmdfbahkflaaGreatDoor.Tree
namespace Go.Proofs.YthodmdfbahkflaaGreatDoor.Tree
open Go Go.Proofs.YthodmdfbahkflaaGreatDoor Go.Proofs.YthodmdfbahkflaaGreatDoor.Utf Go.Proofs.YthodmdfbahkflaaGreatDoor.Names Go.Proofs.YthodmdfbahkflaaGreatDoor.Ent Go.Proofs.YthodmdfbahkflaaGreatDoor.Tok
set_option maxRecDepth 100000

/-- What is wrong has a number. -/
theorem nameIn_ne {g : Sp} {wr bare : List UInt8} {e : Nat} (h : nameIn g wr bare = .error e) : e ≠ 0 := by
  unfold nameIn at h
  split at h
  · injection h with h; omega
  · split at h
    · cases h
    · split at h
      · injection h with h; omega
      · cases h
theorem within_ne : ∀ (l : List Pr) (g : Sp) (x : Int × Nat), within g l = .error x → x.2 ≠ 0
  | [], g, x, h => by cases h
  | p :: r, g, x, h => by
    unfold within at h
    split at h
    · exact within_ne r g x h
    · split at h
      · injection h with h; subst h; simp
      · exact within_ne r _ x h
theorem attrsIn_ne : ∀ (l : List Pr) (g : Sp) (seen : List Nm) (x : Int × Nat), attrsIn g seen l = .error x → x.2 ≠ 0
  | [], g, seen, x, h => by cases h
  | p :: r, g, seen, x, h => by
    unfold attrsIn at h
    split at h
    · exact attrsIn_ne r g seen x h
    · cases hn : nameIn g p.name [] with
      | error e =>
        rw [hn] at h
        injection h with h; subst h
        exact nameIn_ne hn
      | ok nm =>
        rw [hn] at h
        dsimp only at h
        split at h
        · injection h with h; subst h; simp
        · cases hr : attrsIn g (nm :: seen) r with
          | error y =>
            rw [hr] at h
            injection h with h; subst h
            exact attrsIn_ne r g _ y hr
          | ok l =>
            rw [hr] at h
            cases h
theorem beginT_ne {s : Bs} {t : Tok} {x : Int × Nat} (h : beginT s t = .error x) : x.2 ≠ 0 := by
  unfold beginT at h
  split at h
  · injection h with h; subst h; simp
  split at h
  · injection h with h; subst h; simp
  split at h
  · rename_i hw; injection h with h; subst h; exact within_ne _ _ _ hw
  split at h
  · rename_i hn; injection h with h; subst h; exact nameIn_ne hn
  split at h
  · rename_i ha; injection h with h; subst h; exact attrsIn_ne _ _ _ _ ha
  · cases h
theorem step_ne {s : Bs} {t : Tok} {x : Int × Nat} (h : stepB s t = .error x) : x.2 ≠ 0 := by
  unfold stepB at h
  split at h
  · split at h
    · cases h
    · split at h
      · cases h
      · injection h with h; subst h; simp
  split at h
  · exact beginT_ne h
  split at h
  · unfold endE at h
    split at h
    · injection h with h; subst h; simp
    · split at h
      · injection h with h; subst h; simp
      · cases h
  · injection h with h; subst h; simp
/-- The same nodes, but for places. -/
inductive SameN : Node → Node → Prop
  | mk {p q : Int} {nm : Nm} {al : List Att} {tx : List UInt8} (r : List (Node × Node)) (hr : ∀ x ∈ r, SameN x.1 x.2) : SameN (.mk p nm al (r.map (·.1)) tx) (.mk q nm al (r.map (·.2)) tx)
def SameL (a b : List Node) : Prop := ∃ r : List (Node × Node), r.map (·.1) = a ∧ r.map (·.2) = b ∧ ∀ x ∈ r, SameN x.1 x.2
theorem SameN.of {p q : Int} {nm : Nm} {al : List Att} {tx : List UInt8} {a b : List Node} (h : SameL a b) : SameN (.mk p nm al a tx) (.mk q nm al b tx) := by
  obtain ⟨r, rfl, rfl, hr⟩ := h
  exact .mk r hr
theorem SameL.nil : SameL [] [] := ⟨[], rfl, rfl, by simp⟩
theorem SameL.snoc {a b : List Node} {n m : Node} (h : SameL a b) (hn : SameN n m) : SameL (a ++ [n]) (b ++ [m]) := by
  obtain ⟨r, rfl, rfl, hr⟩ := h
  refine ⟨r ++ [(n, m)], by simp, by simp, fun x hx => ?_⟩
  rcases List.mem_append.1 hx with hx | hx
  · exact hr x hx
  · obtain rfl : x = (n, m) := by simpa using hx
    exact hn
theorem SameL.len {a b : List Node} (h : SameL a b) : a.length = b.length := by
  obtain ⟨r, rfl, rfl, _⟩ := h
  simp
mutual
/-- All text of a node, from the front. -/
def Node.all : Node → List UInt8
  | .mk _ _ _ ks tx => tx ++ allL ks
def allL : List Node → List UInt8
  | [] => []
  | n :: r => n.all ++ allL r
end
theorem allL_append : ∀ a b : List Node, allL (a ++ b) = allL a ++ allL b
  | [], b => by simp [allL]
  | n :: a, b => by simp [allL, allL_append a b]
theorem allL_one (n : Node) : allL [n] = n.all := by simp [allL]
theorem SameN.all {a b : Node} (h : SameN a b) : a.all = b.all := by
  induction h with
  | mk r hr ih =>
    unfold Node.all
    congr 1
    clear hr
    induction r with
    | nil => rfl
    | cons x r ihr =>
      simp only [List.map_cons, allL]
      rw [ih x (by simp), ihr (fun y hy => ih y (by simp [hy]))]
theorem SameN.nm {a b : Node} (h : SameN a b) : a.nm = b.nm := by cases h; rfl

structure SameE (a b : El) : Prop where
  nm : a.nm = b.nm
  attrs : a.attrs = b.attrs
  written : a.written = b.written
  given : a.given = b.given
  kids : SameL a.kids b.kids
theorem SameE.node {a b : El} (h : SameE a b) : SameN a.node b.node := by
  unfold El.node
  rw [h.nm, h.attrs]
  exact SameN.of h.kids
theorem SameE.snoc {a b : El} (h : SameE a b) {n m : Node} (hn : SameN n m) : SameE { a with kids := a.kids ++ [n] } { b with kids := b.kids ++ [m] } := ⟨h.nm, h.attrs, h.written, h.given, h.kids.snoc hn⟩
/-- Elements, pair by pair. -/
def SameEs : List El → List El → Prop
  | [], [] => True
  | a :: r, b :: s => SameE a b ∧ SameEs r s
  | _, _ => False
theorem SameEs.len : ∀ {a b : List El}, SameEs a b → a.length = b.length
  | [], [], _ => rfl
  | _ :: a, _ :: b, h => by simp [SameEs.len h.2]
  | [], _ :: _, h => h.elim
  | _ :: _, [], h => h.elim

theorem within_shift (n : Nat) : ∀ (l : List Pr) (g g' : Sp), within g l = .ok g' → within g (l.map (Pr.shift n)) = .ok g'
  | [], g, g', h => h
  | ⟨pp, pn, pv⟩ :: r, g, g', h => by
    unfold within at h
    show within g (⟨(n : Int) + pp, pn, pv⟩ :: r.map (Pr.shift n)) = .ok g'
    unfold within
    dsimp only at h ⊢
    have hm : mayB (⟨(n : Int) + pp, pn, pv⟩ : Pr) = mayB ⟨pp, pn, pv⟩ := by unfold mayB; rfl
    rw [hm]
    by_cases c : givesB pn = false
    · rw [if_pos c] at h ⊢; exact within_shift n r g g' h
    · rw [if_neg c] at h ⊢
      by_cases c2 : mayB ⟨pp, pn, pv⟩ = false
      · rw [if_pos c2] at h; cases h
      · rw [if_neg c2] at h ⊢
        exact within_shift n r _ g' h
theorem attrsIn_shift (n : Nat) (g : Sp) : ∀ (l : List Pr) (seen : List Nm) (al : List Att), attrsIn g seen l = .ok al → attrsIn g seen (l.map (Pr.shift n)) = .ok al
  | [], seen, al, h => h
  | ⟨pp, pn, pv⟩ :: r, seen, al, h => by
    unfold attrsIn at h
    show attrsIn g seen (⟨(n : Int) + pp, pn, pv⟩ :: r.map (Pr.shift n)) = .ok al
    unfold attrsIn
    dsimp only at h ⊢
    by_cases c : givesB pn = true
    · rw [if_pos c] at h ⊢; exact attrsIn_shift n g r seen al h
    · rw [if_neg c] at h ⊢
      cases hn : nameIn g pn [] with
      | error e => rw [hn] at h; cases h
      | ok nm =>
        rw [hn] at h
        dsimp only at h ⊢
        by_cases c2 : seen.contains nm = true
        · rw [if_pos c2] at h; cases h
        · rw [if_neg c2] at h ⊢
          cases hr : attrsIn g (nm :: seen) r with
          | error x => rw [hr] at h; cases h
          | ok xs =>
            rw [hr] at h
            rw [attrsIn_shift n g r (nm :: seen) xs hr]
            exact h
/-- What begins an element. -/
structure Beg (g : Sp) (t : Tok) (g' : Sp) (nm : Nm) (al : List Att) : Prop where
  w : within g t.attrs = .ok g'
  n : nameIn g' t.s ((get g' []).getD []) = .ok nm
  a : attrsIn g' [] t.attrs = .ok al
theorem Beg.shift {g g' : Sp} {t : Tok} {nm : Nm} {al : List Att} (h : Beg g t g' nm al) (k : Nat) : Beg g (t.shift k) g' nm al := ⟨within_shift k _ _ _ h.w, h.n, attrsIn_shift k _ _ _ _ h.a⟩
theorem begin_inv {s s1 : Bs} {t : Tok} (h : beginT s t = .ok s1) : s.outer = none ∧ s.opn.length ≠ 200 ∧ ∃ g nm al, Beg s.given t g nm al ∧ s1 = if t.kind = 2 then addN s (.mk t.place nm al [] []) else { s with opn := ⟨t.place, nm, al, [], t.s, g⟩ :: s.opn } := by
  unfold beginT at h
  split at h
  · cases h
  rename_i c1
  split at h
  · cases h
  rename_i c2
  split at h
  · cases h
  rename_i g hg
  split at h
  · cases h
  rename_i nm hn
  split at h
  · cases h
  rename_i al ha
  injection h with h
  exact ⟨by simpa using c1, c2, g, nm, al, ⟨hg, hn, ha⟩, h.symm⟩
theorem begin_go {s : Bs} {t : Tok} {g : Sp} {nm : Nm} {al : List Att} (ho : s.outer = none) (hb : Beg s.given t g nm al) :
    beginT s t = if s.opn.length = 200 then .error (t.place, 9) else .ok (if t.kind = 2 then addN s (.mk t.place nm al [] []) else { s with opn := ⟨t.place, nm, al, [], t.s, g⟩ :: s.opn }) := by
  unfold beginT
  rw [ho, if_neg (by simp)]
  split
  · rfl
  · rw [hb.w]
    simp only
    rw [hb.n]
    simp only
    rw [hb.a]

/-- The element around. -/
def rEl (K : List Node) : El := ⟨0, ([], [114]), [], K, [114], atFirst⟩
/-- Text nodes. -/
def Txs (K : List Node) : Prop := ∀ n ∈ K, n.nm = ([], [])
theorem Txs.snoc {K : List Node} (h : Txs K) (p : Int) (x : List UInt8) : Txs (K ++ [.mk p ([], []) [] [] x]) := by
  intro n hn
  rcases List.mem_append.1 hn with hn | hn
  · exact h n hn
  · obtain rfl : n = .mk p ([], []) [] [] x := by simpa using hn
    rfl
/-- How far a document is, alone and within an element. -/
inductive Ph : Bs → Bs → Prop
  | ahead {K : List Node} {T : List (Int × List UInt8)} (hK : Txs K) (hT : 1 ≤ (allL K ++ flat T).length) : Ph ⟨[], [], none⟩ ⟨[rEl K], T, none⟩
  | into {e e' : El} {es es' : List El} {K : List Node} {t t' : List (Int × List UInt8)} (he : SameE e e') (hes : SameEs es es') (hK : Txs K) (hT : 1 ≤ (allL K).length) (ht : t.map (·.2) = t'.map (·.2)) : Ph ⟨e :: es, t, none⟩ ⟨e' :: (es' ++ [rEl K]), t', none⟩
  | behind {n n' : Node} {K K2 : List Node} {T : List (Int × List UInt8)} (hn : SameN n n') (hK : Txs K) (hK2 : Txs K2) (hT : 1 ≤ (allL K).length) : Ph ⟨[], [], some n⟩ ⟨[rEl (K ++ n' :: K2)], T, none⟩
theorem flat_of {t t' : List (Int × List UInt8)} (h : t.map (·.2) = t'.map (·.2)) : flat t = flat t' := by
  unfold flat
  rw [← List.flatMap_map (f := fun x : Int × List UInt8 => x.2) (g := fun x => x), ← List.flatMap_map (f := fun x : Int × List UInt8 => x.2) (g := fun x => x), h]
theorem Ph.endT {s s' : Bs} (h : Ph s s') : Ph (endT s) (endT s') ∧ (Tree.endT s).texts = [] ∧ (Tree.endT s').texts = [] := by
  cases h with
  | @ahead K T hK hT =>
    cases T with
    | nil => exact ⟨.ahead hK hT, rfl, rfl⟩
    | cons t r =>
      refine ⟨?_, rfl, rfl⟩
      have : Tree.endT ⟨[rEl K], t :: r, none⟩ = ⟨[rEl (K ++ [.mk t.1 ([], []) [] [] (flat (t :: r))])], [], none⟩ := rfl
      rw [this]
      refine .ahead (hK.snoc _ _) ?_
      rw [allL_append, allL_one]
      simp only [Node.all, allL, flat, List.flatMap_nil, List.append_nil] at hT ⊢
      exact hT
  | @into e e' es es' K t t' he hes hK hT ht =>
    cases t with
    | nil =>
      cases t' with
      | nil => exact ⟨.into he hes hK hT rfl, rfl, rfl⟩
      | cons x y => cases ht
    | cons x y =>
      cases t' with
      | nil => cases ht
      | cons x' y' =>
        refine ⟨?_, rfl, rfl⟩
        have e1 : Tree.endT ⟨e :: es, x :: y, none⟩ = ⟨{ e with kids := e.kids ++ [.mk x.1 ([], []) [] [] (flat (x :: y))] } :: es, [], none⟩ := rfl
        have e2 : Tree.endT ⟨e' :: (es' ++ [rEl K]), x' :: y', none⟩ = ⟨{ e' with kids := e'.kids ++ [.mk x'.1 ([], []) [] [] (flat (x' :: y'))] } :: (es' ++ [rEl K]), [], none⟩ := rfl
        rw [e1, e2, flat_of ht]
        exact .into (he.snoc (SameN.of .nil)) hes hK hT rfl
  | @behind n n' K K2 T hn hK hK2 hT =>
    cases T with
    | nil => exact ⟨.behind hn hK hK2 hT, rfl, rfl⟩
    | cons t r =>
      refine ⟨?_, rfl, rfl⟩
      have : Tree.endT ⟨[rEl (K ++ n' :: K2)], t :: r, none⟩ = ⟨[rEl ((K ++ n' :: K2) ++ [.mk t.1 ([], []) [] [] (flat (t :: r))])], [], none⟩ := rfl
      rw [this, List.append_assoc, List.cons_append]
      exact .behind hn hK (hK2.snoc _ _) hT
theorem Ph.step {s s' s1 : Bs} (h : Ph s s') (t : Tok) (k : Nat) (hs : stepB s t = .ok s1) : (∃ s1', stepB s' (t.shift k) = .ok s1' ∧ Ph s1 s1') ∨ ∃ p, stepB s' (t.shift k) = .error (p, 9) := by
  unfold stepB at hs ⊢
  have hk : (t.shift k).kind = t.kind := rfl
  have hts : (t.shift k).s = t.s := rfl
  rw [hk, hts]
  by_cases c3 : t.kind = 3
  · rw [if_pos c3] at hs ⊢
    cases h with
    | @ahead K T hK hT =>
      rw [if_neg (by simp)] at hs
      rw [if_pos (by simp)]
      split at hs
      · injection hs with hs
        subst hs
        refine .inl ⟨_, rfl, .ahead hK ?_⟩
        simp only [flat, List.flatMap_append, List.length_append] at hT ⊢
        omega
      · cases hs
    | @into e e' es es' K tx tx' he hes hK hT ht =>
      rw [if_pos (by simp)] at hs ⊢
      injection hs with hs
      subst hs
      exact .inl ⟨_, rfl, .into he hes hK hT (by simp [ht])⟩
    | @behind n n' K K2 T hn hK hK2 hT =>
      rw [if_neg (by simp)] at hs
      rw [if_pos (by simp)]
      split at hs
      · injection hs with hs
        subst hs
        exact .inl ⟨_, rfl, .behind hn hK hK2 hT⟩
      · cases hs
  rw [if_neg c3] at hs ⊢
  obtain ⟨hE, ht1, ht2⟩ := h.endT
  generalize Tree.endT s = a at hs hE ht1
  generalize Tree.endT s' = b at hE ht2 ⊢
  by_cases c0 : t.kind = 0 ∨ t.kind = 2
  · rw [if_pos c0] at hs ⊢
    obtain ⟨ho, hl, g, nm, al, hb, rfl⟩ := begin_inv hs
    cases hE with
    | @ahead K T hK hT =>
      have hgo := begin_go (s := ⟨[rEl K], T, none⟩) (t := t.shift k) (g := g) (nm := nm) (al := al) rfl (hb.shift k)
      rw [if_neg (by simp)] at hgo
      left
      refine ⟨_, hgo, ?_⟩
      have hT' : 1 ≤ (allL K).length := by
        simp only at ht2
        subst ht2
        simpa [flat] using hT
      by_cases c2 : t.kind = 2
      · rw [if_pos c2, if_pos (by rw [hk]; exact c2)]
        show Ph ⟨[], [], some _⟩ ⟨[rEl (K ++ [_])], T, none⟩
        exact .behind (K2 := []) (SameN.of .nil) hK (by intro n hn; cases hn) hT'
      · rw [if_neg c2, if_neg (by rw [hk]; exact c2)]
        simp only at ht2
        subst ht2
        exact .into (es := []) (es' := []) ⟨rfl, rfl, rfl, rfl, .nil⟩ trivial hK hT' rfl
    | @into e e' es es' K tx tx' he hes hK hT ht =>
      have hgv : (⟨e' :: (es' ++ [rEl K]), tx', none⟩ : Bs).given = (⟨e :: es, tx, none⟩ : Bs).given := by unfold Bs.given; exact he.given.symm
      have hgo := begin_go (s := ⟨e' :: (es' ++ [rEl K]), tx', none⟩) (t := t.shift k) (g := g) (nm := nm) (al := al) rfl (by rw [hgv]; exact hb.shift k)
      by_cases cl : (e' :: (es' ++ [rEl K])).length = 200
      · rw [if_pos cl] at hgo
        exact .inr ⟨_, hgo⟩
      · rw [if_neg cl] at hgo
        left
        refine ⟨_, hgo, ?_⟩
        by_cases c2 : t.kind = 2
        · rw [if_pos c2, if_pos (by rw [hk]; exact c2)]
          exact .into (he.snoc (SameN.of .nil)) hes hK hT ht
        · rw [if_neg c2, if_neg (by rw [hk]; exact c2)]
          exact .into (es := e :: es) (es' := e' :: es') ⟨rfl, rfl, rfl, rfl, .nil⟩ ⟨he, hes⟩ hK hT ht
    | behind hn hK hK2 hT => cases ho
  rw [if_neg c0] at hs ⊢
  by_cases c1 : t.kind = 1
  · rw [if_pos c1] at hs ⊢
    unfold endE at hs ⊢
    cases hE with
    | ahead hK hT => cases hs
    | @into e e' es es' K tx tx' he hes hK hT ht =>
      simp only at hs ⊢
      rw [hts, ← he.written]
      split at hs
      · cases hs
      · rename_i c
        rw [if_neg c]
        injection hs with hs
        subst hs
        simp only at ht1 ht2
        subst ht1 ht2
        left
        refine ⟨_, rfl, ?_⟩
        cases es with
        | nil =>
          cases es' with
          | nil =>
            show Ph ⟨[], [], some _⟩ ⟨[rEl (K ++ [_])], [], none⟩
            exact .behind (K2 := []) he.node hK (by intro n hn; cases hn) hT
          | cons x r => exact hes.elim
        | cons y q =>
          cases es' with
          | nil => exact hes.elim
          | cons x r => exact .into (hes.1.snoc he.node) hes.2 hK hT rfl
    | behind hn hK hK2 hT => cases hs
  · rw [if_neg c1] at hs
    cases hs
theorem Ph.run {s s' s1 : Bs} (k : Nat) : ∀ (l : List Tok), Ph s s' → buildS s l = .ok s1 → ∀ r, (∃ s1', buildS s' (l.map (Tok.shift k) ++ r) = buildS s1' r ∧ Ph s1 s1') ∨ ∃ p, buildS s' (l.map (Tok.shift k) ++ r) = .error (p, 9)
  | [], h, hs, r => by
    injection hs with hs
    subst hs
    exact .inl ⟨s', rfl, h⟩
  | t :: l, h, hs, r => by
    unfold buildS at hs
    cases hst : stepB s t with
    | error x => rw [hst] at hs; cases hs
    | ok s2 =>
      rw [hst] at hs
      simp only at hs
      rw [List.map_cons, List.cons_append]
      rcases h.step t k hst with ⟨s2', h2, hp⟩ | ⟨p, hp⟩
      · rcases Ph.run k l hp hs r with ⟨s3, h3, hq⟩ | ⟨p, hq⟩
        · exact .inl ⟨s3, by rw [buildS, h2]; exact h3, hq⟩
        · exact .inr ⟨p, by rw [buildS, h2]; exact hq⟩
      · exact .inr ⟨p, by rw [buildS, hp]⟩
/-- What the whole is: an element r whose children are texts, the document, and texts. -/
def Whole (n m : Node) : Prop := m.nm = ([], [114]) ∧ ∃ K n' K2, m.kids = K ++ n' :: K2 ∧ SameN n n' ∧ Txs K ∧ Txs K2 ∧ 1 ≤ (allL K).length
theorem Ph.last {n : Node} {s1 s' : Bs} (h : Ph s1 s') (hn : s1.outer = some n) (en p : Int) : ∃ m, (match buildS s' [⟨1, p, [114], []⟩] with | .error x => (noNode, x.1, x.2) | .ok s => s.out en) = (m, en, 0) ∧ Whole n m := by
  obtain ⟨hE, ht1, ht2⟩ := h.endT
  have ho : (Tree.endT s1).outer = some n := by
    unfold Tree.endT
    cases h with
    | ahead => cases hn
    | into => cases hn
    | behind => exact hn
  have hstep : buildS s' [⟨1, p, [114], []⟩] = match endE (Tree.endT s') ⟨1, p, [114], []⟩ with | .error x => .error x | .ok s => .ok s := by
    rw [buildS]
    unfold stepB
    rw [if_neg (by simp), if_neg (by simp), if_pos rfl]
    cases endE (Tree.endT s') ⟨1, p, [114], []⟩ <;> rfl
  rw [hstep]
  generalize Tree.endT s1 = a at hE ho
  generalize Tree.endT s' = b at hE ht2
  cases hE with
  | ahead => cases ho
  | into => cases ho
  | @behind n0 n' K K2 T hn' hK hK2 hT =>
    injection ho with ho
    subst ho
    refine ⟨(rEl (K ++ n' :: K2)).node, ?_, rfl, K, n', K2, rfl, hn', hK, hK2, hT⟩
    have he : endE ⟨[rEl (K ++ n' :: K2)], T, none⟩ ⟨1, p, [114], []⟩ = .ok (addN ⟨[], T, none⟩ (rEl (K ++ n' :: K2)).node) := by
      unfold endE
      exact if_neg (fun c => c rfl)
    rw [he]
    rfl

end Go.Proofs.YthodmdfbahkflaaGreatDoor.Tree
namespace Go.Proofs.YthodmdfbahkflaaGreatDoor.Tok
open Go Go.Proofs.YthodmdfbahkflaaGreatDoor Go.Proofs.YthodmdfbahkflaaGreatDoor.Utf Go.Proofs.YthodmdfbahkflaaGreatDoor.Names Go.Proofs.YthodmdfbahkflaaGreatDoor.Ent
set_option maxRecDepth 100000

theorem valueR_short {l v : List UInt8} {n : Nat} (h : valueR l = .ok v n) : v.length ≤ 4 * l.length := by
  cases l with
  | nil => unfold valueR at h; cases h
  | cons q r =>
    unfold valueR at h
    simp only at h
    split at h
    · cases hf : firstAt q r with
      | none =>
        rw [hf] at h
        simp only at h
        split at h <;> cases h
      | some k =>
        rw [hf] at h
        simp only at h
        split at h
        · cases h
        · injection h with h1 h2
          have := tell_short true (r.take k)
          rw [List.length_take] at this
          rw [← h1, List.length_cons]
          omega
    · cases h
theorem equalR_short {l v : List UInt8} {n : Nat} (h : equalR l = .ok v n) : v.length ≤ 4 * l.length := by
  unfold equalR at h
  cases hd : l.drop (blanks l) with
  | nil => rw [hd] at h; cases h
  | cons c r =>
    rw [hd] at h
    have hlen := congrArg List.length hd
    rw [List.length_drop, List.length_cons] at hlen
    by_cases hc : c = 61
    · subst hc
      simp only at h
      cases hv : valueR (r.drop (blanks r)) with
      | bad p e => rw [hv] at h; simp only [Res.from] at h; cases h
      | ok w k =>
        rw [hv] at h
        simp only [Res.from] at h
        injection h with h1 h2
        have := valueR_short hv
        rw [List.length_drop] at this
        rw [← h1]
        omega
    · split at h
      · rename_i heq; injection heq with heq _; exact absurd heq hc
      · cases h
theorem attrT_short {seen : List (List UInt8)} {l : List UInt8} {x : List UInt8 × List UInt8} {n : Nat} (h : attrT seen l = .ok x n) : x.1.length ≤ l.length ∧ x.2.length ≤ 4 * l.length := by
  have hl := attrT_lt h []
  unfold attrT at h
  cases hn : nameR l with
  | bad p e => rw [hn] at h; cases h
  | ok nm k =>
    rw [hn] at h
    simp only at h
    split at h
    · cases h
    · cases he : equalR (l.drop k) with
      | bad p e => rw [he] at h; cases h
      | ok v j =>
        rw [he] at h
        simp only at h
        injection h with h1 h2
        have := equalR_short he
        rw [List.length_drop] at this
        refine ⟨by omega, ?_⟩
        rw [← h1]
        simp only
        omega
theorem attrsF_short : ∀ (f : Nat) (seen : List (List UInt8)) (l : List UInt8) (xs : List Pr) (n : Nat), attrsF f seen l = .ok xs n → ∀ p ∈ xs, p.name.length ≤ l.length ∧ p.value.length ≤ 4 * l.length
  | 0, seen, l, xs, n, h => by unfold attrsF at h; cases h
  | f + 1, seen, l, xs, n, h => by
    unfold attrsF at h
    cases hd : l.drop (blanks l) with
    | nil => rw [hd] at h; cases h
    | cons c r =>
      rw [hd] at h
      have hlen := congrArg List.length hd
      rw [List.length_drop] at hlen
      simp only at h
      split at h
      · injection h with h1 h2
        subst h1
        simp
      · split at h
        · cases h
        · cases ha : attrT seen (c :: r) with
          | bad p e => rw [ha] at h; cases h
          | ok x k =>
            rw [ha] at h
            obtain ⟨nm, v⟩ := x
            simp only at h
            have hs := attrT_short ha
            cases hr : attrsF f (nm :: seen) ((c :: r).drop k) with
            | bad p e => rw [hr] at h; cases h
            | ok ys j =>
              rw [hr] at h
              simp only at h
              injection h with h1 h2
              have ih := attrsF_short f _ _ _ _ hr
              subst h1
              intro p hp
              rcases List.mem_cons.1 hp with rfl | hp
              · exact ⟨by simp only at hs ⊢; omega, by simp only at hs ⊢; omega⟩
              · obtain ⟨q, hq, rfl⟩ := List.mem_map.1 hp
                have := ih q hq
                rw [List.length_drop] at this
                simp only [Pr.shift]
                omega
/-- How long a token may be. -/
def Short (n : Nat) (t : Tok) : Prop := t.s.length ≤ 4 * n ∧ ∀ p ∈ t.attrs, p.name.length ≤ n ∧ p.value.length ≤ 4 * n
theorem Short.mono {n m : Nat} {t : Tok} (h : Short n t) (hm : n ≤ m) : Short m t := ⟨by have := h.1; omega, fun p hp => by have := h.2 p hp; omega⟩
theorem Short.shift {n : Nat} {t : Tok} (h : Short n t) (k : Nat) : Short n (t.shift k) := ⟨h.1, fun p hp => by
  obtain ⟨q, hq, rfl⟩ := List.mem_map.1 hp
  exact h.2 q hq⟩
theorem tagR_short {r : List UInt8} {t : Tok} {n : Nat} (h : tagR r = .ok t n) : Short r.length t := by
  unfold tagR at h
  cases hn : nameR r with
  | bad p e => rw [hn] at h; cases h
  | ok nm k =>
    rw [hn] at h
    simp only at h
    have hi := nameR_is hn
    have hnl : nm.length ≤ r.length := by rw [hi.1, List.length_take]; omega
    cases ha : attrsF (r.length + 1) [] (r.drop k) with
    | bad p e => rw [ha] at h; cases h
    | ok xs j =>
      rw [ha] at h
      simp only at h
      have hs := attrsF_short _ _ _ _ _ ha
      rw [List.length_drop] at hs
      have hx : ∀ p ∈ xs.map (Pr.shift k), p.name.length ≤ r.length ∧ p.value.length ≤ 4 * r.length := by
        intro p hp
        obtain ⟨q, hq, rfl⟩ := List.mem_map.1 hp
        have := hs q hq
        simp only [Pr.shift]
        omega
      split at h
      · injection h with h1 h2
        subst h1
        exact ⟨by simp only; omega, hx⟩
      · injection h with h1 h2
        subst h1
        exact ⟨by simp only; omega, hx⟩
      · cases h
      · cases h
theorem closeR_short {r : List UInt8} {t : Tok} {n : Nat} (h : closeR r = .ok t n) : Short r.length t := by
  unfold closeR at h
  cases hn : nameR r with
  | bad p e => rw [hn] at h; cases h
  | ok nm k =>
    rw [hn] at h
    simp only at h
    have hi := nameR_is hn
    have hnl : nm.length ≤ r.length := by rw [hi.1, List.length_take]; omega
    split at h
    · injection h with h1 h2
      subst h1
      exact ⟨by simp only; omega, by simp⟩
    · cases h
theorem lines_short : ∀ (n : Nat) (l : List UInt8), l.length ≤ n → (lines l).length ≤ l.length
  | 0, l, h => by
    have : l = [] := List.eq_nil_of_length_eq_zero (by omega)
    subst this; simp [lines]
  | n + 1, l, h => by
    unfold lines
    split
    · simp
    · rename_i r
      have := lines_short n r (by simp at h; omega)
      simp; omega
    · rename_i r _
      have := lines_short n r (by simp at h; omega)
      simp; omega
    · rename_i c r _ _
      have := lines_short n r (by simp at h; omega)
      simp; omega
theorem textR_short {l : List UInt8} {t : Tok} {n : Nat} (h : textR l = .ok (some t) n) : Short l.length t := by
  unfold textR at h
  have ht := tell_short false (l.take (textLen l))
  rw [List.length_take] at ht
  simp only at h
  have key : ∀ {n : Nat}, (Res.ok (some (⟨3, 0, (tell false (l.take (textLen l))).1, []⟩ : Tok)) (textLen l) : Res (Option Tok)) = .ok (some t) n → Short l.length t := by
    intro n h
    injection h with h1 h2
    injection h1 with h1
    subst h1
    exact ⟨by simp only; omega, by simp⟩
  split at h
  · split at h
    · cases h
    · split at h
      · cases h
      · exact key h
  · split at h
    · cases h
    · exact key h
theorem rawR_short {l : List UInt8} {t : Tok} {n : Nat} (h : rawR l = .ok (some t) n) : Short l.length t := by
  unfold rawR at h
  split at h
  · cases h
  · rename_i k hk
    injection h with h1 h2
    split at h1
    · cases h1
    · injection h1 with h1
      subst h1
      have := lines_short _ ((l.drop 9).take k) (Nat.le_refl _)
      rw [List.length_take, List.length_drop] at this
      exact ⟨by simp only; omega, by simp⟩
theorem oneR_short {first : Bool} {l : List UInt8} {t : Tok} {n : Nat} (h : oneR first l = .ok (some t) n) : Short l.length t := by
  unfold oneR at h
  split at h
  · unfold declR at h
    split at h
    · cases h
    · injection h with h _; cases h
  split at h
  · unfold commentR at h
    split at h
    · cases h
    · split at h
      · injection h with h _; cases h
      · cases h
      · cases h
  split at h
  · exact rawR_short h
  split at h
  · cases h
  split at h
  · cases hc : closeR (l.drop 2) with
    | bad p e => rw [hc] at h; cases h
    | ok x k =>
      rw [hc] at h
      unfold Res.up at h
      injection h with h _
      injection h with h
      subst h
      exact (closeR_short hc).mono (by rw [List.length_drop]; omega)
  split at h
  · cases hc : tagR (l.drop 1) with
    | bad p e => rw [hc] at h; cases h
    | ok x k =>
      rw [hc] at h
      unfold Res.up at h
      injection h with h _
      injection h with h
      subst h
      have hs := (tagR_short hc).mono (m := l.length) (by rw [List.length_drop]; omega)
      refine ⟨hs.1, fun p hp => ?_⟩
      obtain ⟨q, hq, rfl⟩ := List.mem_map.1 hp
      exact hs.2 q hq
  · exact textR_short h
theorem toks_short : ∀ (f : Nat) (first : Bool) (l : List UInt8) (ts : List Tok) (n : Nat), toksF f first l = .ok ts n → ∀ t ∈ ts, Short l.length t
  | 0, first, l, ts, n, h => by unfold toksF at h; injection h with h _; subst h; simp
  | f + 1, first, l, ts, n, h => by
    unfold toksF at h
    split at h
    · injection h with h _; subst h; simp
    · cases ho : oneR first l with
      | bad p e => rw [ho] at h; cases h
      | ok o k =>
        rw [ho] at h
        simp only at h
        cases hr : toksF f false (l.drop k) with
        | bad p e => rw [hr] at h; cases h
        | ok ys j =>
          rw [hr] at h
          simp only at h
          injection h with h1 h2
          have ih := toks_short f _ _ _ _ hr
          subst h1
          intro t ht
          rcases List.mem_append.1 ht with ht | ht
          · obtain rfl : o = some t := by cases o with
              | none => cases ht
              | some y => simp at ht; rw [ht]
            exact oneR_short ho
          · obtain ⟨q, hq, rfl⟩ := List.mem_map.1 ht
            exact ((ih q hq).mono (by rw [List.length_drop]; omega)).shift k
theorem tokens_short' {b : List UInt8} : ∀ t ∈ (tokens b).1, Short b.length t := by
  unfold tokens
  split
  · simp
  split
  · simp
  · cases h : toks true b with
    | bad p e => simp
    | ok ts n => exact toks_short _ _ _ _ _ h
end Go.Proofs.YthodmdfbahkflaaGreatDoor.Tok
namespace Go.Proofs.YthodmdfbahkflaaGreatDoor.Tok
open Go Go.Proofs.YthodmdfbahkflaaGreatDoor Go.Proofs.YthodmdfbahkflaaGreatDoor.Utf Go.Proofs.YthodmdfbahkflaaGreatDoor.Names Go.Proofs.YthodmdfbahkflaaGreatDoor.Ent
set_option maxRecDepth 100000
theorem attrsF_few : ∀ (f : Nat) (seen : List (List UInt8)) (l : List UInt8) (xs : List Pr) (n : Nat), attrsF f seen l = .ok xs n → xs.length ≤ n
  | 0, seen, l, xs, n, h => by unfold attrsF at h; cases h
  | f + 1, seen, l, xs, n, h => by
    unfold attrsF at h
    cases hd : l.drop (blanks l) with
    | nil => rw [hd] at h; cases h
    | cons c r =>
      rw [hd] at h
      simp only at h
      split at h
      · injection h with h1 h2; subst h1; simp
      · split at h
        · cases h
        · rename_i hb
          cases ha : attrT seen (c :: r) with
          | bad p e => rw [ha] at h; cases h
          | ok x k =>
            rw [ha] at h
            obtain ⟨nm, v⟩ := x
            simp only at h
            cases hr : attrsF f (nm :: seen) ((c :: r).drop k) with
            | bad p e => rw [hr] at h; cases h
            | ok ys j =>
              rw [hr] at h
              simp only at h
              injection h with h1 h2
              have ih := attrsF_few f _ _ _ _ hr
              subst h1
              simp
              omega
theorem tagR_few {r : List UInt8} {t : Tok} {n : Nat} (h : tagR r = .ok t n) : t.attrs.length ≤ n := by
  unfold tagR at h
  cases hn : nameR r with
  | bad p e => rw [hn] at h; cases h
  | ok nm k =>
    rw [hn] at h
    simp only at h
    cases ha : attrsF (r.length + 1) [] (r.drop k) with
    | bad p e => rw [ha] at h; cases h
    | ok xs j =>
      rw [ha] at h
      simp only at h
      have hs := attrsF_few _ _ _ _ _ ha
      split at h
      · injection h with h1 h2; subst h1; simp; omega
      · injection h with h1 h2; subst h1; simp; omega
      · cases h
      · cases h
theorem closeR_few {r : List UInt8} {t : Tok} {n : Nat} (h : closeR r = .ok t n) : t.attrs = [] := by
  unfold closeR at h
  cases hn : nameR r with
  | bad p e => rw [hn] at h; cases h
  | ok nm k =>
    rw [hn] at h
    simp only at h
    split at h
    · injection h with h1 h2; subst h1; rfl
    · cases h
theorem textR_few {l : List UInt8} {t : Tok} {n : Nat} (h : textR l = .ok (some t) n) : t.attrs = [] := by
  unfold textR at h
  simp only at h
  split at h
  · split at h
    · cases h
    · split at h
      · cases h
      · injection h with h1 h2; injection h1 with h1; subst h1; rfl
  · split at h
    · cases h
    · injection h with h1 h2; injection h1 with h1; subst h1; rfl
theorem rawR_few {l : List UInt8} {t : Tok} {n : Nat} (h : rawR l = .ok (some t) n) : t.attrs = [] := by
  unfold rawR at h
  split at h
  · cases h
  · injection h with h1 h2
    split at h1
    · cases h1
    · injection h1 with h1; subst h1; rfl
theorem oneR_few {first : Bool} {l : List UInt8} {t : Tok} {n : Nat} (h : oneR first l = .ok (some t) n) : t.attrs.length ≤ n := by
  unfold oneR at h
  split at h
  · unfold declR at h
    split at h
    · cases h
    · injection h with h _; cases h
  split at h
  · unfold commentR at h
    split at h
    · cases h
    · split at h
      · injection h with h _; cases h
      · cases h
      · cases h
  split at h
  · rw [rawR_few h]; simp
  split at h
  · cases h
  split at h
  · cases hc : closeR (l.drop 2) with
    | bad p e => rw [hc] at h; cases h
    | ok x k =>
      rw [hc] at h
      unfold Res.up at h
      injection h with h _
      injection h with h
      subst h
      rw [closeR_few hc]; simp
  split at h
  · cases hc : tagR (l.drop 1) with
    | bad p e => rw [hc] at h; cases h
    | ok x k =>
      rw [hc] at h
      unfold Res.up at h
      injection h with h h2
      injection h with h
      subst h
      have := tagR_few hc
      simp
      omega
  · rw [textR_few h]; simp
theorem toksF_few : ∀ (f : Nat) (first : Bool) (l : List UInt8) (ts : List Tok) (n : Nat), toksF f first l = .ok ts n → ts.length ≤ n ∧ ∀ t ∈ ts, t.attrs.length ≤ n
  | 0, first, l, ts, n, h => by unfold toksF at h; injection h with h _; subst h; simp
  | f + 1, first, l, ts, n, h => by
    unfold toksF at h
    split at h
    · injection h with h _; subst h; simp
    · rename_i h0
      cases ho : oneR first l with
      | bad p e => rw [ho] at h; cases h
      | ok o k =>
        have hk := (oneR_lt h0 ho []).2.2
        rw [ho] at h
        simp only at h
        cases hr : toksF f false (l.drop k) with
        | bad p e => rw [hr] at h; cases h
        | ok ys j =>
          rw [hr] at h
          simp only at h
          injection h with h1 h2
          have ih := toksF_few f _ _ _ _ hr
          subst h1
          constructor
          · cases o <;> simp <;> omega
          · intro t ht
            rcases List.mem_append.1 ht with ht | ht
            · obtain rfl : o = some t := by
                cases o with
                | none => cases ht
                | some y => simp at ht; rw [ht]
              have := oneR_few ho
              omega
            · obtain ⟨q, hq, rfl⟩ := List.mem_map.1 ht
              have := ih.2 q hq
              simp only [Tok.shift, List.length_map]
              omega
theorem tokens_few (b : List UInt8) : (tokens b).1.length ≤ b.length ∧ ∀ t ∈ (tokens b).1, t.attrs.length ≤ b.length := by
  unfold tokens
  split
  · simp
  split
  · simp
  · cases h : toks true b with
    | bad p e => simp
    | ok ts n =>
      have h1 := toksF_few _ _ _ _ _ h
      have h2 := (toks_lt _ b rfl true ts n h).1
      exact ⟨by simp only; omega, fun t ht => by have := h1.2 t ht; omega⟩
end Go.Proofs.YthodmdfbahkflaaGreatDoor.Tok
namespace Go.Proofs.YthodmdfbahkflaaGreatDoor.Tree
open Go Go.Proofs.YthodmdfbahkflaaGreatDoor Go.Proofs.YthodmdfbahkflaaGreatDoor.Utf Go.Proofs.YthodmdfbahkflaaGreatDoor.Names Go.Proofs.YthodmdfbahkflaaGreatDoor.Ent Go.Proofs.YthodmdfbahkflaaGreatDoor.Tok
set_option maxRecDepth 100000
/-- A state behind n tokens. -/
structure Inv (n k : Nat) (s : Bs) : Prop where
  opn : s.opn.length ≤ n
  txn : s.texts.length ≤ n
  txl : ∀ t ∈ s.texts, t.2.length ≤ 4000000
  kid : ∀ e ∈ s.opn, e.kids.length ≤ k
  spl : ∀ e ∈ s.opn, ∀ x ∈ e.given, x.2.length ≤ 4000000
  few : ∀ e ∈ s.opn, e.given.length ≤ 2 + 1000000 * n
theorem Inv.start : Inv 0 0 ⟨[], [], none⟩ := ⟨Nat.le_refl _, Nat.le_refl _, by simp, by simp, by simp, by simp⟩
theorem Inv.mono {n k n' k' : Nat} {s : Bs} (h : Inv n k s) (hn : n ≤ n') (hk : k ≤ k') : Inv n' k' s :=
  ⟨Nat.le_trans h.opn hn, Nat.le_trans h.txn hn, h.txl, fun e he => Nat.le_trans (h.kid e he) hk, h.spl, fun e he => by have := h.few e he; omega⟩
theorem Inv.addN {n k : Nat} {s : Bs} (h : Inv n k s) (m : Node) : Inv n (k + 1) (Tree.addN s m) := by
  unfold Tree.addN
  cases ho : s.opn with
  | nil => exact ⟨by simp, h.txn, h.txl, by simp [ho], by simp [ho], by simp [ho]⟩
  | cons e r =>
    have hm : ∀ x ∈ r, x ∈ s.opn := fun x hx => by rw [ho]; simp [hx]
    have he : e ∈ s.opn := by rw [ho]; simp
    refine ⟨by have := h.opn; rw [ho] at this; simpa using this, h.txn, h.txl, ?_, ?_, ?_⟩
    · intro x hx
      rcases List.mem_cons.1 hx with rfl | hx
      · have := h.kid e he; simp; omega
      · exact Nat.le_succ_of_le (h.kid x (hm x hx))
    · intro x hx
      rcases List.mem_cons.1 hx with rfl | hx
      · exact h.spl e he
      · exact h.spl x (hm x hx)
    · intro x hx
      rcases List.mem_cons.1 hx with rfl | hx
      · exact h.few e he
      · exact h.few x (hm x hx)
theorem Inv.endT {n k : Nat} {s : Bs} (h : Inv n k s) : Inv n (k + 1) (Tree.endT s) := by
  unfold Tree.endT
  split
  · exact h.mono (Nat.le_refl _) (by omega)
  · rename_i t r _
    have := h.addN (.mk t.1 ([], []) [] [] (flat (t :: r)))
    exact ⟨this.opn, by simp, by simp, this.kid, this.spl, this.few⟩
theorem Inv.given {n k : Nat} {s : Bs} (h : Inv n k s) : (∀ x ∈ s.given, x.2.length ≤ 4000000) ∧ s.given.length ≤ 2 + 1000000 * n := by
  unfold Bs.given
  cases ho : s.opn with
  | nil => exact ⟨by intro x hx; rcases List.mem_cons.1 hx with rfl | hx; · decide
                     · obtain rfl : x = ([], []) := by simpa using hx
                       decide, by show 2 ≤ _; omega⟩
  | cons e r => exact ⟨h.spl e (by rw [ho]; simp), h.few e (by rw [ho]; simp)⟩
theorem within_fit : ∀ (l : List Pr) (g g' : Sp), within g l = .ok g' → (∀ x ∈ g, x.2.length ≤ 4000000) → (∀ p ∈ l, p.value.length ≤ 4000000) → (∀ x ∈ g', x.2.length ≤ 4000000) ∧ g'.length ≤ g.length + l.length
  | [], g, g', h, hg, hl => by unfold within at h; injection h with h; subst h; exact ⟨hg, by simp⟩
  | p :: r, g, g', h, hg, hl => by
    unfold within at h
    have hr := fun q hq => hl q (List.mem_cons_of_mem _ hq)
    split at h
    · have := within_fit r g g' h hg hr
      exact ⟨this.1, by simp; omega⟩
    · split at h
      · cases h
      · have := within_fit r _ g' h (fun x hx => by
          rcases List.mem_cons.1 hx with rfl | hx
          · exact hl p (by simp)
          · exact hg x hx) hr
        exact ⟨this.1, by simp at this ⊢; omega⟩
theorem Inv.beginT {n k : Nat} {s s' : Bs} {t : Tok} (h : Inv n k s) (hs : Tree.beginT s t = .ok s') (hf : t.attrs.length ≤ 1000000) (hv : ∀ p ∈ t.attrs, p.value.length ≤ 4000000) : Inv (n + 1) (k + 1) s' := by
  obtain ⟨ho, hl, g, nm, al, hb, rfl⟩ := begin_inv hs
  obtain ⟨g1, g2⟩ := h.given
  obtain ⟨w1, w2⟩ := within_fit _ _ _ hb.w g1 hv
  split
  · exact (h.addN _).mono (by omega) (Nat.le_refl _)
  · have hm := h.mono (n' := n + 1) (k' := k + 1) (by omega) (by omega)
    refine ⟨by have := h.opn; simp; omega, hm.txn, hm.txl, ?_, ?_, ?_⟩
    · intro x hx
      rcases List.mem_cons.1 hx with rfl | hx
      · simp
      · exact hm.kid x hx
    · intro x hx
      rcases List.mem_cons.1 hx with rfl | hx
      · exact w1
      · exact hm.spl x hx
    · intro x hx
      rcases List.mem_cons.1 hx with rfl | hx
      · simp only; omega
      · exact hm.few x hx
theorem Inv.endE {n k : Nat} {s s' : Bs} {t : Tok} (h : Inv n k s) (hs : Tree.endE s t = .ok s') : Inv n (k + 1) s' := by
  unfold Tree.endE at hs
  split at hs
  · cases hs
  · rename_i e r ho
    split at hs
    · cases hs
    · injection hs with hs
      subst hs
      have h2 : Inv n k { s with opn := r } := ⟨by have := h.opn; rw [ho] at this; simp at this ⊢; omega, h.txn, h.txl, fun x hx => h.kid x (by rw [ho]; simp [hx]), fun x hx => h.spl x (by rw [ho]; simp [hx]), fun x hx => h.few x (by rw [ho]; simp [hx])⟩
      exact h2.addN _
theorem Inv.step {n : Nat} {s s' : Bs} {t : Tok} (h : Inv n (2 * n) s) (hs : stepB s t = .ok s') (hf : t.attrs.length ≤ 1000000) (hv : ∀ p ∈ t.attrs, p.value.length ≤ 4000000) (hl : t.s.length ≤ 4000000) : Inv (n + 1) (2 * (n + 1)) s' := by
  unfold stepB at hs
  split at hs
  · split at hs
    · injection hs with hs
      subst hs
      refine ⟨by have := h.opn; simp; omega, by have := h.txn; simp; omega, ?_, fun e he => by have := h.kid e he; omega, h.spl, fun e he => by have := h.few e he; omega⟩
      intro x hx
      rcases List.mem_append.1 hx with hx | hx
      · exact h.txl x hx
      · obtain rfl : x = (t.place, t.s) := by simpa using hx
        exact hl
    · split at hs
      · injection hs with hs
        subst hs
        exact h.mono (by omega) (by omega)
      · cases hs
  · split at hs
    · exact (h.endT.beginT hs hf hv).mono (Nat.le_refl _) (by omega)
    · split at hs
      · exact (h.endT.endE hs).mono (by omega) (by omega)
      · cases hs
end Go.Proofs.YthodmdfbahkflaaGreatDoor.Tree
