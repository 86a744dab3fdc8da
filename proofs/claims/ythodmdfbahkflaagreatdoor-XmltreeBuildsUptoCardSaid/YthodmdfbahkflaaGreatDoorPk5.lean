/- Plain mathematics of layer 5: the document's Build, an element within an element, tells what the state machine tells. | Plain mathematics of layer 5: names that may be written, and what they give. -/
import Derived.Test.YthodmdfbahkflaaGreatDoorTrA
set_option linter.unusedVariables false
set_option linter.unusedSimpArgs false
namespace Go.Proofs.YthodmdfbahkflaaGreatDoor.Tree
open Go Go.Proofs.YthodmdfbahkflaaGreatDoor Go.Proofs.YthodmdfbahkflaaGreatDoor.Utf Go.Proofs.YthodmdfbahkflaaGreatDoor.Names Go.Proofs.YthodmdfbahkflaaGreatDoor.Ent Go.Proofs.YthodmdfbahkflaaGreatDoor.Tok
set_option maxRecDepth 100000
/-- The children, and the text that is behind them. -/
def flush (ks : List Node) : List (Int × List UInt8) → List Node
  | [] => ks
  | t :: r => ks ++ [.mk t.1 ([], []) [] [] (flat (t :: r))]
/-- What is wrong, and where; none: the tokens end within. -/
abbrev Wr := Option (Int × Nat)
/-- An element, what is within it being told by ins. -/
def elemW (ins : Sp → List UInt8 → Nat → List Tok → Except Wr (List Node × List Tok)) (g : Sp) (deep : Nat) (t : Tok) (r : List Tok) : Except Wr (Node × List Tok) :=
  if 200 < deep then .error (some (t.place, 9))
  else match within g t.attrs with
    | .error x => .error (some x)
    | .ok g' => match nameIn g' t.s ((get g' []).getD []) with
      | .error e => .error (some (t.place, e))
      | .ok nm => match attrsIn g' [] t.attrs with
        | .error x => .error (some x)
        | .ok al =>
          if t.kind = 2 then .ok (.mk t.place nm al [] [], r)
          else match ins g' t.s deep r with
            | .error x => .error x
            | .ok k => .ok (.mk t.place nm al k.1 [], k.2)
/-- What is within an element, up to its end. -/
def insF : Nat → Sp → List UInt8 → Nat → List Node → List (Int × List UInt8) → List Tok → Except Wr (List Node × List Tok)
  | 0, _, _, _, _, _, _ => .error none
  | _ + 1, _, _, _, _, _, [] => .error none
  | f + 1, g, name, deep, ks, tx, t :: r =>
    if t.kind = 3 then insF f g name deep ks (tx ++ [(t.place, t.s)]) r
    else if t.kind = 1 then (if name ≠ t.s then .error (some (t.place, 5)) else .ok (flush ks tx, r))
    else match elemW (fun g n d r => insF f g n d [] [] r) g (deep + 1) t r with
      | .error x => .error x
      | .ok k => insF f g name deep (flush ks tx ++ [k.1]) [] k.2
theorem endT_flush (e : El) (es : List El) (tx : List (Int × List UInt8)) : endT ⟨e :: es, tx, none⟩ = ⟨{ e with kids := flush e.kids tx } :: es, [], none⟩ := by
  cases tx <;> rfl
/-- The tokens' kinds. -/
def Kinds (l : List Tok) : Prop := ∀ t ∈ l, t.kind = 0 ∨ t.kind = 1 ∨ t.kind = 2 ∨ t.kind = 3
theorem Kinds.tail {t : Tok} {r : List Tok} (h : Kinds (t :: r)) : Kinds r := fun x hx => h x (List.mem_cons_of_mem _ hx)
/-- What the machine tells from within an element on. -/
structure Sim (es : List El) (e : El) (tx : List (Int × List UInt8)) (ts : List Tok) (o : Except Wr (List Node × List Tok)) : Prop where
  bad : ∀ x, o = .error (some x) → buildS ⟨e :: es, tx, none⟩ ts = .error x
  out : o = .error none → ∃ s, buildS ⟨e :: es, tx, none⟩ ts = .ok s ∧ s.outer = none
  ok : ∀ k, o = .ok k → k.2.length ≤ ts.length ∧ (∀ t ∈ k.2, t ∈ ts) ∧ buildS ⟨e :: es, tx, none⟩ ts = buildS (addN ⟨es, [], none⟩ (.mk e.place e.nm e.attrs k.1 [])) k.2
theorem ins_sim : ∀ (f : Nat) (es : List El) (e : El) (tx : List (Int × List UInt8)) (ts : List Tok), ts.length < f → es.length + 1 ≤ 200 → Kinds ts →
    Sim es e tx ts (insF f e.given e.written (es.length + 1) e.kids tx ts)
  | 0, es, e, tx, ts, hf, _, _ => by omega
  | f + 1, es, e, tx, [], hf, hd, hk => ⟨fun x h => (by unfold insF at h; cases h), fun _ => ⟨_, rfl, rfl⟩, fun k h => by unfold insF at h; cases h⟩
  | f + 1, es, e, tx, t :: r, hf, hd, hk => by
    have hr : r.length < f := by simp at hf; omega
    unfold insF
    by_cases c3 : t.kind = 3
    · rw [if_pos c3]
      have h := ins_sim f es e (tx ++ [(t.place, t.s)]) r hr hd hk.tail
      have hs : buildS ⟨e :: es, tx, none⟩ (t :: r) = buildS ⟨e :: es, tx ++ [(t.place, t.s)], none⟩ r := by
        have : stepB ⟨e :: es, tx, none⟩ t = .ok ⟨e :: es, tx ++ [(t.place, t.s)], none⟩ := by unfold stepB; rw [if_pos c3, if_pos (by simp)]
        rw [buildS, this]
      refine ⟨fun x hx => hs.trans (h.bad x hx), fun hx => ?_, fun k hx => ?_⟩
      · obtain ⟨s, h1, h2⟩ := h.out hx
        exact ⟨s, hs.trans h1, h2⟩
      · obtain ⟨h1, h2, h3⟩ := h.ok k hx
        exact ⟨by simp; omega, fun x hx => List.mem_cons_of_mem _ (h2 x hx), hs.trans h3⟩
    rw [if_neg c3]
    by_cases c1 : t.kind = 1
    · rw [if_pos c1]
      have hs : stepB ⟨e :: es, tx, none⟩ t = endE ⟨{ e with kids := flush e.kids tx } :: es, [], none⟩ t := by
        unfold stepB
        rw [if_neg c3, if_neg (by omega), if_pos c1, endT_flush]
      by_cases cw : e.written ≠ t.s
      · rw [if_pos cw]
        have he : endE ⟨{ e with kids := flush e.kids tx } :: es, [], none⟩ t = .error (t.place, 5) := by
          unfold endE
          dsimp only
          rw [if_pos cw]
        refine ⟨fun x hx => ?_, fun hx => (by cases hx), fun k hx => by cases hx⟩
        injection hx with hx
        injection hx with hx
        rw [buildS, hs, he, ← hx]
      · rw [if_neg cw]
        have he : endE ⟨{ e with kids := flush e.kids tx } :: es, [], none⟩ t = .ok (addN ⟨es, [], none⟩ (.mk e.place e.nm e.attrs (flush e.kids tx) [])) := by
          unfold endE
          dsimp only
          rw [if_neg cw]
          rfl
        refine ⟨fun x hx => (by cases hx), fun hx => (by cases hx), fun k hx => ?_⟩
        injection hx with hx
        subst hx
        exact ⟨by simp, fun x hx => List.mem_cons_of_mem _ hx, by rw [buildS, hs, he]⟩
    rw [if_neg c1]
    have c0 : t.kind = 0 ∨ t.kind = 2 := by rcases hk t (by simp) with h | h | h | h <;> omega
    have hs : stepB ⟨e :: es, tx, none⟩ t = beginT ⟨{ e with kids := flush e.kids tx } :: es, [], none⟩ t := by
      unfold stepB
      rw [if_neg c3, if_pos c0, endT_flush]
    obtain ⟨e', he'⟩ : ∃ e', { e with kids := flush e.kids tx } = e' := ⟨_, rfl⟩
    have hg : e'.given = e.given := by rw [← he']
    have hkd : e'.kids = flush e.kids tx := by rw [← he']
    have hwt : e'.written = e.written := by rw [← he']
    have hpl : e'.place = e.place ∧ e'.nm = e.nm ∧ e'.attrs = e.attrs := by rw [← he']; exact ⟨rfl, rfl, rfl⟩
    rw [he'] at hs
    have hb : buildS ⟨e :: es, tx, none⟩ (t :: r) = match beginT ⟨e' :: es, [], none⟩ t with | .error x => .error x | .ok s => buildS s r := by
      rw [buildS, hs]
      cases beginT ⟨e' :: es, [], none⟩ t <;> rfl
    unfold elemW
    unfold beginT at hb
    rw [if_neg (by simp)] at hb
    by_cases cd : 200 < es.length + 1 + 1
    · rw [if_pos cd]
      rw [if_pos (by simp; omega)] at hb
      refine ⟨fun x hx => ?_, fun hx => (by cases hx), fun k hx => by cases hx⟩
      injection hx with hx
      injection hx with hx
      rw [hb, ← hx]
    rw [if_neg cd]
    rw [if_neg (by simp; omega)] at hb
    rw [show (⟨e' :: es, [], none⟩ : Bs).given = e.given from hg] at hb
    cases hw : within e.given t.attrs with
    | error y =>
      rw [hw] at hb
      refine ⟨fun x hx => ?_, fun hx => (by cases hx), fun k hx => by cases hx⟩
      injection hx with hx
      injection hx with hx
      rw [hb, ← hx]
    | ok g' =>
      rw [hw] at hb
      dsimp only at hb ⊢
      cases hn : nameIn g' t.s ((get g' []).getD []) with
      | error y =>
        rw [hn] at hb
        refine ⟨fun x hx => ?_, fun hx => (by cases hx), fun k hx => by cases hx⟩
        injection hx with hx
        injection hx with hx
        rw [hb, ← hx]
      | ok nm =>
        rw [hn] at hb
        dsimp only at hb ⊢
        cases ha : attrsIn g' [] t.attrs with
        | error y =>
          rw [ha] at hb
          refine ⟨fun x hx => ?_, fun hx => (by cases hx), fun k hx => by cases hx⟩
          injection hx with hx
          injection hx with hx
          rw [hb, ← hx]
        | ok al =>
          rw [ha] at hb
          dsimp only at hb ⊢
          -- one child more, and what follows
          have more : ∀ (n : Node) (r' : List Tok), r'.length ≤ r.length → (∀ x ∈ r', x ∈ r) → buildS ⟨e :: es, tx, none⟩ (t :: r) = buildS (addN ⟨e' :: es, [], none⟩ n) r' →
              Sim es e tx (t :: r) (insF f e.given e.written (es.length + 1) (flush e.kids tx ++ [n]) [] r') := fun n r' h1 h2 h3 => by
            have h := ins_sim f es { e' with kids := e'.kids ++ [n] } [] r' (by omega) hd (fun x hx => hk x (List.mem_cons_of_mem _ (h2 x hx)))
            have e1 : addN ⟨e' :: es, [], none⟩ n = ⟨{ e' with kids := e'.kids ++ [n] } :: es, [], none⟩ := rfl
            rw [e1] at h3
            dsimp only at h
            rw [hg, hwt, hkd, hpl.1, hpl.2.1, hpl.2.2] at h
            rw [hkd, hwt, hg, hpl.1, hpl.2.1, hpl.2.2] at h3
            refine ⟨fun x hx => h3.trans (h.bad x hx), fun hx => ?_, fun k hx => ?_⟩
            · obtain ⟨s, g1, g2⟩ := h.out hx
              exact ⟨s, h3.trans g1, g2⟩
            · obtain ⟨g1, g2, g3⟩ := h.ok k hx
              exact ⟨by simp; omega, fun x hx => List.mem_cons_of_mem _ (h2 x (g2 x hx)), h3.trans g3⟩
          by_cases c2 : t.kind = 2
          · rw [if_pos c2] at hb ⊢
            exact more _ r (Nat.le_refl _) (fun x hx => hx) hb
          · rw [if_neg c2] at hb ⊢
            have h := ins_sim f (e' :: es) ⟨t.place, nm, al, [], t.s, g'⟩ [] r hr (by simp; omega) hk.tail
            dsimp only [List.length_cons] at h
            cases hi : insF f g' t.s (es.length + 1 + 1) [] [] r with
            | error y =>
              rw [hi] at h
              dsimp only
              refine ⟨fun x hx => ?_, fun hx => ?_, fun k hx => by cases hx⟩
              · rw [hb]; exact h.bad x hx
              · rw [hb]; exact h.out hx
            | ok k =>
              rw [hi] at h
              dsimp only
              obtain ⟨g1, g2, g3⟩ := h.ok k rfl
              exact more _ k.2 g1 g2 (hb.trans g3)
/-- What the document's Build tells. -/
def topF (en : Int) : Nat → Option Node → List Tok → Node × Int × Nat
  | 0, _, _ => (noNode, en, 10)
  | _ + 1, none, [] => (noNode, en, 10)
  | _ + 1, some n, [] => (n, en, 0)
  | f + 1, o, t :: r =>
    if t.kind = 3 then (if blankB t.s = true then topF en f o r else (noNode, t.place, 5))
    else if t.kind = 1 ∨ o.isSome = true then (noNode, t.place, 5)
    else match elemW (fun g n d r => insF f g n d [] [] r) atFirst 1 t r with
      | .error (some x) => (noNode, x.1, x.2)
      | .error none => (noNode, en, 10)
      | .ok k => topF en f (some k.1) k.2
def told3 (en : Int) : Except (Int × Nat) Bs → Node × Int × Nat
  | .error x => (noNode, x.1, x.2)
  | .ok s => s.out en
theorem top_sim (en : Int) : ∀ (f : Nat) (o : Option Node) (ts : List Tok), ts.length < f → Kinds ts → told3 en (buildS ⟨[], [], o⟩ ts) = topF en f o ts
  | 0, o, ts, hf, _ => by omega
  | f + 1, none, [], hf, _ => rfl
  | f + 1, some n, [], hf, _ => rfl
  | f + 1, o, t :: r, hf, hk => by
    have hr : r.length < f := by simp at hf; omega
    have hu : topF en (f + 1) o (t :: r) = if t.kind = 3 then (if blankB t.s = true then topF en f o r else (noNode, t.place, 5))
      else if t.kind = 1 ∨ o.isSome = true then (noNode, t.place, 5)
      else match elemW (fun g n d r => insF f g n d [] [] r) atFirst 1 t r with
        | .error (some x) => (noNode, x.1, x.2)
        | .error none => (noNode, en, 10)
        | .ok k => topF en f (some k.1) k.2 := by cases o <;> rfl
    rw [hu]
    clear hu
    by_cases c3 : t.kind = 3
    · rw [if_pos c3]
      by_cases cb : blankB t.s = true
      · have hs : stepB ⟨[], [], o⟩ t = .ok ⟨[], [], o⟩ := by unfold stepB; rw [if_pos c3, if_neg (by simp), if_pos cb]
        rw [if_pos cb, buildS, hs]
        exact top_sim en f o r hr hk.tail
      · have hs : stepB ⟨[], [], o⟩ t = .error (t.place, 5) := by unfold stepB; rw [if_pos c3, if_neg (by simp), if_neg cb]
        rw [if_neg cb, buildS, hs]
        rfl
    rw [if_neg c3]
    by_cases c1 : t.kind = 1
    · have hs : stepB ⟨[], [], o⟩ t = .error (t.place, 5) := by
        unfold stepB
        rw [if_neg c3, if_neg (by omega), if_pos c1]
        rfl
      rw [if_pos (.inl c1), buildS, hs]
      rfl
    have c0 : t.kind = 0 ∨ t.kind = 2 := by rcases hk t (by simp) with h | h | h | h <;> omega
    have hs : stepB ⟨[], [], o⟩ t = beginT ⟨[], [], o⟩ t := by
      unfold stepB
      rw [if_neg c3, if_pos c0]
      rfl
    cases o with
    | some n =>
      have hb : beginT ⟨[], [], some n⟩ t = .error (t.place, 5) := by unfold beginT; rw [if_pos (by simp)]
      rw [if_pos (.inr rfl), buildS, hs, hb]
      rfl
    | none =>
      rw [if_neg (by simp [c1])]
      have hb : buildS ⟨[], [], none⟩ (t :: r) = match beginT ⟨[], [], none⟩ t with | .error x => .error x | .ok s => buildS s r := by
        rw [buildS, hs]
        cases beginT ⟨[], [], none⟩ t <;> rfl
      unfold elemW
      rw [if_neg (by omega)]
      unfold beginT at hb
      rw [if_neg (by simp), if_neg (by simp)] at hb
      rw [show (⟨[], [], none⟩ : Bs).given = atFirst from rfl] at hb
      cases hw : within atFirst t.attrs with
      | error y => rw [hw] at hb; rw [hb]; rfl
      | ok g' =>
        rw [hw] at hb
        dsimp only at hb ⊢
        cases hn : nameIn g' t.s ((get g' []).getD []) with
        | error y => rw [hn] at hb; rw [hb]; rfl
        | ok nm =>
          rw [hn] at hb
          dsimp only at hb ⊢
          cases ha : attrsIn g' [] t.attrs with
          | error y => rw [ha] at hb; rw [hb]; rfl
          | ok al =>
            rw [ha] at hb
            dsimp only at hb ⊢
            by_cases c2 : t.kind = 2
            · rw [if_pos c2] at hb ⊢
              dsimp only
              rw [hb]
              exact top_sim en f (some (.mk t.place nm al [] [])) r hr hk.tail
            · rw [if_neg c2] at hb ⊢
              have h := ins_sim f [] ⟨t.place, nm, al, [], t.s, g'⟩ [] r hr (by simp) hk.tail
              dsimp only [List.length_nil] at h
              rw [hb]
              cases hi : insF f g' t.s (0 + 1) [] [] r with
              | error y =>
                rw [hi] at h
                cases y with
                | some x => rw [h.bad x rfl]; rfl
                | none =>
                  obtain ⟨s, g1, g2⟩ := h.out rfl
                  rw [g1]
                  show s.out en = _
                  unfold Bs.out
                  rw [g2]
              | ok k =>
                rw [hi] at h
                obtain ⟨g1, g2, g3⟩ := h.ok k rfl
                rw [g3]
                exact top_sim en f (some (.mk t.place nm al k.1 [])) k.2 (by omega) (fun x hx => hk x (List.mem_cons_of_mem _ (g2 x hx)))
/-- Build, as the document says it. -/
theorem build_top (ts : List Tok) (en : Int) (h : Kinds ts) : build ts en = topF en (ts.length + 1) none ts := by
  rw [← top_sim en (ts.length + 1) none ts (by omega) h]
  unfold build told3
  cases buildS ⟨[], [], none⟩ ts <;> rfl
end Go.Proofs.YthodmdfbahkflaaGreatDoor.Tree
namespace Go.Proofs.YthodmdfbahkflaaGreatDoor.Tree
open Go Go.Proofs.YthodmdfbahkflaaGreatDoor Go.Proofs.YthodmdfbahkflaaGreatDoor.Utf Go.Proofs.YthodmdfbahkflaaGreatDoor.Names Go.Proofs.YthodmdfbahkflaaGreatDoor.Ent Go.Proofs.YthodmdfbahkflaaGreatDoor.Tok
set_option maxRecDepth 100000
theorem split_forms {l p s : List UInt8} (h : splitO l = some (p, s)) : (p = [] ∧ s = l ∧ firstAt 58 l = none) ∨ (p ≠ [] ∧ firstAt 58 l = some p.length ∧ l = p ++ 58 :: s ∧ firstAt 58 p = none) := by
  unfold splitO at h
  cases hf : firstAt 58 l with
  | none =>
    rw [hf] at h
    dsimp only at h
    split at h
    · injection h with h
      injection h with h1 h2
      exact .inl ⟨h1.symm, h2.symm, rfl⟩
    · cases h
  | some i =>
    rw [hf] at h
    dsimp only at h
    split at h
    · rename_i hp
      injection h with h
      injection h with h1 h2
      have hlt := firstAt_lt hf
      obtain ⟨ha, hno⟩ := firstAt_at hf
      have hpl : p.length = i := by rw [← h1, List.length_take]; omega
      have hne : p ≠ [] := by
        intro e
        rw [h1, e] at hp
        simp [plainB] at hp
        exact absurd hp.1 (by decide)
      refine .inr ⟨hne, by rw [hpl], ?_, ?_⟩
      · have h3 : l[i] = 58 := by
          have := (List.getElem?_eq_some_iff.1 ha)
          exact this.2
        have h4 := List.take_append_drop i l
        rw [List.drop_eq_getElem_cons hlt, h3, h1, h2] at h4
        exact h4.symm
      · refine firstAt_no fun k hk => ?_
        have hki : k < i := by
          have := (List.getElem?_eq_some_iff.1 hk).1
          omega
        rw [← h1, List.getElem?_take, if_pos hki] at hk
        exact hno k hki hk
    · cases h
theorem gives_split {l p s : List UInt8} (h : splitO l = some (p, s)) : givesB l = (decide (p = [] ∧ s = xmlns) || decide (p = xmlns)) ∧ givenTo l = (if p = [] then [] else s) := by
  rcases split_forms h with ⟨rfl, rfl, hf⟩ | ⟨hp, hf, rfl, hn⟩
  · constructor
    · have h1 : pre [120, 109, 108, 110, 115, 58] s = false := by
        rw [Bool.eq_false_iff]
        intro hx
        obtain ⟨r, rfl⟩ := (pre_iff _ _).1 hx
        exact firstAt_none hf 5 rfl
      unfold givesB
      rw [h1]
      by_cases e : s = xmlns
      · simp [e]
      · have e2 : ([] : List UInt8) ≠ xmlns := by decide
        simp [e, e2]
    · unfold givenTo
      rw [hf]
      rfl
  · constructor
    · have h1 : (p ++ 58 :: s == xmlns) = false := by
        rw [beq_eq_false_iff_ne]
        intro e
        have : (58 : UInt8) ∈ xmlns := by rw [← e]; simp
        exact absurd this (by decide)
      unfold givesB
      rw [h1]
      by_cases e : p = xmlns
      · have h2 : pre [120, 109, 108, 110, 115, 58] (p ++ 58 :: s) = true := (pre_iff _ _).2 ⟨s, by rw [e]; rfl⟩
        rw [h2]
        simp [e]
      · have h2 : pre [120, 109, 108, 110, 115, 58] (p ++ 58 :: s) = false := by
          rw [Bool.eq_false_iff]
          intro hx
          obtain ⟨r, hr⟩ := (pre_iff _ _).1 hx
          have hf2 : firstAt 58 (xmlns ++ 58 :: r) = some xmlns.length := firstAt_between r (by decide)
          have he : p ++ 58 :: s = xmlns ++ 58 :: r := hr
          rw [he, hf2] at hf
          injection hf with hf
          have h3 := congrArg (List.take p.length) he
          rw [List.take_left, ← hf, List.take_left] at h3
          exact e h3
        simp [h2, e, hp]
    · unfold givenTo
      rw [hf, if_neg hp]
      simp
/-- Names that are right. -/
def NameT (t : Tok) : Prop := (t.kind ≠ 3 → splitO t.s ≠ none) ∧ ∀ p ∈ t.attrs, splitO p.name ≠ none
theorem attrsW_names : ∀ (l : List Pr) (seen : List (List UInt8)) (b : List UInt8) (n : Nat), attrsW seen l = .ok b n → ∀ p ∈ l, splitO p.name ≠ none
  | [], _, _, _, _ => by simp
  | q :: r, seen, b, n, h => by
    unfold attrsW at h
    split at h
    · cases h
    rename_i h1
    split at h
    · cases h
    split at h
    · cases h
    cases ha : attrsW (q.name :: seen) r with
    | bad i e => rw [ha] at h; cases h
    | ok s m =>
      intro p hp
      rcases List.mem_cons.1 hp with rfl | hp
      · exact h1
      · exact attrsW_names r _ _ _ ha p hp
theorem tokW_names {a : Int} {t : Tok} {b : List UInt8} {n : Nat} (h : tokW a t = .ok b n) : (t.kind = 0 ∨ t.kind = 1 ∨ t.kind = 2 ∨ t.kind = 3) ∧ NameT t := by
  unfold tokW at h
  split at h
  · cases h
  rename_i hk
  split at h
  · rename_i h3
    split at h
    · cases h
    rename_i h4
    have ha : t.attrs = [] := by
      by_cases c : t.attrs = []
      · exact c
      · exact absurd (.inr (.inl c)) h4
    exact ⟨by omega, fun c => absurd h3 c, by rw [ha]; simp⟩
  rename_i h3
  split at h
  · cases h
  rename_i hs
  split at h
  · rename_i h1
    split at h
    · cases h
    rename_i h4
    have ha : t.attrs = [] := by
      by_cases c : t.attrs = []
      · exact c
      · exact absurd c h4
    exact ⟨by omega, fun _ => hs, by rw [ha]; simp⟩
  · rename_i h1
    cases ha : attrsW [] t.attrs with
    | bad i e => rw [ha] at h; cases h
    | ok s m => exact ⟨by omega, fun _ => hs, attrsW_names _ _ _ _ ha⟩
theorem wr_names : ∀ (l : List Tok) (a : Int) (b : List UInt8) (n : Nat), wr a l = .ok b n → Kinds l ∧ ∀ t ∈ l, NameT t
  | [], _, _, _, _ => ⟨by simp [Kinds], by simp⟩
  | t :: r, a, b, n, h => by
    unfold wr at h
    cases ht : tokW a t with
    | bad i e => rw [ht] at h; cases h
    | ok s m =>
      rw [ht] at h
      dsimp only at h
      cases hr : wr t.kind r with
      | bad i e => rw [hr] at h; cases h
      | ok c k =>
        obtain ⟨h1, h2⟩ := tokW_names ht
        obtain ⟨h3, h4⟩ := wr_names r _ _ _ hr
        refine ⟨fun x hx => ?_, fun x hx => ?_⟩
        · rcases List.mem_cons.1 hx with rfl | hx
          · exact h1
          · exact h3 x hx
        · rcases List.mem_cons.1 hx with rfl | hx
          · exact h2
          · exact h4 x hx
/-! The last one that is given to a prefix: by its place. -/
theorem get_last : ∀ (g : Sp) (p : List UInt8), get g p = none ↔ ∀ x ∈ g, x.1 ≠ p
  | [], p => by simp [get]
  | x :: g, p => by
    have ih := get_last g p
    unfold get at ih ⊢
    by_cases h : x.1 = p
    · simp [h]
    · have hb : (x.1 == p) = false := beq_eq_false_iff_ne.2 h
      rw [List.find?_cons, hb]
      simp only
      rw [ih]
      simp [h]
/-- What an element's tag tells: what is given, its name, its attributes. -/
def headW (g : Sp) (t : Tok) : Except (Int × Nat) (Sp × Nm × List Att) :=
  match within g t.attrs with
  | .error x => .error x
  | .ok g' => match nameIn g' t.s ((get g' []).getD []) with
    | .error e => .error (t.place, e)
    | .ok nm => match attrsIn g' [] t.attrs with
      | .error x => .error x
      | .ok al => .ok (g', nm, al)
theorem elemW_head (ins : Sp → List UInt8 → Nat → List Tok → Except Wr (List Node × List Tok)) (g : Sp) (deep : Nat) (t : Tok) (r : List Tok) (hd : ¬ 200 < deep) :
    elemW ins g deep t r = match headW g t with
      | .error x => .error (some x)
      | .ok h => if t.kind = 2 then .ok (.mk t.place h.2.1 h.2.2 [] [], r) else match ins h.1 t.s deep r with
        | .error x => .error x
        | .ok k => .ok (.mk t.place h.2.1 h.2.2 k.1 [], k.2) := by
  unfold elemW headW
  rw [if_neg hd]
  cases within g t.attrs with
  | error x => rfl
  | ok g' =>
    dsimp only
    cases nameIn g' t.s ((get g' []).getD []) with
    | error x => rfl
    | ok nm =>
      dsimp only
      cases attrsIn g' [] t.attrs with
      | error x => rfl
      | ok al => rfl
theorem headW_ne {g : Sp} {t : Tok} {x : Int × Nat} (h : headW g t = .error x) : x.2 ≠ 0 := by
  unfold headW at h
  cases h1 : within g t.attrs with
  | error y => rw [h1] at h; injection h with h; rw [← h]; exact within_ne _ _ _ h1
  | ok g' =>
    rw [h1] at h
    dsimp only at h
    cases h2 : nameIn g' t.s ((get g' []).getD []) with
    | error y => rw [h2] at h; injection h with h; rw [← h]; exact nameIn_ne h2
    | ok nm =>
      rw [h2] at h
      dsimp only at h
      cases h3 : attrsIn g' [] t.attrs with
      | error y => rw [h3] at h; injection h with h; rw [← h]; exact attrsIn_ne _ _ _ _ h3
      | ok al => rw [h3] at h; cases h
theorem insF_ne : ∀ (f : Nat) (g : Sp) (name : List UInt8) (deep : Nat) (ks : List Node) (tx : List (Int × List UInt8)) (ts : List Tok) (x : Int × Nat), insF f g name deep ks tx ts = .error (some x) → x.2 ≠ 0
  | 0, g, name, deep, ks, tx, ts, x, h => by unfold insF at h; cases h
  | f + 1, g, name, deep, ks, tx, [], x, h => by unfold insF at h; cases h
  | f + 1, g, name, deep, ks, tx, t :: r, x, h => by
    unfold insF at h
    split at h
    · exact insF_ne f _ _ _ _ _ _ _ h
    split at h
    · split at h
      · injection h with h; injection h with h; rw [← h]; show (_ : Nat) ≠ 0; simp
      · cases h
    by_cases hd : 200 < deep + 1
    · unfold elemW at h
      rw [if_pos hd] at h
      injection h with h
      injection h with h
      rw [← h]; show (_ : Nat) ≠ 0; simp
    rw [elemW_head _ _ _ _ _ hd] at h
    cases hh : headW g t with
    | error y => rw [hh] at h; injection h with h; injection h with h; rw [← h]; exact headW_ne hh
    | ok k =>
      rw [hh] at h
      dsimp only at h
      by_cases h2 : t.kind = 2
      · rw [if_pos h2] at h
        exact insF_ne f _ _ _ _ _ _ _ h
      · rw [if_neg h2] at h
        cases hi : insF f k.1 t.s (deep + 1) [] [] r with
        | error y =>
          rw [hi] at h
          injection h with h
          rw [h] at hi
          exact insF_ne f _ _ _ _ _ _ _ hi
        | ok q =>
          rw [hi] at h
          exact insF_ne f _ _ _ _ _ _ _ h
theorem elemW_ne {f : Nat} {g : Sp} {deep : Nat} {t : Tok} {r : List Tok} {x : Int × Nat} (h : elemW (fun g n d r => insF f g n d [] [] r) g deep t r = .error (some x)) : x.2 ≠ 0 := by
  by_cases hd : 200 < deep
  · unfold elemW at h
    rw [if_pos hd] at h
    injection h with h
    injection h with h
    rw [← h]; show (_ : Nat) ≠ 0; simp
  rw [elemW_head _ _ _ _ _ hd] at h
  cases hh : headW g t with
  | error y => rw [hh] at h; injection h with h; injection h with h; rw [← h]; exact headW_ne hh
  | ok k =>
    rw [hh] at h
    dsimp only at h
    by_cases h2 : t.kind = 2
    · rw [if_pos h2] at h; cases h
    · rw [if_neg h2] at h
      cases hi : insF f k.1 t.s deep [] [] r with
      | error y =>
        rw [hi] at h
        injection h with h
        rw [h] at hi
        exact insF_ne f _ _ _ _ _ _ _ hi
      | ok q => rw [hi] at h; cases h
/-- Where, and what, given the end. -/
def wrOf (en : Int) (o : Wr) : Int × Nat := o.getD (en, 10)
end Go.Proofs.YthodmdfbahkflaaGreatDoor.Tree
