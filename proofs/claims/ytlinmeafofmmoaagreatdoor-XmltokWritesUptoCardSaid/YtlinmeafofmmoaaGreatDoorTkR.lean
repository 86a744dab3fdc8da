/- How arguments are read, further: an array of two texts. Over any program. | Layer 4: the writer, told by what it holds; contracts of put, checkName, text, closing, attribute. | Layer 4: the writer: contract of opening. | Layer 4: the writer: contract of token. | Layer 4: contract of Write. | Layer 4: the walk of the statement XmltokTags. -/
import Derived.Test.YtlinmeafofmmoaaGreatDoorOpen
import Derived.Lib.SmallJoins
import Derived.Test.YtlinmeafofmmoaaGreatDoorTkB
import Derived.Test.YtlinmeafofmmoaaGreatDoorTkA
import Derived.Test.YtlinmeafofmmoaaGreatDoorNamesS
import Derived.Test.YtlinmeafofmmoaaGreatDoorEntK
import Derived.Lib.AppendStr
import Derived.Test.YtlinmeafofmmoaaGreatDoorTkG
set_option linter.unusedVariables false
set_option linter.unusedSimpArgs false
namespace Go.Proofs.YtlinmeafofmmoaaGreatDoor
open Go Go.ChangeShapes Go.WideShapes Go.ChangeAt Go.RowKit

section
variable {H : Type} {enc : TypeId × Value → H} {P : Program} {W : World}

/-- An array that came in has its cells. -/
theorem okWide_row {n : Nat} {t e : TypeId} {r : Reach} {base : Nat} {v : Value} (ht : P.underlying t = some (.array n e)) (h : Value.okWide P W r base t v) : ∃ cs, v = .agg cs ∧ cs.size = P.cellsOf t := by
  simp only [Value.okWide, ht] at h
  obtain ⟨cs, h1, h2, _⟩ := h
  exact ⟨cs, h1, h2⟩

/-- An array of two texts that came in. -/
theorem open_two {t e : TypeId} {base : Nat} {v : Value} {d : DataW H} {ps : List MemPlace} (ht : P.underlying t = some (.array 2 e)) (he : P.underlying e = some .string) (hc : P.cellsOf t = 2) (hce : P.cellsOf e = 1)
    (hval : Value.okWide P W .any base t v) (h : DataW.Trod enc P W 0 (fun _ => true) true t v d ps)
    {ts : List TypeId} {ds : List (DataW H)} (hsz : (DataW.weightsEach P ts ds).all (· ≤ reachBytes) = true) (j : Nat) (hts : ts[j]? = some t) (hds : ds[j]? = some d) :
    ∃ a b : List UInt8, v = .agg #[.string (text a), .string (text b)] ∧ a.length ≤ 140737488351232 ∧ b.length ≤ 140737488351232 := by
  obtain ⟨cs, rfl, hcs⟩ := okWide_row ht hval
  rw [hc] at hcs
  obtain ⟨c0, c1, rfl⟩ := Go.Joins.array2 hcs
  obtain ⟨fuel, hf⟩ := h
  obtain ⟨xs, m, _, hx, _, hl, hg⟩ := DataW.trod_array ht hf
  match xs, hl with
  | [y0, y1], _ =>
    have g0 := hg 0 (by omega)
    have g1 := hg 1 (by omega)
    simp [hce, Value.cells] at g0 g1
    obtain ⟨s0, e0, d0, _⟩ := DataW.trod_string he g0
    obtain ⟨s1, e1, d1, _⟩ := DataW.trod_string he g1
    simp only [List.cons.injEq, and_true] at e0 e1
    subst e0 e1 d0 d1
    have hd : d = .agg [.lit (.string s0.data.toList), .lit (.string s1.data.toList)] := by simpa using congrArg Prod.fst hx
    subst hd
    have big := fun n hn => List.all_eq_true.1 hsz n (DataW.weights_mem_each hts hds n hn)
    have b0 := big s0.data.toList.length (by simp [DataW.weights, DataW.weightsAll, ht])
    have b1 := big s1.data.toList.length (by simp [DataW.weights, DataW.weightsAll, ht])
    exact ⟨s0.data.toList, s1.data.toList, by simp [text], of_decide_eq_true b0, of_decide_eq_true b1⟩
end
end Go.Proofs.YtlinmeafofmmoaaGreatDoor
namespace Go.Proofs.YtlinmeafofmmoaaGreatDoor.Tok
open Go Go.Proofs.YtlinmeafofmmoaaGreatDoor Go.Proofs.YtlinmeafofmmoaaGreatDoor.Utf Go.Proofs.YtlinmeafofmmoaaGreatDoor.Names Go.Proofs.YtlinmeafofmmoaaGreatDoor.Ent Go.RowKit
set_option maxRecDepth 100000

theorem infoU : (Tryz.prog.info? 5).map (fun i => (i.zero, i.size, i.bytes)) = some (some (.int .u8 0), 1, 1) := by kernel_rfl
theorem underPs' : Tryz.prog.underlying 57 = some (.slice 56) := Tryz.underlying57
theorem lt_of_some {w : World} {k : Nat} {o : Obj} (h : w.heap[k]? = some o) : k < w.heap.size := by
  rcases Nat.lt_or_ge k w.heap.size with h' | h'
  · exact h'
  · simp [Array.getElem?_eq_none h'] at h
theorem lit_add' (p l : List UInt8) (a : Array UInt8) (ha : a.toList = p) : (⟨a⟩ : ByteArray) ++ text l = text (p ++ l) := by
  have e1 : (⟨a⟩ : ByteArray) = text p := by rw [← ha]; simp [text]
  rw [e1, text_append]
theorem add_lit' (p l : List UInt8) (a : Array UInt8) (ha : a.toList = p) : text l ++ (⟨a⟩ : ByteArray) = text (l ++ p) := by
  have e1 : (⟨a⟩ : ByteArray) = text p := by rw [← ha]; simp [text]
  rw [e1, text_append]
theorem splitE_ok {l : List UInt8} (h : splitO l ≠ none) : splitE l = 0 := by
  unfold splitE
  cases hs : splitO l with
  | none => exact absurd hs h
  | some p => rfl
theorem splitE_no {l : List UInt8} (h : splitO l = none) : splitE l = 6 := by unfold splitE; rw [h]; rfl

/-- Blocks that hold no bytes are as they were, but r. -/
structure Kw (r : Nat) (w w' : World) : Prop where
  os : w'.os = w.os
  tape : w'.tape = w.tape
  output : w'.output = w.output
  size : w.heap.size ≤ w'.heap.size
  block : ∀ k o, w.heap[k]? = some o → k ≠ r → (∀ cs fr, o ≠ .cells cs 5 fr) → w'.heap[k]? = some o
/-- The writer at r: its bytes lie in v and are l; whether a text's are the last. -/
structure Wv (W : World) (r : Nat) (v : Value) (l : List UInt8) (tx : Bool) (w : World) : Prop where
  cur : w.heap[r]? = some (.cells #[v, .bool tx] 62 (0, 0))
  own : w.ownsRow (r + 1) 5 1 v l.length (cellsOf l)
  low : W.heap.size ≤ r
  old : Below W.heap.size W w
def Wt (W : World) (r : Nat) (l : List UInt8) (tx : Bool) (w : World) : Prop := ∃ v, Wv W r v l tx w
theorem owns_but {w w' : World} {B : Nat} {e : TypeId} {s : Nat} {v : Value} {n : Nat} {xs : List Value} (h : w.ownsRow B e s v n xs) (hg : ∀ g, v.ownBlock = some g → w'.heap[g]? = w.heap[g]?) : w'.ownsRow B e s v n xs := by
  obtain ⟨h1, h2⟩ := h
  refine ⟨h1, ?_⟩
  rcases h2 with h2 | ⟨g, cap, cur, hv, hb, hc, rest⟩
  · exact .inl h2
  · exact .inr ⟨g, cap, cur, hv, hb, by rw [hg g (by rw [hv]; rfl)]; exact hc, rest⟩
section
variable {W w w' : World} {r : Nat} {v v' : Value} {l m : List UInt8} {tx : Bool}
theorem Wv.lt (h : Wv W r v l tx w) : r < w.heap.size := lt_of_some h.cur
theorem Wv.c0 (h : Wv W r v l tx w) : w.cell? ⟨r, 0, none⟩ = some v := by rw [Lib.cell_of_heap h.cur]; rfl
theorem Wv.c1 (h : Wv W r v l tx w) : w.cell? ⟨r, 1, none⟩ = some (.bool tx) := by rw [Lib.cell_of_heap h.cur]; rfl
theorem Wv.f0 (h : Wv W r v l tx w) : w.frozen? ⟨r, 0, none⟩ = false := Lib.frozen_of_heap h.cur 0
theorem Wv.f1 (h : Wv W r v l tx w) : w.frozen? ⟨r, 1, none⟩ = false := Lib.frozen_of_heap h.cur 1
theorem Wv.row (h : Wv W r v l tx w) {g : Nat} (hg : v.ownBlock = some g) : r < g ∧ ∃ cs, w.heap[g]? = some (.cells cs 5 (0, 0)) := by
  rcases h.own.2 with ⟨rfl, _⟩ | ⟨b, cap, cur, rfl, hb, hc, _⟩
  · cases hg
  · have e : b = g := by injection hg
    subst e
    exact ⟨hb, cur, hc⟩
theorem Wv.later (h : Wv W r v l tx w) (hb : Below w.heap.size w w') : Wv W r v l tx w' :=
  ⟨(hb.block r h.lt).trans h.cur, owns_later h.own hb, h.low, h.old.trans (hb.mono h.old.size)⟩
theorem Wt.later (h : Wt W r l tx w) (hb : Below w.heap.size w w') : Wt W r l tx w' := by obtain ⟨v, h⟩ := h; exact ⟨v, h.later hb⟩
theorem Wt.old (h : Wt W r l tx w) : Below W.heap.size W w := by obtain ⟨v, h⟩ := h; exact h.old
theorem Wt.lt (h : Wt W r l tx w) : r < w.heap.size := by obtain ⟨v, h⟩ := h; exact h.lt
theorem Wt.lower (h : Wt W r l tx w) : W.heap.size ≤ r := by obtain ⟨v, h⟩ := h; exact h.low
/-- Another block of the call's own, that holds no bytes, has changed. -/
theorem Wv.grown {b : Nat} (h : Wv W r v l tx w) (hg : w.grownBy w' (some b)) {o : Obj} (ho : w.heap[b]? = some o) (hno : ∀ cs fr, o ≠ .cells cs 5 fr) (hne : b ≠ r) (hb : W.heap.size ≤ b) : Wv W r v l tx w' := by
  refine ⟨(hg.block r h.lt (fun e => by injection e with e; exact hne e.symm)).trans h.cur, owns_but h.own (fun g hv => ?_), h.low, h.old.trans ⟨hg.os, hg.tape, hg.output, hg.size, fun k hk => hg.block k (Nat.lt_of_lt_of_le hk h.old.size) (fun e => by injection e with e; omega)⟩⟩
  obtain ⟨_, cs, hc⟩ := h.row hv
  refine hg.block g (lt_of_some hc) (fun e => ?_)
  injection e with e
  subst e
  rw [hc] at ho
  injection ho with ho
  exact hno _ _ ho.symm
theorem Wt.grown {b : Nat} (h : Wt W r l tx w) (hg : w.grownBy w' (some b)) {o : Obj} (ho : w.heap[b]? = some o) (hno : ∀ cs fr, o ≠ .cells cs 5 fr) (hne : b ≠ r) (hb : W.heap.size ≤ b) : Wt W r l tx w' := by
  obtain ⟨v, h⟩ := h; exact ⟨v, h.grown hg ho hno hne hb⟩
theorem Wv.put (h : Wv W r v l tx w) (hg : w.grownBy w' v.ownBlock) (hown : w'.ownsRow (r + 1) 5 1 v' m.length (cellsOf m)) :
    Wv W r v' m tx (w'.setCell ⟨r, 0, none⟩ v') ∧ Kw r w (w'.setCell ⟨r, 0, none⟩ v') := by
  have hc : w'.heap[r]? = some (.cells #[v, .bool tx] 62 (0, 0)) := (hg.block r h.lt (fun e => by have := (h.row e.symm).1; omega)).trans h.cur
  have hs : ∀ k, k ≠ r → (w'.setCell ⟨r, 0, none⟩ v').heap[k]? = w'.heap[k]? := fun k hk => Below.heap_setCell w' ⟨r, 0, none⟩ v' k (fun e => hk (by rw [e]))
  have hz : (w'.setCell ⟨r, 0, none⟩ v').heap.size = w'.heap.size := by simp [World.setCell]
  have hrow := h.low
  refine ⟨⟨by simp [World.setCell, Array.getElem?_modify, hc], owns_but hown (fun g hv => hs g ?_), h.low, ?_⟩, ⟨hg.os, hg.tape, hg.output, by rw [hz]; exact hg.size, fun k o hk hne hno => ?_⟩⟩
  · rcases hown.2 with ⟨e, _⟩ | ⟨b, cap, cur, e, hb, _⟩
    · rw [e] at hv; cases hv
    · rw [e] at hv
      have : b = g := by injection hv
      omega
  · refine h.old.trans ⟨hg.os, hg.tape, hg.output, by rw [hz]; exact hg.size, fun k hk => ?_⟩
    rw [hs k (by omega)]
    exact hg.block k (Nat.lt_of_lt_of_le hk h.old.size) (fun e => by have := (h.row e.symm).1; omega)
  · rw [hs k hne, ← hk]
    refine hg.block k (lt_of_some hk) (fun e => ?_)
    obtain ⟨_, cs, hc⟩ := h.row e.symm
    rw [hc] at hk
    injection hk with hk
    exact hno _ _ hk.symm
theorem Kw.of (h : Below w.heap.size w w') : Kw r w w' := ⟨h.os, h.tape, h.output, h.size, fun k o hk _ _ => (h.block k (lt_of_some hk)).trans hk⟩
theorem Kw.trans {a b c : World} (h : Kw r a b) (k : Kw r b c) : Kw r a c :=
  ⟨k.os.trans h.os, k.tape.trans h.tape, k.output.trans h.output, Nat.le_trans h.size k.size, fun i o hi hn ho => k.block i o (h.block i o hi hn ho) hn ho⟩
end
theorem owns_map_block {w : World} {k : TypeId} {R : Value → Option (DataW Unit × List MemPlace)} {b n : Nat} {D : DataW Unit} (h : w.ownsMap Tryz.prog k R b n D) : ∃ o, w.heap[b]? = some o ∧ ∀ cs fr, o ≠ .cells cs 5 fr := by
  obtain ⟨es, clock, h, _⟩ := h
  exact ⟨_, h, fun _ _ c => by cases c⟩
theorem SeenMap.kw {w w' : World} {r b : Nat} {seen : List (List UInt8)} (h : SeenMap w b seen) (k : Kw r w w') (hne : b ≠ r) : SeenMap w' b seen := by
  obtain ⟨D, n, h1, ⟨es, clock, hb, rest⟩, h3⟩ := h
  exact ⟨D, n, h1, ⟨es, clock, k.block b _ hb hne (fun _ _ c => by cases c), rest⟩, h3⟩
/-- What a call of the writer leaves. -/
def GotW (W : World) (r : Nat) (l : List UInt8) (tx : Bool) : Res (List UInt8) → Ending → World → Prop
  | .ok b _, e, w' => e = .returned (.int .i64 0) ∧ Wt W r (l ++ b) tx w'
  | .bad _ x, e, w' => e = .returned (.int .i64 x) ∧ Below W.heap.size W w'

section
variable {W w : World} {r : Nat} {l : List UInt8} {tx : Bool}
set_option maxHeartbeats 4000000

theorem put_any (h : Wt W r l tx w) (m : List UInt8) (a : ByteArray) (ha : a = text m) (hb : l.length + m.length ≤ 140737488355328) :
    Calls Tryz.prog 68 #[.pointer (some ⟨r, 0, none⟩), .string a] w fun e w' => e = .returned (.tuple #[]) ∧ Wt W r (l ++ m) tx w' ∧ Kw r w w' := by
  obtain ⟨v, h⟩ := h
  obtain ⟨i0, hi, hz0, hz1, hz2⟩ := info_parts infoU
  have c0 := h.c0
  have hlt := h.lt
  have hsz : a.size = m.length := by rw [ha, text_size]
  have hst : Lib.strCells a = cellsOf m := by rw [ha]; unfold Lib.strCells cellsOf; rw [_root_.Go.Proofs.YtlinmeafofmmoaaGreatDoor.text_data]
  have HSZ := hid hsz
  have HST := hid hst
  have O := hid h.own
  have H := hid h
  have HI := hid hi
  clear h hi ha hsz hst
  go_enter Tryz.func68, Tryz.ntmps68
  go_wp2_with (at_builtin; refine Lib.wpList_append_own_string _ rfl _ _ 25 9 rfl (r + 1) 5 i0 underB under9 HI.out hz0 hz1 hz2 _ _ _ rfl O.out _ rfl ?d1 ?d2 ?d3 ?_)
  case d1 => rw [HSZ.out]; unfold maxLen; omega
  case d2 => rw [HSZ.out]; omega
  case d3 => omega
  intro v' w' hown hgr _
  rw [HSZ.out, HST.out, ← cellsOf_append, ← List.length_append] at hown
  obtain ⟨qa, qn, qc, rfl⟩ : ∃ a n c, v' = .slice a n c := by
    rcases hown.2 with ⟨e, _⟩ | ⟨b, cap, cur, e, _⟩
    · exact ⟨_, _, _, e⟩
    · exact ⟨_, _, _, e⟩
  have f1 := H.out.put hgr hown
  have hf : w'.frozen? ⟨r, 0, none⟩ = false := Lib.frozen_of_heap ((hgr.block r hlt (fun e => by have := (H.out.row e.symm).1; omega)).trans H.out.cur) 0
  have F1 := hid f1
  have hcl : w'.cell? ⟨r, 0, none⟩ = some v := by rw [Lib.cell_of_heap ((hgr.block r hlt (fun e => by have := (H.out.row e.symm).1; omega)).trans H.out.cur)]; rfl
  clear f1 hown hgr
  go_wp2
  go_end0
  exact ⟨rfl, ⟨_, F1.out.1⟩, F1.out.2⟩

theorem checkName_any (l : List UInt8) (hl : l.length ≤ 281474976710656) (w : World) :
    Calls Tryz.prog 69 #[.string (text l)] w fun e w' => e = .returned (.int .i64 (splitE l)) ∧ Below w.heap.size w w' := by
  have H := Split_any l hl w
  generalize splitE l = x at *
  generalize splitA l = y at *
  generalize splitB l = z at *
  have H := hid H
  go_enter Tryz.func69, Tryz.ntmps69
  go_wp2_with fail
  refine H.out.mono ?_
  rintro e w1 ⟨rfl, hb1⟩
  go_wp2
  go_ret
  exact ⟨rfl, hb1⟩

theorem wtext_any (h : Wt W r l tx w) (kd pl : Int) (s : List UInt8) (a : Value) (ps : List Pr) (ha : Prs W a ps) (hs : s.length ≤ 1000000) (hb : l.length + 6 * s.length ≤ 140737488355328) :
    Calls Tryz.prog 41 #[.pointer (some ⟨r, 0, none⟩), .agg #[.int .i64 kd, .int .i64 pl, .string (text s), a]] w fun e w' =>
      GotW W r l tx (if s = [] ∨ ps ≠ [] then .bad 0 2 else if check s ≠ s.length then .bad 0 4 else .ok (esc false s) 0) e w' := by
  have hlen := fun X => ha.len (P := Tryz.prog) 57 3 56 underPs' X
  have B1 := ba (b0 w) (.cells #[.int .i64 kd, .int .i64 pl, .string (text s), a] 59)
  have h1 := h.later B1
  have ET := EscapeText_any s hs
  have HO := hid h1.old
  have H1 := hid h1
  by_cases hs0 : s = []
  · rw [if_pos (Or.inl hs0)]
    have q : ((text s).toList == []) = true := list_yes hs0
    clear h h1 ET ha hs0 hs hb B1
    go_enter Tryz.func41, Tryz.ntmps41
    go_wp2
    go_ret
    exact ⟨rfl, HO.out⟩
  have q : ((text s).toList == []) = false := list_no hs0
  by_cases has : ps = []
  · have hz : ps.length = 0 := by rw [has]; rfl
    rw [if_neg (by intro c; rcases c with c | c; exact hs0 c; exact c has)]
    simp only [hz] at hlen
    by_cases hc : check s = s.length
    · rw [if_neg (by intro c; exact c hc)]
      have e5 : escV false s = .tuple #[.string (text (esc false s)), .int .i64 0] := by unfold escV; rw [if_pos hc]
      rw [e5] at ET
      have hl := esc_len false s
      have PP := hid (fun X (hX : Wt W r l tx X) => put_any hX (esc false s) _ rfl (by omega))
      generalize esc false s = u at *
      have ETT := hid ET
      clear h h1 ET ha hs0 hs hb B1 has hz hc e5 hl
      go_enter Tryz.func41, Tryz.ntmps41
      go_wp2_with fail
      refine (ETT.out _).mono ?_
      rintro e w1 ⟨rfl, hb1⟩
      have H2 := hid (H1.out.later hb1)
      clear hb1
      go_wp2_with fail
      refine (PP.out _ H2.out).mono ?_
      rintro e w2 ⟨rfl, h2, _⟩
      have H3 := hid h2
      clear h2
      go_wp2
      go_ret
      exact ⟨rfl, H3.out⟩
    · rw [if_pos hc]
      have e5 : escV false s = .tuple #[.string (text []), .int .i64 4] := by unfold escV; rw [if_neg hc]
      rw [e5] at ET
      have PP := hid (fun X (hX : Wt W r l tx X) => put_any hX [] _ rfl (by simp; omega))
      have ETT := hid ET
      clear h h1 ET ha hs0 hs hb B1 has hz hc e5
      go_enter Tryz.func41, Tryz.ntmps41
      go_wp2_with fail
      refine (ETT.out _).mono ?_
      rintro e w1 ⟨rfl, hb1⟩
      have H2 := hid (H1.out.later hb1)
      clear hb1
      go_wp2_with fail
      refine (PP.out _ H2.out).mono ?_
      rintro e w2 ⟨rfl, h2, _⟩
      have H3 := hid h2.old
      clear h2
      go_wp2
      go_ret
      exact ⟨rfl, H3.out⟩
  · rw [if_pos (Or.inr has)]
    have hz : 0 < (ps.length : Int) := by have := List.length_pos_iff.2 has; omega
    clear h h1 ET ha hs0 hs hb B1 has
    go_enter Tryz.func41, Tryz.ntmps41
    go_wp2
    go_ret
    exact ⟨rfl, HO.out⟩

theorem wclosing_any (h : Wt W r l tx w) (kd pl : Int) (s : List UInt8) (a : Value) (ps : List Pr) (ha : Prs W a ps) (hs : s.length ≤ 1000000) (hb : l.length + s.length + 3 ≤ 140737488355328) :
    Calls Tryz.prog 42 #[.pointer (some ⟨r, 0, none⟩), .agg #[.int .i64 kd, .int .i64 pl, .string (text s), a]] w fun e w' =>
      GotW W r l tx (if splitO s = none then .bad 0 6 else if ps ≠ [] then .bad 0 2 else .ok (60 :: 47 :: (s ++ [62])) 0) e w' := by
  have hlen := fun X => ha.len (P := Tryz.prog) 57 3 56 underPs' X
  have B1 := ba (b0 w) (.cells #[.int .i64 kd, .int .i64 pl, .string (text s), a] 59)
  have h1 := h.later B1
  have CN := checkName_any s (by omega)
  have P0 : (w.alloc (.cells #[.int .i64 kd, .int .i64 pl, .string (text s), a] 59)).heap[w.heap.size]? = some (.cells #[.int .i64 kd, .int .i64 pl, .string (text s), a] 59) := heap_alloc_new w _
  have P0 := hid P0
  have H1 := hid h1
  by_cases hsp : splitO s = none
  · rw [if_pos hsp]
    rw [splitE_no hsp] at CN
    have CNN := hid CN
    clear h h1 ha hs hb B1 hsp CN
    go_enter Tryz.func42, Tryz.ntmps42
    go_wp2_with fail
    refine (CNN.out _).mono ?_
    rintro e w1 ⟨rfl, hb1⟩
    have H2 := hid (H1.out.later hb1).old
    clear hb1
    go_wp2
    go_ret
    exact ⟨rfl, H2.out⟩
  rw [if_neg hsp]
  rw [splitE_ok hsp] at CN
  have CNN := hid CN
  by_cases has : ps = []
  · have hz : ps.length = 0 := by rw [has]; rfl
    rw [if_neg (by intro c; exact c has)]
    simp only [hz] at hlen
    have a1 : (⟨#[60, 47]⟩ : ByteArray) ++ text s = text (60 :: 47 :: s) := lit_add' [60, 47] _ _ rfl
    have a2 : text (60 :: 47 :: s) ++ (⟨#[62]⟩ : ByteArray) = text (60 :: 47 :: (s ++ [62])) := add_lit' [62] _ _ rfl
    have PP := hid (fun X (hX : Wt W r l tx X) => put_any hX (60 :: 47 :: (s ++ [62])) _ rfl (by simp; omega))
    have z1 : (⟨#[60, 47]⟩ : ByteArray).size + (text s).size ≤ 9223372036854775807 := by rw [text_size, show (⟨#[60, 47]⟩ : ByteArray).size = 2 from rfl]; omega
    have z2 : (text (60 :: 47 :: s)).size + (⟨#[62]⟩ : ByteArray).size ≤ 9223372036854775807 := by rw [text_size, show (⟨#[62]⟩ : ByteArray).size = 1 from rfl]; simp; omega
    generalize 60 :: 47 :: (s ++ [62]) = u2 at *
    generalize 60 :: 47 :: s = u1 at *
    clear h h1 ha hs hb B1 hsp CN has hz
    go_enter Tryz.func42, Tryz.ntmps42
    go_wp2_with fail
    refine (CNN.out _).mono ?_
    rintro e w1 ⟨rfl, hb1⟩
    have H2 := hid (H1.out.later hb1)
    have p1 := (hb1.block w.heap.size (by simp)).trans P0.out
    have d2 : w1.cell? ⟨w.heap.size, 2, none⟩ = some (.string (text s)) := by rw [Lib.cell_of_heap p1]; rfl
    have d3 : w1.cell? ⟨w.heap.size, 3, none⟩ = some a := by rw [Lib.cell_of_heap p1]; rfl
    clear hb1 p1
    go_wp2_with fail
    refine (PP.out _ H2.out).mono ?_
    rintro e w2 ⟨rfl, h2, _⟩
    have H3 := hid h2
    clear h2
    go_wp2
    go_ret
    exact ⟨rfl, H3.out⟩
  · rw [if_pos has]
    have hz : 0 < (ps.length : Int) := by have := List.length_pos_iff.2 has; omega
    clear h h1 ha hs hb B1 hsp CN has
    go_enter Tryz.func42, Tryz.ntmps42
    go_wp2_with fail
    refine (CNN.out _).mono ?_
    rintro e w1 ⟨rfl, hb1⟩
    have H2 := hid (H1.out.later hb1).old
    have p1 := (hb1.block w.heap.size (by simp)).trans P0.out
    have d3 : w1.cell? ⟨w.heap.size, 3, none⟩ = some a := by rw [Lib.cell_of_heap p1]; rfl
    clear hb1 p1
    go_wp2
    go_ret
    exact ⟨rfl, H2.out⟩
theorem wattribute_any {mb : Nat} {seen : List (List UInt8)} (h : Wt W r l tx w) (hs : SeenMap w mb seen) (hmb : mb ≠ r) (hlow : W.heap.size ≤ mb) (pl : Int) (nm vl : List UInt8) (hn : nm.length ≤ 1000000) (hv : vl.length ≤ 1000000)
    (hseen : seen.length ≤ 1000000) (hb : l.length + nm.length + 6 * vl.length + 4 ≤ 140737488355328) :
    Calls Tryz.prog 70 #[.pointer (some ⟨r, 0, none⟩), .agg #[.int .i64 pl, .string (text nm), .string (text vl)], .map (some mb)] w fun e w' =>
      GotW W r l tx (if splitO nm = none then .bad 0 6 else if seen.contains nm = true then .bad 0 8 else if check vl ≠ vl.length then .bad 0 4 else .ok (32 :: (nm ++ (61 :: 34 :: (esc true vl ++ [34])))) 0) e w' ∧
      (splitO nm ≠ none → seen.contains nm = false → check vl = vl.length → SeenMap w' mb (nm :: seen)) := by
  have B1 := ba (b0 w) (.cells #[.int .i64 pl, .string (text nm), .string (text vl)] 56)
  have h1 := h.later B1
  have s1 := hs.later B1
  have CN := checkName_any nm (by omega)
  have EV := EscapeValue_any vl hv
  have P0 : (w.alloc (.cells #[.int .i64 pl, .string (text nm), .string (text vl)] 56)).heap[w.heap.size]? = some (.cells #[.int .i64 pl, .string (text nm), .string (text vl)] 56) := heap_alloc_new w _
  have hmw := hs.lt
  have P0 := hid P0
  have H1 := hid h1
  have S1 := hid s1
  have HNL := hid (show nm.length ≤ 281474976710656 by omega)
  have hkey : keyOf Tryz.prog 9 (.string (text nm)) = some (.string nm) := by
    have := WideMaps.keyOf_string_mk (P := Tryz.prog) under9 (s := text nm) (by rw [text_size]; unfold maxLen; omega)
    rw [_root_.Go.Proofs.YtlinmeafofmmoaaGreatDoor.text_data] at this
    exact this
  have HKEY := hid hkey
  clear hkey
  by_cases hsp : splitO nm = none
  · rw [if_pos hsp]
    have HSP := hid hsp
    rw [splitE_no hsp] at CN
    have CNN := hid CN
    clear h h1 hs s1 B1 hsp CN EV
    go_enter Tryz.func70, Tryz.ntmps70
    go_wp2_with fail
    refine (CNN.out _).mono ?_
    rintro e w1 ⟨rfl, hb1⟩
    have H2 := hid (H1.out.later hb1).old
    clear hb1
    go_wp2
    go_ret
    exact ⟨⟨rfl, H2.out⟩, fun c => absurd HSP.out c⟩
  rw [if_neg hsp]
  rw [splitE_ok hsp] at CN
  have CNN := hid CN
  by_cases hct : seen.contains nm = true
  · rw [if_pos hct]
    have HCT := hid hct
    clear h h1 hs s1 B1 hsp CN EV hct
    go_enter Tryz.func70, Tryz.ntmps70
    go_wp2_with fail
    refine (CNN.out _).mono ?_
    rintro e w1 ⟨rfl, hb1⟩
    have H2 := hid (H1.out.later hb1).old
    have p1 := (hb1.block w.heap.size (by simp)).trans P0.out
    have d1 : w1.cell? ⟨w.heap.size, 1, none⟩ = some (.string (text nm)) := by rw [Lib.cell_of_heap p1]; rfl
    have hlk := (S1.out.later hb1).look nm HNL.out
    rw [HCT.out] at hlk
    clear hb1 p1
    go_wp2
    go_ret
    exact ⟨⟨rfl, H2.out⟩, fun _ c => by rw [HCT.out] at c; cases c⟩
  rw [if_neg hct]
  have hct2 : seen.contains nm = false := by cases hc : seen.contains nm with | true => exact absurd hc hct | false => rfl
  have HCT := hid hct2
  by_cases hck : check vl = vl.length
  · rw [if_neg (by intro c; exact c hck)]
    have e5 : escV true vl = .tuple #[.string (text (esc true vl)), .int .i64 0] := by unfold escV; rw [if_pos hck]
    rw [e5] at EV
    have hl := esc_len true vl
    generalize esc true vl = U at *
    have a1 : (⟨#[32]⟩ : ByteArray) ++ text nm = text (32 :: nm) := lit_add' [32] _ _ rfl
    have a2 : text (32 :: nm) ++ (⟨#[61, 34]⟩ : ByteArray) = text (32 :: (nm ++ [61, 34])) := add_lit' [61, 34] _ _ rfl
    have a3 : text (32 :: (nm ++ [61, 34])) ++ text U = text (32 :: (nm ++ [61, 34]) ++ U) := text_append _ _
    have a4 : text (32 :: (nm ++ [61, 34]) ++ U) ++ (⟨#[34]⟩ : ByteArray) = text (32 :: (nm ++ [61, 34]) ++ U ++ [34]) := add_lit' [34] _ _ rfl
    have z1 : (⟨#[32]⟩ : ByteArray).size + (text nm).size ≤ 9223372036854775807 := by rw [text_size, show (⟨#[32]⟩ : ByteArray).size = 1 from rfl]; omega
    have z2 : (text (32 :: nm)).size + (⟨#[61, 34]⟩ : ByteArray).size ≤ 9223372036854775807 := by rw [text_size, show (⟨#[61, 34]⟩ : ByteArray).size = 2 from rfl]; simp; omega
    have z3 : (text (32 :: (nm ++ [61, 34]))).size + (text U).size ≤ 9223372036854775807 := by rw [text_size, text_size]; simp; omega
    have z4 : (text (32 :: (nm ++ [61, 34]) ++ U)).size + (⟨#[34]⟩ : ByteArray).size ≤ 9223372036854775807 := by rw [text_size, show (⟨#[34]⟩ : ByteArray).size = 1 from rfl]; simp; omega
    have PP := hid (fun X (hX : Wt W r l tx X) => put_any hX (32 :: (nm ++ [61, 34]) ++ U ++ [34]) _ rfl (by simp; omega))
    have EQ := hid (show 32 :: (nm ++ [61, 34]) ++ U ++ [34] = 32 :: (nm ++ (61 :: 34 :: (U ++ [34]))) by simp)
    have EVV := hid EV
    clear EV
    generalize 32 :: (nm ++ [61, 34]) ++ U ++ [34] = u4 at *
    generalize 32 :: (nm ++ [61, 34]) ++ U = u3 at *
    generalize 32 :: (nm ++ [61, 34]) = u2 at *
    generalize 32 :: nm = u1 at *
    clear h h1 hs s1 B1 hsp CN hct hct2 hck hn hv e5 hl
    go_enter Tryz.func70, Tryz.ntmps70
    go_wp2_with fail
    refine (CNN.out _).mono ?_
    rintro e w1 ⟨rfl, hb1⟩
    have h1 := H1.out.later hb1
    have p1 := (hb1.block w.heap.size (by simp)).trans P0.out
    have d1 : w1.cell? ⟨w.heap.size, 1, none⟩ = some (.string (text nm)) := by rw [Lib.cell_of_heap p1]; rfl
    have s1 := S1.out.later hb1
    have hlk := s1.look nm HNL.out
    rw [HCT.out] at hlk
    have lt1 : w.heap.size < w1.heap.size := by have := hb1.size; simp at this; omega
    obtain ⟨D, q, hq, hown, hI, hD⟩ := s1
    have SI := hid hI
    have SD := hid hD
    have LT1 := hid lt1
    have H2 := hid h1
    have P1 := hid p1
    obtain ⟨ob, hob, hno⟩ := owns_map_block hown
    have HOB := hid hob
    have HNO := hid hno
    clear hb1 p1 h1 hI hD lt1 hob hno
    go_wp2_with (refine wpList_mapUpdate_own _ rfl _ _ _ 131 rfl 9 4 (Maps.string_keyed under9) Names.underM (plainElem (H := Unit) Tryz.prog 4) _ _ _ rfl hown (by unfold maxLen; omega) _ _ _ rfl rfl HKEY.out (.lit (.bool true)) [] (plainElem_bool underO true) ?_)
    clear hown hlk
    intro w2 hown hg2
    have H3 := hid (H2.out.grown hg2 HOB.out HNO.out hmb hlow)
    have S2 := hid (SeenMap.put SI.out SD.out hq nm hown)
    have P2 := hid ((hg2.block w.heap.size LT1.out (fun e => by injection e with e; omega)).trans P1.out)
    have LT2 := hid (Nat.lt_of_lt_of_le LT1.out hg2.size)
    have d1 : w2.cell? ⟨w.heap.size, 1, none⟩ = some (.string (text nm)) := by (rw [Lib.cell_of_heap P2.out]; try rfl)
    have d2 : w2.cell? ⟨w.heap.size, 2, none⟩ = some (.string (text vl)) := by (rw [Lib.cell_of_heap P2.out]; try rfl)
    clear hg2 hown
    go_wp2_with fail
    refine (EVV.out _).mono ?_
    rintro e w3 ⟨rfl, hb3⟩
    have H4 := hid (H3.out.later hb3)
    have S3 := hid (S2.out.later hb3)
    have p3 := (hb3.block w.heap.size LT2.out).trans P2.out
    have d1' : w3.cell? ⟨w.heap.size, 1, none⟩ = some (.string (text nm)) := by rw [Lib.cell_of_heap p3]; rfl
    clear hb3 p3
    go_wp2_with fail
    refine (PP.out _ H4.out).mono ?_
    rintro e w4 ⟨rfl, h4, k4⟩
    have H5 := hid h4
    have S5 := hid (S3.out.kw k4 hmb)
    clear h4 k4
    go_wp2
    go_ret
    exact ⟨⟨rfl, by have := H5.out; rw [EQ.out] at this; exact this⟩, fun _ _ _ => S5.out⟩
  · rw [if_pos hck]
    have HCK := hid hck
    have e5 : escV true vl = .tuple #[.string (text []), .int .i64 4] := by unfold escV; rw [if_neg hck]
    rw [e5] at EV
    have hl : True := trivial
    have a1 : (⟨#[32]⟩ : ByteArray) ++ text nm = text (32 :: nm) := lit_add' [32] _ _ rfl
    have a2 : text (32 :: nm) ++ (⟨#[61, 34]⟩ : ByteArray) = text (32 :: (nm ++ [61, 34])) := add_lit' [61, 34] _ _ rfl
    have a3 : text (32 :: (nm ++ [61, 34])) ++ text [] = text (32 :: (nm ++ [61, 34]) ++ []) := text_append _ _
    have a4 : text (32 :: (nm ++ [61, 34]) ++ []) ++ (⟨#[34]⟩ : ByteArray) = text (32 :: (nm ++ [61, 34]) ++ [] ++ [34]) := add_lit' [34] _ _ rfl
    have z1 : (⟨#[32]⟩ : ByteArray).size + (text nm).size ≤ 9223372036854775807 := by rw [text_size, show (⟨#[32]⟩ : ByteArray).size = 1 from rfl]; omega
    have z2 : (text (32 :: nm)).size + (⟨#[61, 34]⟩ : ByteArray).size ≤ 9223372036854775807 := by rw [text_size, show (⟨#[61, 34]⟩ : ByteArray).size = 2 from rfl]; simp; omega
    have z3 : (text (32 :: (nm ++ [61, 34]))).size + (text []).size ≤ 9223372036854775807 := by rw [text_size, text_size]; simp; omega
    have z4 : (text (32 :: (nm ++ [61, 34]) ++ [])).size + (⟨#[34]⟩ : ByteArray).size ≤ 9223372036854775807 := by rw [text_size, show (⟨#[34]⟩ : ByteArray).size = 1 from rfl]; simp; omega
    have PP := hid (fun X (hX : Wt W r l tx X) => put_any hX (32 :: (nm ++ [61, 34]) ++ [] ++ [34]) _ rfl (by simp; omega))
    have EVV := hid EV
    clear EV
    generalize 32 :: (nm ++ [61, 34]) ++ [] ++ [34] = u4 at *
    generalize 32 :: (nm ++ [61, 34]) ++ [] = u3 at *
    generalize 32 :: (nm ++ [61, 34]) = u2 at *
    generalize 32 :: nm = u1 at *
    clear h h1 hs s1 B1 hsp CN hct hct2 hck hn hv e5 hl
    go_enter Tryz.func70, Tryz.ntmps70
    go_wp2_with fail
    refine (CNN.out _).mono ?_
    rintro e w1 ⟨rfl, hb1⟩
    have h1 := H1.out.later hb1
    have p1 := (hb1.block w.heap.size (by simp)).trans P0.out
    have d1 : w1.cell? ⟨w.heap.size, 1, none⟩ = some (.string (text nm)) := by rw [Lib.cell_of_heap p1]; rfl
    have s1 := S1.out.later hb1
    have hlk := s1.look nm HNL.out
    rw [HCT.out] at hlk
    have lt1 : w.heap.size < w1.heap.size := by have := hb1.size; simp at this; omega
    obtain ⟨D, q, hq, hown, hI, hD⟩ := s1
    have SI := hid hI
    have SD := hid hD
    have LT1 := hid lt1
    have H2 := hid h1
    have P1 := hid p1
    obtain ⟨ob, hob, hno⟩ := owns_map_block hown
    have HOB := hid hob
    have HNO := hid hno
    clear hb1 p1 h1 hI hD lt1 hob hno
    go_wp2_with (refine wpList_mapUpdate_own _ rfl _ _ _ 131 rfl 9 4 (Maps.string_keyed under9) Names.underM (plainElem (H := Unit) Tryz.prog 4) _ _ _ rfl hown (by unfold maxLen; omega) _ _ _ rfl rfl HKEY.out (.lit (.bool true)) [] (plainElem_bool underO true) ?_)
    clear hown hlk
    intro w2 hown hg2
    have H3 := hid (H2.out.grown hg2 HOB.out HNO.out hmb hlow)
    have S2 := hid (SeenMap.put SI.out SD.out hq nm hown)
    have P2 := hid ((hg2.block w.heap.size LT1.out (fun e => by injection e with e; omega)).trans P1.out)
    have LT2 := hid (Nat.lt_of_lt_of_le LT1.out hg2.size)
    have d1 : w2.cell? ⟨w.heap.size, 1, none⟩ = some (.string (text nm)) := by (rw [Lib.cell_of_heap P2.out]; try rfl)
    have d2 : w2.cell? ⟨w.heap.size, 2, none⟩ = some (.string (text vl)) := by (rw [Lib.cell_of_heap P2.out]; try rfl)
    clear hg2 hown
    go_wp2_with fail
    refine (EVV.out _).mono ?_
    rintro e w3 ⟨rfl, hb3⟩
    have H4 := hid (H3.out.later hb3)
    have S3 := hid (S2.out.later hb3)
    have p3 := (hb3.block w.heap.size LT2.out).trans P2.out
    have d1' : w3.cell? ⟨w.heap.size, 1, none⟩ = some (.string (text nm)) := by rw [Lib.cell_of_heap p3]; rfl
    clear hb3 p3
    go_wp2_with fail
    refine (PP.out _ H4.out).mono ?_
    rintro e w4 ⟨rfl, h4, k4⟩
    have H5 := hid h4
    have S5 := hid (S3.out.kw k4 hmb)
    clear h4 k4
    go_wp2
    go_ret
    exact ⟨⟨rfl, H5.out.old⟩, fun _ _ c => absurd c HCK.out⟩
end
end Go.Proofs.YtlinmeafofmmoaaGreatDoor.Tok
namespace Go.Proofs.YtlinmeafofmmoaaGreatDoor.Tok
open Go Go.Proofs.YtlinmeafofmmoaaGreatDoor Go.Proofs.YtlinmeafofmmoaaGreatDoor.Utf Go.Proofs.YtlinmeafofmmoaaGreatDoor.Names Go.Proofs.YtlinmeafofmmoaaGreatDoor.Ent Go.RowKit
set_option maxRecDepth 100000

theorem sizPw (W : World) : (sizeOf 56).run Tryz.prog W = .ok 3 W := Tryz.sizeOf56 W
/-- One attribute's bytes. -/
def attr1 (seen : List (List UInt8)) (p : Pr) : Res (List UInt8) :=
  if splitO p.name = none then .bad 0 6 else if seen.contains p.name = true then .bad 0 8 else if check p.value ≠ p.value.length then .bad 0 4 else .ok (32 :: (p.name ++ (61 :: 34 :: (esc true p.value ++ [34])))) 0
/-- Bytes ahead of others. -/
def joinW (b : List UInt8) : Res (List UInt8) → Res (List UInt8)
  | .bad i e => .bad i e
  | .ok s n => .ok (b ++ s) n
/-- A tag's bytes. -/
def openW (s en : List UInt8) : Res (List UInt8) → Res (List UInt8)
  | .bad i x => .bad i x
  | .ok b _ => .ok (60 :: (s ++ (b ++ en))) 0
def costA : List Pr → Nat
  | [] => 0
  | p :: r => p.name.length + 6 * p.value.length + 4 + costA r
theorem joinW_nil (x : Res (List UInt8)) : joinW [] x = x := by cases x <;> rfl
theorem joinW_join (a b : List UInt8) (x : Res (List UInt8)) : joinW a (joinW b x) = joinW (a ++ b) x := by cases x <;> simp [joinW]
theorem attr1_bad {seen : List (List UInt8)} {p : Pr} {i e : Nat} (h : attr1 seen p = .bad i e) (r : List Pr) : attrsW seen (p :: r) = .bad 0 e ∧ e ≠ 0 := by
  unfold attr1 at h
  unfold attrsW
  split at h
  · rename_i h1; rw [if_pos h1]; cases h; exact ⟨rfl, by decide⟩
  · rename_i h1
    rw [if_neg h1]
    split at h
    · rename_i h2; rw [if_pos h2]; cases h; exact ⟨rfl, by decide⟩
    · rename_i h2
      rw [if_neg h2]
      split at h
      · rename_i h3; rw [if_pos h3]; cases h; exact ⟨rfl, by decide⟩
      · cases h
theorem attr1_ok {seen : List (List UInt8)} {p : Pr} {u : List UInt8} {n : Nat} (h : attr1 seen p = .ok u n) (r : List Pr) : attrsW seen (p :: r) = joinW u (attrsW (p.name :: seen) r) ∧ u.length ≤ p.name.length + 6 * p.value.length + 4 := by
  unfold attr1 at h
  rw [attrsW]
  split at h
  · cases h
  · rename_i h1
    rw [if_neg h1]
    split at h
    · cases h
    · rename_i h2
      rw [if_neg h2]
      split at h
      · cases h
      · rename_i h3
        rw [if_neg h3]
        injection h with h _
        subst h
        refine ⟨?_, ?_⟩
        · cases attrsW (p.name :: seen) r <;> simp [joinW]
        · have := esc_len true p.value
          simp
          omega
section
variable {W w : World} {r : Nat} {l : List UInt8} {tx : Bool}
set_option maxHeartbeats 4000000

theorem wattr_any {mb : Nat} {seen : List (List UInt8)} (h : Wt W r l tx w) (hs : SeenMap w mb seen) (hmb : mb ≠ r) (hlow : W.heap.size ≤ mb) (p : Pr) (hn : p.name.length ≤ 1000000) (hv : p.value.length ≤ 1000000)
    (hseen : seen.length ≤ 1000000) (hb : l.length + (p.name.length + 6 * p.value.length + 4) ≤ 140737488355328) :
    Calls Tryz.prog 70 #[.pointer (some ⟨r, 0, none⟩), .agg #[.int .i64 p.place, .string (text p.name), .string (text p.value)], .map (some mb)] w fun e w' =>
      match attr1 seen p with
      | .bad _ x => e = .returned (.int .i64 x) ∧ Below W.heap.size W w'
      | .ok u _ => e = .returned (.int .i64 0) ∧ Wt W r (l ++ u) tx w' ∧ SeenMap w' mb (p.name :: seen) := by
  refine (wattribute_any h hs hmb hlow p.place p.name p.value hn hv hseen (by omega)).mono ?_
  rintro e w' ⟨h1, h2⟩
  unfold attr1
  by_cases a1 : splitO p.name = none
  · rw [if_pos a1] at h1 ⊢; exact h1
  · rw [if_neg a1] at h1 ⊢
    by_cases a2 : seen.contains p.name = true
    · rw [if_pos a2] at h1 ⊢; exact h1
    · rw [if_neg a2] at h1 ⊢
      by_cases a3 : check p.value ≠ p.value.length
      · rw [if_pos a3] at h1 ⊢; exact h1
      · rw [if_neg a3] at h1 ⊢
        exact ⟨h1.1, h1.2, h2 a1 (by cases hc : seen.contains p.name with | true => exact absurd hc a2 | false => rfl) (Decidable.not_not.1 a3)⟩

theorem wopening_any (h : Wt W r l tx w) (kd pl : Int) (s : List UInt8) (a : Value) (ps : List Pr) (ha : Prs W a ps) (hs : s.length ≤ 1000000) (hn : ps.length ≤ 1000000)
    (hps : ∀ p ∈ ps, p.name.length ≤ 1000000 ∧ p.value.length ≤ 1000000) (en : List UInt8) (ea : ByteArray) (hea : ea = text en) (hen : en.length ≤ 2) (hb : l.length + s.length + costA ps + 10 ≤ 140737488355328) :
    Calls Tryz.prog 43 #[.pointer (some ⟨r, 0, none⟩), .agg #[.int .i64 kd, .int .i64 pl, .string (text s), a], .string ea] w fun e w' =>
      GotW W r l tx (if splitO s = none then .bad 0 6 else openW s en (attrsW [] ps)) e w' := by
  have hlen := fun X => ha.len (P := Tryz.prog) 57 3 56 underPs' X
  have B1 := ba (b0 w) (.cells #[.int .i64 kd, .int .i64 pl, .string (text s), a] 59)
  have h1 := h.later B1
  have CN := checkName_any s (by omega)
  have P0 : (w.alloc (.cells #[.int .i64 kd, .int .i64 pl, .string (text s), a] 59)).heap[w.heap.size]? = some (.cells #[.int .i64 kd, .int .i64 pl, .string (text s), a] 59) := heap_alloc_new w _
  have hrw := h.lt
  have hlow := h.lower
  have hold := h.old.size
  have P0 := hid P0
  have H1 := hid h1
  by_cases hsp : splitO s = none
  · rw [if_pos hsp]
    rw [splitE_no hsp] at CN
    have CNN := hid CN
    clear h h1 ha hs hb B1 hsp CN
    go_enter Tryz.func43, Tryz.ntmps43
    go_wp2_with fail
    refine (CNN.out _).mono ?_
    rintro e w1 ⟨rfl, hb1⟩
    have H2 := hid (H1.out.later hb1).old
    clear hb1
    go_wp2
    go_ret
    exact ⟨rfl, H2.out⟩
  rw [if_neg hsp]
  rw [splitE_ok hsp] at CN
  have CNN := hid CN
  obtain ⟨A, hA⟩ : ∃ A, attrsW [] ps = A := ⟨_, rfl⟩
  rw [hA]
  have HA := hid hA
  have HPA := hid ha
  have HPS := hid hps
  have HEN := hid (fun (X : World) (m : List UInt8) (hX : Wt W r m tx X) (hm : m.length + 2 ≤ 140737488355328) => put_any hX en ea hea (by omega))
  have a1 : (⟨#[60]⟩ : ByteArray) ++ text s = text (60 :: s) := lit_add' [60] _ _ rfl
  have z1 : (⟨#[60]⟩ : ByteArray).size + (text s).size ≤ 9223372036854775807 := by rw [text_size, show (⟨#[60]⟩ : ByteArray).size = 1 from rfl]; omega
  have hq : (60 :: s).length = s.length + 1 := rfl
  have HEQ := hid (fun b => show l ++ 60 :: s ++ b ++ en = l ++ (60 :: (s ++ (b ++ en))) by simp)
  have PP := hid (fun X (hX : Wt W r l tx X) => put_any hX (60 :: s) _ rfl (by simp; omega))
  generalize 60 :: s = u1 at *
  have hmm := @run_makeMap Tryz.prog
  clear h h1 ha hps B1 hsp CN hA hea
  go_enter Tryz.func43, Tryz.ntmps43
  go_wp2_with fail
  refine (CNN.out _).mono ?_
  rintro e w1 ⟨rfl, hb1⟩
  have H2 := hid (H1.out.later hb1)
  have p1 := (hb1.block w.heap.size (by simp)).trans P0.out
  have d2 : w1.cell? ⟨w.heap.size, 2, none⟩ = some (.string (text s)) := by rw [Lib.cell_of_heap p1]; rfl
  have P1 := hid p1
  have hz1 := hb1.size
  simp only [World.size_alloc] at hz1
  clear hb1 p1
  go_wp2_with fail
  refine (PP.out _ H2.out).mono ?_
  rintro e w2 ⟨rfl, h2, k2⟩
  have p2 := k2.block w.heap.size _ P1.out (by omega) (fun _ _ c => by injection c with _ c _; exact absurd c (by decide))
  have p3 := ((ba (b0 w2) (.map #[] 0)).block w.heap.size (by have := k2.size; omega)).trans p2
  have d3 : (w2.alloc (.map #[] 0)).cell? ⟨w.heap.size, 3, none⟩ = some a := by rw [Lib.cell_of_heap p3]; rfl
  have hz2 : W.heap.size ≤ w2.heap.size := h2.old.size
  have hrm : w2.heap.size ≠ r := by have := h2.lt; omega
  have H3 := hid (h2.later (ba (b0 w2) (.map #[] 0)))
  have S3 := hid (SeenMap.made w2)
  clear h2 k2 p2 p3
  go_wp2_with fail
  go_loopg [27] ps.length (fun g iv wr => ∃ (i : Nat) (seen : List (List UInt8)) (b : List UInt8), iv = .int .i64 i ∧ i + g = ps.length ∧ seen.length ≤ i ∧ b.length + costA (ps.drop i) ≤ costA ps ∧ Hid (A = joinW b (attrsW seen (ps.drop i))) ∧
    Wt W r (l ++ u1 ++ b) tx wr ∧ SeenMap wr w2.heap.size seen)
  case atStart => exact ⟨0, [], [], rfl, by omega, by simp, by simp, hid (by rw [joinW_nil, List.drop_zero]; exact HA.out.symm), by rw [List.append_nil]; exact H3.out, S3.out⟩
  case round =>
    rename World => wr
    obtain ⟨i, seen, b, rfl, hig, hsl, hcb, HE, hwt, hsm⟩ := hrel
    have HW := hid hwt
    have HS := hid hsm
    have hbl : (l ++ u1 ++ b).length = l.length + u1.length + b.length := by simp; omega
    by_cases hi : i < ps.length
    · have hpa := HPA.out.below hwt.old (Nat.le_refl _)
      obtain ⟨bp, op, ip, cp0, cp1, cp2⟩ := hpa.at (P := Tryz.prog) i hi 57 56 underPs' sizPw
      have hpl := HPS.out ps[i] (List.getElem_mem hi)
      have he := HE.out
      rw [List.drop_eq_getElem_cons hi] at he hcb
      generalize ps[i] = p at *
      rw [show costA (p :: ps.drop (i + 1)) = p.name.length + 6 * p.value.length + 4 + costA (ps.drop (i + 1)) from rfl] at hcb
      have B4 := ba (b0 wr) (.cells #[.int .i64 p.place, .string (text p.name), .string (text p.value)] 56)
      have WA := wattr_any (hwt.later B4) (hsm.later B4) hrm hz2 p hpl.1 hpl.2 (by omega) (by rw [hbl]; omega)
      cases h1 : attr1 seen p with
      | bad j x =>
        rw [h1] at WA
        dsimp only at WA
        obtain ⟨e1, e2⟩ := attr1_bad h1 (ps.drop (i + 1))
        rw [e1] at he
        have hx2 : ((x : Int) == 0) = false := by rw [beq_eq_false_iff_ne]; omega
        have E := hid (show A = .bad 0 x by rw [he]; rfl)
        have WAA := hid WA
        clear he e1 hpl hpa h1 WA B4 hwt hsm HE
        go_wp2_with fail
        refine WAA.out.mono ?_
        rintro e w4 ⟨rfl, hb4⟩
        have HB4 := hid hb4
        clear hb4
        go_wp2
        go_ret
        rw [E.out]
        exact ⟨rfl, HB4.out⟩
      | ok u n =>
        rw [h1] at WA
        dsimp only at WA
        obtain ⟨e1, e2⟩ := attr1_ok h1 (ps.drop (i + 1))
        rw [e1, joinW_join] at he
        have E := hid he
        have WAA := hid WA
        clear he e1 hpl hpa h1 WA B4 hwt hsm HE
        go_wp2_with fail
        refine WAA.out.mono ?_
        rintro e w4 ⟨rfl, h4, s4⟩
        have H4 := hid h4
        have S4 := hid s4
        clear h4 s4
        go_wp2
        go_roundg (gk - 1)
        case measure => omega
        case rel => exact ⟨i + 1, _, _, by go_num, by omega, by simp; omega, by rw [List.length_append]; omega, E, by rw [← List.append_assoc]; exact H4.out, S4.out⟩
    · have hz : i = ps.length := by omega
      have he := HE.out
      rw [hz, List.drop_length] at he
      have E := hid (show A = .ok b 0 by rw [he]; simp [joinW, attrsW])
      have EE := hid (HEN.out wr _ hwt (by rw [hbl]; omega))
      clear he hwt hsm HE
      go_wp2_with fail
      refine EE.out.mono ?_
      rintro e w4 ⟨rfl, h4, _⟩
      have H4 := hid h4
      clear h4
      go_wp2
      go_ret
      rw [E.out]
      exact ⟨rfl, by have := H4.out; rw [HEQ.out] at this; exact this⟩
end
end Go.Proofs.YtlinmeafofmmoaaGreatDoor.Tok
namespace Go.Proofs.YtlinmeafofmmoaaGreatDoor.Tok
open Go Go.Proofs.YtlinmeafofmmoaaGreatDoor Go.Proofs.YtlinmeafofmmoaaGreatDoor.Utf Go.Proofs.YtlinmeafofmmoaaGreatDoor.Names Go.Proofs.YtlinmeafofmmoaaGreatDoor.Ent Go.RowKit
set_option maxRecDepth 100000

theorem GotW.num {W w' : World} {r : Nat} {l : List UInt8} {tx : Bool} {R : Res (List UInt8)} {e : Ending} (h : GotW W r l tx R e w') : ∃ x : Int, e = .returned (.int .i64 x) := by
  cases R with
  | ok b n => exact ⟨_, h.1⟩
  | bad i x => exact ⟨_, h.1⟩
section
variable {W w : World} {r : Nat} {l : List UInt8} {tx : Bool}
set_option maxHeartbeats 4000000
theorem Wt.flag (h : Wt W r l tx w) (b : Bool) : Wt W r l b (w.setCell ⟨r, 1, none⟩ (.bool b)) := by
  obtain ⟨v, h⟩ := h
  have hs : ∀ k, k ≠ r → (w.setCell ⟨r, 1, none⟩ (.bool b)).heap[k]? = w.heap[k]? := fun k hk => Below.heap_setCell w ⟨r, 1, none⟩ (.bool b) k (fun e => hk (by rw [e]))
  refine ⟨v, ⟨by simp [World.setCell, Array.getElem?_modify, h.cur], owns_but h.own (fun g hv => hs g (by have := (h.row hv).1; omega)), h.low, h.old.trans ?_⟩⟩
  exact (Kept.put r 1 w _).below h.old.size h.low

theorem wtoken_any (h : Wt W r l tx w) (kd pl : Int) (s : List UInt8) (a : Value) (ps : List Pr) (ha : Prs W a ps) (hs : s.length ≤ 1000000) (hn : ps.length ≤ 1000000)
    (hps : ∀ p ∈ ps, p.name.length ≤ 1000000 ∧ p.value.length ≤ 1000000) (hb : l.length + 6 * s.length + costA ps + 10 ≤ 140737488355328) (ahead : Int) (htx : tx = decide (ahead = 3)) :
    Calls Tryz.prog 24 #[.pointer (some ⟨r, 0, none⟩), .agg #[.int .i64 kd, .int .i64 pl, .string (text s), a]] w fun e w' =>
      GotW W r l (decide (kd = 3)) (tokW ahead ⟨kd, pl, s, ps⟩) e w' := by
  have P1 := heap_alloc_new w (.cells #[.int .i64 kd, .int .i64 pl, .string (text s), a] 59)
  have B1 := ba (b0 w) (.cells #[.int .i64 kd, .int .i64 pl, .string (text s), a] 59)
  have h1 := h.later B1
  have hr : r < w.heap.size := h.lt
  have F := fun b => (h.flag b).later (ba (b0 (w.setCell ⟨r, 1, none⟩ (.bool b))) (.cells #[.int .i64 kd, .int .i64 pl, .string (text s), a] 59))
  obtain ⟨v, hv⟩ := h1
  obtain ⟨v0, hv0⟩ := id h
  have c10 := hv0.c1
  have f10 := hv0.f1
  have c1 := hv.c1
  have f1 := hv.f1
  have FF := hid F
  have HPA := hid ha
  have HPS := hid hps
  clear h hv hv0 P1 B1 F ha hps
  by_cases k3 : kd = 3
  · subst k3
    by_cases ht : ahead = 3
    · rw [decide_eq_true ht] at htx
      subst htx
      have E : tokW ahead ⟨3, pl, s, ps⟩ = .bad 0 2 := by unfold tokW; rw [if_neg (by show ¬ ((3 : Int) < 0 ∨ (3 : Int) < 3); omega), if_pos rfl, if_pos (Or.inr (Or.inr ht))]
      rw [E]
      clear E ht hb hs
      go_enter Tryz.func24, Tryz.ntmps24
      go_wp2
      go_ret
      exact ⟨rfl, (FF.out true).old⟩
    · rw [decide_eq_false ht] at htx
      subst htx
      have E : tokW ahead ⟨3, pl, s, ps⟩ = (if s = [] ∨ ps ≠ [] then .bad 0 2 else if check s ≠ s.length then .bad 0 4 else .ok (esc false s) 0) := by
        unfold tokW
        rw [if_neg (by show ¬ ((3 : Int) < 0 ∨ (3 : Int) < 3); omega), if_pos rfl]
        simp only [ht, or_false]
      rw [E]
      have T := wtext_any (FF.out true) 3 pl s a ps HPA.out hs (by omega)
      generalize (if s = [] ∨ ps ≠ [] then (.bad 0 2 : Res (List UInt8)) else if check s ≠ s.length then .bad 0 4 else .ok (esc false s) 0) = R at *
      have TT := hid T
      clear E ht hb hs T
      go_enter Tryz.func24, Tryz.ntmps24
      go_wp2_with fail
      refine TT.out.mono ?_
      rintro e w1 hg
      obtain ⟨x, rfl⟩ := hg.num
      have HG := hid hg
      clear hg
      go_wp2
      go_ret
      exact HG.out
  · have q3 : (kd == 3) = false := by rw [beq_eq_false_iff_ne]; exact k3
    have D3 := hid (decide_eq_false k3)
    rw [decide_eq_false k3]
    by_cases k1 : kd = 1
    · have q1 : (kd == 1) = true := by rw [beq_iff_eq]; exact k1
      have E : tokW ahead ⟨kd, pl, s, ps⟩ = (if splitO s = none then .bad 0 6 else if ps ≠ [] then .bad 0 2 else .ok (60 :: 47 :: (s ++ [62])) 0) := by
        unfold tokW
        rw [if_neg (by show ¬ (kd < 0 ∨ 3 < kd); omega), if_neg (by exact k3)]
        by_cases hh : splitO s = none
        · rw [if_pos hh, if_pos hh]
        · rw [if_neg hh, if_neg hh, if_pos (by exact k1)]
      rw [E]
      have T := wclosing_any (FF.out false) kd pl s a ps HPA.out hs (by omega)
      generalize (if splitO s = none then (.bad 0 6 : Res (List UInt8)) else if ps ≠ [] then .bad 0 2 else .ok (60 :: 47 :: (s ++ [62])) 0) = R at *
      have TT := hid T
      clear E hb hs T k1 k3 htx
      go_enter Tryz.func24, Tryz.ntmps24
      go_wp2_with fail
      refine TT.out.mono ?_
      rintro e w1 hg
      obtain ⟨x, rfl⟩ := hg.num
      have HG := hid hg
      clear hg
      go_wp2
      go_ret
      exact HG.out
    have q1 : (kd == 1) = false := by rw [beq_eq_false_iff_ne]; exact k1
    by_cases k0 : kd = 0
    · have q0 : (kd == 0) = true := by rw [beq_iff_eq]; exact k0
      have E : tokW ahead ⟨kd, pl, s, ps⟩ = (if splitO s = none then .bad 0 6 else openW s [62] (attrsW [] ps)) := by
        unfold tokW
        rw [if_neg (by show ¬ (kd < 0 ∨ 3 < kd); omega), if_neg (by exact k3)]
        by_cases hh : splitO s = none
        · rw [if_pos hh, if_pos hh]
        · rw [if_neg hh, if_neg hh, if_neg (by exact k1)]
          cases attrsW [] ps with
          | bad i x => rfl
          | ok b n => show Res.ok (60 :: (s ++ (b ++ (if kd = 2 then [47, 62] else [62])))) 0 = _; rw [if_neg (by omega)]; rfl
      rw [E]
      have T := wopening_any (FF.out false) kd pl s a ps HPA.out hs hn HPS.out [62] ⟨#[62]⟩ rfl (by decide) (by omega)
      generalize (if splitO s = none then (.bad 0 6 : Res (List UInt8)) else openW s [62] (attrsW [] ps)) = R at *
      have TT := hid T
      clear E hb hs T k1 k3 htx k0
      go_enter Tryz.func24, Tryz.ntmps24
      go_wp2_with fail
      refine TT.out.mono ?_
      rintro e w1 hg
      obtain ⟨x, rfl⟩ := hg.num
      have HG := hid hg
      clear hg
      go_wp2
      go_ret
      exact HG.out
    have q0 : (kd == 0) = false := by rw [beq_eq_false_iff_ne]; exact k0
    by_cases k2 : kd = 2
    · have q2 : (kd == 2) = true := by rw [beq_iff_eq]; exact k2
      have E : tokW ahead ⟨kd, pl, s, ps⟩ = (if splitO s = none then .bad 0 6 else openW s [47, 62] (attrsW [] ps)) := by
        unfold tokW
        rw [if_neg (by show ¬ (kd < 0 ∨ 3 < kd); omega), if_neg (by exact k3)]
        by_cases hh : splitO s = none
        · rw [if_pos hh, if_pos hh]
        · rw [if_neg hh, if_neg hh, if_neg (by exact k1)]
          cases attrsW [] ps with
          | bad i x => rfl
          | ok b n => show Res.ok (60 :: (s ++ (b ++ (if kd = 2 then [47, 62] else [62])))) 0 = _; rw [if_pos k2]; rfl
      rw [E]
      have T := wopening_any (FF.out false) kd pl s a ps HPA.out hs hn HPS.out [47, 62] ⟨#[47, 62]⟩ rfl (by decide) (by omega)
      generalize (if splitO s = none then (.bad 0 6 : Res (List UInt8)) else openW s [47, 62] (attrsW [] ps)) = R at *
      have TT := hid T
      clear E hb hs T k1 k3 htx k0 k2
      go_enter Tryz.func24, Tryz.ntmps24
      go_wp2_with fail
      refine TT.out.mono ?_
      rintro e w1 hg
      obtain ⟨x, rfl⟩ := hg.num
      have HG := hid hg
      clear hg
      go_wp2
      go_ret
      exact HG.out
    have q2 : (kd == 2) = false := by rw [beq_eq_false_iff_ne]; exact k2
    have E : tokW ahead ⟨kd, pl, s, ps⟩ = .bad 0 2 := by
      unfold tokW
      rw [if_pos (by show kd < 0 ∨ 3 < kd; omega)]
    rw [E]
    clear E hb hs k1 k3 htx k0 k2
    go_enter Tryz.func24, Tryz.ntmps24
    go_wp2
    go_ret
    exact ⟨rfl, (FF.out false).old⟩
end
end Go.Proofs.YtlinmeafofmmoaaGreatDoor.Tok
namespace Go.Proofs.YtlinmeafofmmoaaGreatDoor.Tok
open Go Go.Proofs.YtlinmeafofmmoaaGreatDoor Go.Proofs.YtlinmeafofmmoaaGreatDoor.Utf Go.Proofs.YtlinmeafofmmoaaGreatDoor.Names Go.Proofs.YtlinmeafofmmoaaGreatDoor.Ent Go.RowKit
set_option maxRecDepth 100000

theorem underTw : Tryz.prog.underlying 22 = some (.slice 59) := Tryz.underlying22
theorem sizTw (W : World) : (sizeOf 59).run Tryz.prog W = .ok 4 W := Tryz.sizeOf59 W
def costT : List Tok → Nat
  | [] => 0
  | t :: r => 6 * t.s.length + costA t.attrs + 10 + costT r
/-- Bytes ahead, of i tokens. -/
def joinR (b : List UInt8) (i : Nat) : Res (List UInt8) → Res (List UInt8)
  | .bad j e => .bad (i + j) e
  | .ok s n => .ok (b ++ s) n
/-- What Write tells. -/
def outW : Res (List UInt8) → List UInt8 × Nat × Nat
  | .bad i e => ([], i, e)
  | .ok b _ => (b, 0, 0)
theorem joinR_nil (x : Res (List UInt8)) : joinR [] 0 x = x := by cases x <;> simp [joinR]
theorem joinR_join (a b : List UInt8) (i j : Nat) (x : Res (List UInt8)) : joinR a i (joinR b j x) = joinR (a ++ b) (i + j) x := by cases x <;> simp [joinR, Nat.add_assoc]
theorem wr_bad {ah : Int} {t : Tok} {i e : Nat} (h : tokW ah t = .bad i e) (r : List Tok) : wr ah (t :: r) = .bad 0 e := by unfold wr; rw [h]
theorem wr_ok {ah : Int} {t : Tok} {u : List UInt8} {n : Nat} (h : tokW ah t = .ok u n) (r : List Tok) : wr ah (t :: r) = joinR u 1 (wr t.kind r) := by
  rw [wr, h]
  cases wr t.kind r with
  | bad i e => simp [joinR, Nat.add_comm]
  | ok s m => rfl
theorem attrsW_bad : ∀ (ps : List Pr) (seen : List (List UInt8)) (i e : Nat), attrsW seen ps = .bad i e → e ≠ 0
  | [], _, _, _, h => by cases h
  | p :: r, seen, i, e, h => by
    cases h1 : attr1 seen p with
    | bad j x =>
      obtain ⟨e1, e2⟩ := attr1_bad h1 r
      rw [e1] at h
      injection h with _ h
      rw [← h]; exact e2
    | ok u n =>
      rw [(attr1_ok h1 r).1] at h
      cases h2 : attrsW (p.name :: seen) r with
      | bad j x =>
        rw [h2] at h
        unfold joinW at h
        injection h with _ h
        rw [← h]; exact attrsW_bad r _ _ _ h2
      | ok s m => rw [h2] at h; cases h
theorem attrsW_len : ∀ (ps : List Pr) (seen : List (List UInt8)) (b : List UInt8) (n : Nat), attrsW seen ps = .ok b n → b.length ≤ costA ps
  | [], _, _, _, h => by cases h; simp
  | p :: r, seen, b, n, h => by
    cases h1 : attr1 seen p with
    | bad j x => rw [(attr1_bad h1 r).1] at h; cases h
    | ok u k =>
      have hu := (attr1_ok h1 r).2
      rw [(attr1_ok h1 r).1] at h
      cases h2 : attrsW (p.name :: seen) r with
      | bad j x => rw [h2] at h; cases h
      | ok s m =>
        have ih := attrsW_len r _ _ _ h2
        rw [h2] at h
        unfold joinW at h
        injection h with h _
        subst h
        rw [List.length_append, costA]
        omega
theorem tokW_bad {ah : Int} {t : Tok} {i e : Nat} (h : tokW ah t = .bad i e) : e ≠ 0 := by
  unfold tokW at h
  split at h
  · cases h; decide
  · split at h
    · split at h
      · cases h; decide
      · split at h
        · cases h; decide
        · cases h
    · split at h
      · cases h; decide
      · split at h
        · split at h
          · cases h; decide
          · cases h
        · cases ha : attrsW [] t.attrs with
          | bad j x =>
            rw [ha] at h
            injection h with _ h
            rw [← h]
            exact attrsW_bad _ _ _ _ ha
          | ok b n => rw [ha] at h; cases h
theorem tokW_len {ah : Int} {t : Tok} {u : List UInt8} {n : Nat} (h : tokW ah t = .ok u n) : u.length ≤ 6 * t.s.length + costA t.attrs + 10 := by
  unfold tokW at h
  split at h
  · cases h
  · split at h
    · split at h
      · cases h
      · split at h
        · cases h
        · injection h with h _
          subst h
          have := esc_len false t.s
          omega
    · split at h
      · cases h
      · split at h
        · split at h
          · cases h
          · injection h with h _
            subst h
            simp
            omega
        · cases ha : attrsW [] t.attrs with
          | bad j x => rw [ha] at h; cases h
          | ok b m =>
            have := attrsW_len _ _ _ _ ha
            rw [ha] at h
            injection h with h _
            subst h
            split <;> simp <;> omega

/-- Lengths that a call takes. -/
def FitT (t : Tok) : Prop := t.s.length ≤ 1000000 ∧ t.attrs.length ≤ 1000000 ∧ ∀ p ∈ t.attrs, p.name.length ≤ 1000000 ∧ p.value.length ≤ 1000000
section
variable {W : World} {v : Value} {ts : List Tok}
set_option maxHeartbeats 4000000
theorem Write_any (hT : Toks W v ts) (hn : ts.length ≤ 1000000) (hf : ∀ t ∈ ts, FitT t) (hc : costT ts ≤ 140737488355328) :
    Calls Tryz.prog 11 #[v] W fun e w' => (∃ bv, e = .returned (.tuple #[bv, .int .i64 (outW (wr (-1) ts)).2.1, .int .i64 (outW (wr (-1) ts)).2.2]) ∧ Bytes w' bv (outW (wr (-1) ts)).1) ∧ Below W.heap.size W w' := by
  have hlen := fun X => hT.len (P := Tryz.prog) 22 3 59 underTw X
  obtain ⟨A, hA⟩ : ∃ A, wr (-1) ts = A := ⟨_, rfl⟩
  rw [hA]
  have HA := hid hA
  have HT := hid hT
  have HF := hid hf
  have H0 : Hid (Wt W W.heap.size [] false (W.alloc (.cells #[.slice none 0 0, .bool false] 62))) := hid ⟨_, heap_alloc_new W _, ⟨by simp [cellsOf], .inl ⟨rfl, rfl⟩⟩, Nat.le_refl _, ba (b0 W) _⟩
  clear hA hT hf
  go_enter Tryz.func11, Tryz.ntmps11
  go_wp2_with fail
  go_loopg [11] ts.length (fun g iv X => ∃ (i : Nat) (b : List UInt8) (ah : Int), iv = .int .i64 i ∧ i + g = ts.length ∧ b.length + costT (ts.drop i) ≤ costT ts ∧ Hid (A = joinR b i (Tok.wr ah (ts.drop i))) ∧ Wt W W.heap.size b (decide (ah = 3)) X)
  case atStart => exact ⟨0, [], -1, rfl, by omega, by simp, hid (by rw [joinR_nil, List.drop_zero]; exact HA.out.symm), by rw [show decide ((-1 : Int) = 3) = false from by decide]; exact H0.out⟩
  case round =>
    rename World => X
    obtain ⟨i, b, ah, rfl, hig, hcb, HE, hwt⟩ := hrel
    have HW := hid hwt
    by_cases hi : i < ts.length
    · obtain ⟨bp, op, a, ip, k0, k1, k2, k3, pa⟩ := HT.out.at (P := Tryz.prog) i hi 22 59 underTw sizTw
      obtain ⟨ao, an, ac, rfl⟩ : ∃ ao an ac, a = .slice ao an ac := by obtain ⟨⟨x, c, h, _⟩, _⟩ := pa; exact ⟨_, _, _, h⟩
      have hold := hwt.old
      have cc0 : X.cell? ⟨bp, op, none⟩ = some (.int .i64 ts[i].kind) := by rw [hold.cell (p := ⟨bp, op, none⟩) (World.block_lt_of_cell? _ _ k0)]; exact k0
      have cc1 : X.cell? ⟨bp, op + 1, none⟩ = some (.int .i64 ts[i].place) := by rw [hold.cell (p := ⟨bp, op + 1, none⟩) (World.block_lt_of_cell? _ _ k1)]; exact k1
      have cc2 : X.cell? ⟨bp, op + 2, none⟩ = some (.string (text ts[i].s)) := by rw [hold.cell (p := ⟨bp, op + 2, none⟩) (World.block_lt_of_cell? _ _ k2)]; exact k2
      have cc3 : X.cell? ⟨bp, op + 3, none⟩ = some (.slice ao an ac) := by rw [hold.cell (p := ⟨bp, op + 3, none⟩) (World.block_lt_of_cell? _ _ k3)]; exact k3
      have hft := HF.out ts[i] (List.getElem_mem hi)
      have he := HE.out
      rw [List.drop_eq_getElem_cons hi] at he hcb
      clear k0 k1 k2 k3 hold
      generalize ts[i] = t at *
      rw [show costT (t :: ts.drop (i + 1)) = 6 * t.s.length + costA t.attrs + 10 + costT (ts.drop (i + 1)) from rfl] at hcb
      obtain ⟨kd, pl, s, ps⟩ := t
      dsimp only at *
      have B4 := ba (b0 X) (.cells #[.int .i64 kd, .int .i64 pl, .string (text s), .slice ao an ac] 59)
      have WT := wtoken_any (hwt.later B4) kd pl s (.slice ao an ac) ps pa hft.1 hft.2.1 hft.2.2 (by omega) ah rfl
      cases h1 : tokW ah ⟨kd, pl, s, ps⟩ with
      | bad j x =>
        rw [h1] at WT
        dsimp only [GotW] at WT
        have e2 := tokW_bad h1
        rw [wr_bad h1] at he
        have hx2 : ((x : Int) == 0) = false := by rw [beq_eq_false_iff_ne]; omega
        have E := hid (show A = .bad i x by rw [he]; rfl)
        have WTT := hid WT
        clear he hft pa h1 WT B4 hwt HE
        go_wp2_with fail
        refine WTT.out.mono ?_
        rintro e w4 ⟨rfl, hb4⟩
        have HB4 := hid hb4
        clear hb4
        go_wp2
        go_ret3
        refine ⟨⟨.slice none 0 0, ?_, ?_⟩, HB4.out⟩
        · rw [E.out]; rfl
        · rw [E.out]; exact Row.nil 1 _
      | ok u n =>
        rw [h1] at WT
        dsimp only [GotW] at WT
        have e2 := tokW_len h1
        rw [wr_ok h1, joinR_join] at he
        dsimp only at he e2
        have E := hid he
        have WTT := hid WT
        clear he hft pa h1 WT B4 hwt HE
        go_wp2_with fail
        refine WTT.out.mono ?_
        rintro e w4 ⟨rfl, h4⟩
        have H4 := hid h4
        clear h4
        go_wp2
        go_roundg (gk - 1)
        case measure => omega
        case rel => exact ⟨i + 1, _, kd, by go_num, by omega, by rw [List.length_append]; omega, E, H4.out⟩
    · have hz : i = ts.length := by omega
      have he := HE.out
      rw [hz, List.drop_length] at he
      have E := hid (show A = .ok b 0 by rw [he]; simp [joinR, wr])
      obtain ⟨bv, hwv⟩ := hwt
      have c0 := hwv.c0
      have HV := hid hwv
      clear he hwv HE
      go_wp2
      go_ret3
      refine ⟨⟨bv, ?_, ?_⟩, HV.out.old⟩
      · rw [E.out]; rfl
      · rw [E.out]
        show Bytes _ bv b
        exact Row.ofOwns HV.out.own (by omega)
end
end Go.Proofs.YtlinmeafofmmoaaGreatDoor.Tok
namespace Go.Proofs.YtlinmeafofmmoaaGreatDoor.Tok
open Go Go.Proofs.YtlinmeafofmmoaaGreatDoor Go.Proofs.YtlinmeafofmmoaaGreatDoor.Utf Go.Proofs.YtlinmeafofmmoaaGreatDoor.Names Go.Proofs.YtlinmeafofmmoaaGreatDoor.Ent Go.RowKit
set_option maxRecDepth 100000

theorem kind_bits : (List.range 256).all (fun n => wrap64 (wrap64 (bits BinOp.and IntKind.u8 (n : Int) 1) * 2) == 0 || wrap64 (wrap64 (bits BinOp.and IntKind.u8 (n : Int) 1) * 2) == 2) = true := by kernel_rfl
theorem kind_bit {k : Int} (hk : (Lit.int .u8 k).wf = true) : wrap64 (wrap64 (bits BinOp.and IntKind.u8 k 1) * 2) = 0 ∨ wrap64 (wrap64 (bits BinOp.and IntKind.u8 k 1) * 2) = 2 := by
  simp only [Lit.wf, IntKind.min, IntKind.max, IntKind.signed, IntKind.bits, Bool.and_eq_true, decide_eq_true_eq] at hk
  have h1 : 0 ≤ k ∧ k < 256 := by simp at hk; omega
  have := List.all_eq_true.1 kind_bits k.toNat (List.mem_range.2 (by omega))
  rw [show (k.toNat : Int) = k from by omega, Bool.or_eq_true, beq_iff_eq, beq_iff_eq] at this
  exact this
theorem same_one {x t : Tok} (h : x.bare = t.bare) : sameB false [x] [t] = true := by
  refine sameB_yes rfl fun i h1 h2 => ?_
  have h0 : i = 0 := by simp at h1; omega
  subst h0
  show keyT false x = keyT false t
  unfold Tok.bare at h
  injection h with e1 e2
  injection e2 with e2 e3
  unfold keyT
  have e4 : ∀ (p q : List Pr), p.map Pr.bare = q.map Pr.bare → p.map (keyA false) = q.map (keyA false) := by
    intro p
    induction p with
    | nil => intro q h; cases q with
      | nil => rfl
      | cons c d => cases h
    | cons c p ih =>
      intro q h
      cases q with
      | nil => cases h
      | cons d q =>
        simp only [List.map_cons, List.cons.injEq] at h
        simp only [List.map_cons, List.cons.injEq]
        refine ⟨?_, ih q h.2⟩
        have := h.1
        unfold Pr.bare at this
        injection this with f1 f2
        unfold keyA
        rw [f1, f2]; rfl
  rw [e1, e2, e4 _ _ e3]; rfl

end Go.Proofs.YtlinmeafofmmoaaGreatDoor.Tok
