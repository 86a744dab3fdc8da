/- Layer 5: contracts of Build and Read. | Layer 5: the document's examples. | Layer 5: the walk of the statement XmltreeDeep. -/
import Derived.Test.YthodmdfbahkflaaGreatDoorTrE
import Derived.Test.YthodmdfbahkflaaGreatDoorTrA
import Derived.Test.YthodmdfbahkflaaGreatDoorTkE
import Derived.Test.YthodmdfbahkflaaGreatDoorPk3
set_option linter.unusedVariables false
set_option linter.unusedSimpArgs false
namespace Go.Proofs.YthodmdfbahkflaaGreatDoor.Tree
open Go Go.Proofs.YthodmdfbahkflaaGreatDoor Go.Proofs.YthodmdfbahkflaaGreatDoor.Utf Go.Proofs.YthodmdfbahkflaaGreatDoor.Names Go.Proofs.YthodmdfbahkflaaGreatDoor.Ent Go.Proofs.YthodmdfbahkflaaGreatDoor.Tok Go.RowKit
set_option maxRecDepth 100000
theorem results_three {fn : Func} {p u x : Tmp} {ty : TypeId} (h : fn.results = #[.cell p ty, .tmp u, .tmp x]) {P : Program} (tmps : Array Value) (w : World) (g : Nat) (cs : Array Value)
    (hp : tmps.getD p undef = .pointer (some ⟨g, 0, none⟩)) (hrun : (loadVar ty ⟨g, 0, none⟩).run P w = .ok (.agg cs) w) :
    (results fn tmps).run P w = .ok (.tuple #[.agg cs, tmps.getD u undef, tmps.getD x undef]) w := by
  have hp2 : tmps[p]?.getD undef = .pointer (some ⟨g, 0, none⟩) := by simpa using hp
  simp only [results, h]
  simp [Sem.run_bind, hp2, asAddr, hrun, Result.andThen]
/-- Six stores into one block. -/
theorem put6 {w : World} {b : Nat} {a0 a1 a2 a3 a4 a5 : Value} {ty : TypeId} (h : w.heap[b]? = some (.cells #[a0, a1, a2, a3, a4, a5] ty (0, 0))) (x0 x1 x2 x3 x4 x5 : Value) :
    ((((((w.setCell ⟨b, 0, none⟩ x0).setCell ⟨b, 1, none⟩ x1).setCell ⟨b, 2, none⟩ x2).setCell ⟨b, 3, none⟩ x3).setCell ⟨b, 4, none⟩ x4).setCell ⟨b, 5, none⟩ x5).heap[b]? = some (.cells #[x0, x1, x2, x3, x4, x5] ty (0, 0)) ∧
      w.grownBy ((((((w.setCell ⟨b, 0, none⟩ x0).setCell ⟨b, 1, none⟩ x1).setCell ⟨b, 2, none⟩ x2).setCell ⟨b, 3, none⟩ x3).setCell ⟨b, 4, none⟩ x4).setCell ⟨b, 5, none⟩ x5) (some b) := by
  refine ⟨by simp [World.setCell, Array.getElem?_modify, h], ?_⟩
  exact Kept.trans (Kept.trans (Kept.trans (Kept.trans (Kept.trans (Kept.put b 0 w x0) (Kept.put b 1 _ x1)) (Kept.put b 2 _ x2)) (Kept.put b 3 _ x3)) (Kept.put b 4 _ x4)) (Kept.put b 5 _ x5)
theorem sizeNode : (Tryz.prog.info? 32).map (·.size) = some 6 := by kernel_rfl
def outOf (A : Except (Int × Nat) Bs) (en : Int) : Node × Int × Nat :=
  match A with
  | .error x => (noNode, x.1, x.2)
  | .ok s => s.out en
/-- What Build tells. -/
def GotT (W : World) (o : Node × Int × Nat) (e : Ending) (w' : World) : Prop :=
  (∃ ao an ac ko kn kc, e = .returned (.tuple #[nodeV o.1 (.slice ao an ac) (.slice ko kn kc), .int .i64 o.2.1, .int .i64 o.2.2]) ∧ IsN w' (fun b => b < W.heap.size) o.1 (.slice ao an ac) (.slice ko kn kc)) ∧ Below W.heap.size W w'
theorem noNode_is (w : World) (A : Nat → Prop) : IsN w A noNode (.slice none 0 0) (.slice none 0 0) := IsN.of (Atts.nil _ _) (Kids.nil _ _)
theorem IsN.forms {w : World} {A : Nat → Prop} {n : Node} {av kv : Value} (h : IsN w A n av kv) : (∃ o m c, av = .slice o m c) ∧ ∃ o m c, kv = .slice o m c := by
  obtain ⟨h1, h2⟩ := h.parts
  obtain ⟨⟨⟨a, c, ha, _⟩, _⟩, _⟩ := h1
  obtain ⟨_, _, ⟨⟨b, d, hb, _⟩, _⟩, _⟩ := h2
  exact ⟨⟨_, _, _, ha⟩, _, _, _, hb⟩
/-- The builder when it is new. -/
theorem Bd.start (W : World) : Bd W W.heap.size ⟨[], [], none⟩ (.slice none 0 0) (.slice none 0 0) [] [] (noNode, .slice none 0 0, .slice none 0 0)
    (W.alloc (.cells #[.slice none 0 0, .slice none 0 0, .int .i64 0, .string ⟨#[]⟩, .string ⟨#[]⟩, .slice none 0 0, .slice none 0 0, .string ⟨#[]⟩, .bool false] 48)) where
  low := Nat.le_refl _
  old := ba (b0 W) _
  cur := heap_alloc_new W _
  els := rfl
  own := ⟨by simp, .inl ⟨rfl, rfl⟩⟩
  txs := rfl
  txt := ⟨by simp, .inl ⟨rfl, rfl⟩⟩
  kid := fun x hx => by cases hx
  att := fun x hx => by cases hx
  spc := fun x hx => by cases hx
  apart := List.Pairwise.nil
  out := noNode_is _ _
  outer := rfl
/-- What may be asked of tokens. -/
def FitT (l : List Tok) : Prop := ∀ t ∈ l, t.attrs.length ≤ 1000000 ∧ (∀ p ∈ t.attrs, p.name.length ≤ 1000000 ∧ p.value.length ≤ 4000000) ∧ t.s.length ≤ 4000000
theorem prs_form {w : World} {a : Value} {l : List Pr} (h : Prs w a l) : ∃ o n c, a = .slice o n c := by
  obtain ⟨⟨b, c, hb, _⟩, _⟩ := h
  exact ⟨_, _, _, hb⟩
set_option maxHeartbeats 8000000 in
theorem Build_any (l : List Tok) (v : Value) (W : World) (hl : Toks W v l) (hf : FitT l) (hn : l.length ≤ 900000) (en : Int) :
    Calls Tryz.prog 6 #[v, .int .i64 en] W fun e w' => GotT W (build l en) e w' := by
  have tlen := fun X => hl.len (P := Tryz.prog) 22 3 45 undT X
  obtain ⟨A, hA⟩ : ∃ A, buildS ⟨[], [], none⟩ l = A := ⟨_, rfl⟩
  have E := hid (show build l en = outOf A en by rw [← hA]; rfl)
  have HA := hid hA
  have HL := hid hl
  have HF := hid hf
  have BS := hid (Bd.start (W.alloc (.cells #[.int .i64 0, .string ⟨#[]⟩, .string ⟨#[]⟩, .slice none 0 0, .slice none 0 0, .string ⟨#[]⟩] 32)))
  have B1 := hid (ba (b0 W) (.cells #[.int .i64 0, .string ⟨#[]⟩, .string ⟨#[]⟩, .slice none 0 0, .slice none 0 0, .string ⟨#[]⟩] 32))
  have P0 := hid (heap_alloc_new W (.cells #[.int .i64 0, .string ⟨#[]⟩, .string ⟨#[]⟩, .slice none 0 0, .slice none 0 0, .string ⟨#[]⟩] 32))
  obtain ⟨W1, hW1⟩ : ∃ W1, W.alloc (.cells #[.int .i64 0, .string ⟨#[]⟩, .string ⟨#[]⟩, .slice none 0 0, .slice none 0 0, .string ⟨#[]⟩] 32) = W1 := ⟨_, rfl⟩
  have hs1 : W1.heap.size = W.heap.size + 1 := by rw [← hW1]; simp
  rw [hW1] at BS B1 P0
  rw [hs1] at BS
  have HW1 := hid hW1
  have BS2 : Hid (Bd W1 (W.heap.size + 1) ⟨[], [], none⟩ (.slice none 0 0) (.slice none 0 0) [] [] (noNode, .slice none 0 0, .slice none 0 0) ((W.alloc (.cells #[.int .i64 0, .string ⟨#[]⟩, .string ⟨#[]⟩, .slice none 0 0, .slice none 0 0, .string ⟨#[]⟩] 32)).alloc (.cells #[.slice none 0 0, .slice none 0 0, .int .i64 0, .string ⟨#[]⟩, .string ⟨#[]⟩, .slice none 0 0, .slice none 0 0, .string ⟨#[]⟩, .bool false] 48))) := hid (by rw [hW1]; exact BS.out)
  clear hl hf hA BS hW1
  go_enter Tryz.func6, Tryz.ntmps6
  go_wp2_with fail
  go_loopg [14] l.length (fun gk iv X => ∃ (n : Nat) (s : Bs), iv = .int .i64 n ∧ n + gk = l.length ∧ Hid (Inv n (2 * n) s) ∧ Hid (A = buildS s (l.drop n)) ∧ Hid (Bx W1 (W.heap.size + 1) s X))
  case atStart => exact ⟨0, ⟨[], [], none⟩, rfl, by omega, hid Inv.start, hid (by rw [List.drop_zero]; exact HA.out.symm), hid ⟨_, _, _, _, _, BS2.out, fun x hx => by cases hx⟩⟩
  case round =>
    rename World => X
    obtain ⟨n, s, rfl, hng, HI, HE, HB⟩ := hrel
    obtain ⟨ov, tv, es, tx, o, hbd, hsl⟩ := HB.out
    have HBX := hid (B1.out.trans (hbd.old.mono B1.out.size))
    by_cases hi : n < l.length
    · obtain ⟨bp, op, a, ip, c0, c1, c2, c3, hpr⟩ := (HL.out.below HBX.out (Nat.le_refl _)).at (P := Tryz.prog) n hi 22 45 undT sizT
      obtain ⟨bp', op', a', ip', c0', c1', c2', c3', hpr'⟩ := HL.out.at (P := Tryz.prog) n hi 22 45 undT sizT
      have haa : a = a' := by
        have e1 := ip .i64 X
        have e2 := ip' .i64 X
        rw [e1] at e2
        injection e2 with e2 _
        injection e2 with e2
        injection e2 with e2
        injection e2 with e2 e3 _
        subst e2 e3
        have := (HBX.out.cell (p := ⟨bp, op + 3, none⟩) (World.block_lt_of_cell? _ _ c3')).trans c3'
        rw [c3] at this
        injection this
      have hft := HF.out l[n] (List.getElem_mem hi)
      have he := HE.out
      rw [List.drop_eq_getElem_cons hi] at he
      generalize l[n] = t at *
      obtain ⟨ao, an, ac, rfl⟩ := prs_form hpr
      have hok : TokOk W1 t (.slice ao an ac) := ⟨(haa ▸ hpr').below B1.out (Nat.le_refl _), hft.1, hft.2.1, by omega⟩
      have TK := hid (token_any (hbd.later (ba (b0 X) (.cells #[.int .i64 t.kind, .int .i64 t.place, .string (text t.s), .slice ao an ac] 45))) hsl HI.out (by omega) t ao an ac hok)
      unfold tokV at TK
      clear ip' c0' c1' c2' c3' hpr' hpr haa hbd hsl hok
      cases hst : stepB s t with
      | error x =>
        have E2 := hid (show build l en = (noNode, x.1, x.2) by rw [E.out, he, buildS, hst]; rfl)
        have hx2 : ((x.2 : Int) != 0) = true := by rw [bne_iff_ne]; have := step_ne hst; omega
        rw [hst] at TK
        clear hst he hft
        go_wp2_with fail
        refine TK.out.mono ?_
        rintro e w3 ⟨rfl, hb3⟩
        have p3 := (hb3.block W.heap.size (by omega)).trans P0.out
        have d0 : w3.cell? ⟨W.heap.size, 0, none⟩ = some (.int .i64 0) := by rw [Lib.cell_of_heap p3]; rfl
        have d1 : w3.cell? ⟨W.heap.size, 1, none⟩ = some (.string ⟨#[]⟩) := by rw [Lib.cell_of_heap p3]; rfl
        have d2 : w3.cell? ⟨W.heap.size, 2, none⟩ = some (.string ⟨#[]⟩) := by rw [Lib.cell_of_heap p3]; rfl
        have d3 : w3.cell? ⟨W.heap.size, 3, none⟩ = some (.slice none 0 0) := by rw [Lib.cell_of_heap p3]; rfl
        have d4 : w3.cell? ⟨W.heap.size, 4, none⟩ = some (.slice none 0 0) := by rw [Lib.cell_of_heap p3]; rfl
        have d5 : w3.cell? ⟨W.heap.size, 5, none⟩ = some (.string ⟨#[]⟩) := by rw [Lib.cell_of_heap p3]; rfl
        have f0 := Lib.frozen_of_heap p3 0
        have f1 := Lib.frozen_of_heap p3 1
        have f2 := Lib.frozen_of_heap p3 2
        have f3 := Lib.frozen_of_heap p3 3
        have f4 := Lib.frozen_of_heap p3 4
        have f5 := Lib.frozen_of_heap p3 5
        have P3 := hid p3
        have HB3 := hid (B1.out.trans (hb3.mono B1.out.size))
        clear hb3 p3 c0 c1 c2 c3 ip
        go_wp2
        obtain ⟨p4, g4⟩ := put6 P3.out (.int .i64 0) (.string ⟨#[]⟩) (.string ⟨#[]⟩) (.slice none 0 0) (.slice none 0 0) (.string ⟨#[]⟩)
        refine bodyPost_ret (results_three rfl _ _ _ _ rfl (run_loadVar_row _ _ _ _ _ _ _ p4 Tryz.underlying32 rfl sizeNode)) rfl ?_
        rw [E2.out]
        exact ⟨⟨_, _, _, _, _, _, rfl, noNode_is _ _⟩, new_end HB3.out g4⟩
      | ok s' =>
        have HI2 := hid (HI.out.step hst hft.1 (fun p hp => (hft.2.1 p hp).2) hft.2.2)
        have HE2 := hid (show A = buildS s' (l.drop (n + 1)) by rw [he, buildS, hst])
        rw [hst] at TK
        clear hst he hft
        go_wp2_with fail
        refine TK.out.mono ?_
        rintro e w3 ⟨p, rfl, hb3⟩
        have HB3 := hid hb3
        clear hb3 c0 c1 c2 c3 ip
        go_wp2
        go_roundg (gk - 1)
        case measure => omega
        case rel => exact ⟨n + 1, s', by go_num, by omega, HI2, HE2, HB3⟩
    · have he := HE.out
      rw [show l.drop n = [] from List.drop_eq_nil_of_le (by omega)] at he
      have E1 := hid (show build l en = s.out en by rw [E.out, he]; rfl)
      have p3 := (hbd.old.block W.heap.size (by omega)).trans P0.out
      have d0 : X.cell? ⟨W.heap.size, 0, none⟩ = some (.int .i64 0) := by rw [Lib.cell_of_heap p3]; rfl
      have d1 : X.cell? ⟨W.heap.size, 1, none⟩ = some (.string ⟨#[]⟩) := by rw [Lib.cell_of_heap p3]; rfl
      have d2 : X.cell? ⟨W.heap.size, 2, none⟩ = some (.string ⟨#[]⟩) := by rw [Lib.cell_of_heap p3]; rfl
      have d3 : X.cell? ⟨W.heap.size, 3, none⟩ = some (.slice none 0 0) := by rw [Lib.cell_of_heap p3]; rfl
      have d4 : X.cell? ⟨W.heap.size, 4, none⟩ = some (.slice none 0 0) := by rw [Lib.cell_of_heap p3]; rfl
      have d5 : X.cell? ⟨W.heap.size, 5, none⟩ = some (.string ⟨#[]⟩) := by rw [Lib.cell_of_heap p3]; rfl
      have f0 := Lib.frozen_of_heap p3 0
      have f1 := Lib.frozen_of_heap p3 1
      have f2 := Lib.frozen_of_heap p3 2
      have f3 := Lib.frozen_of_heap p3 3
      have f4 := Lib.frozen_of_heap p3 4
      have f5 := Lib.frozen_of_heap p3 5
      have hcur := hbd.cur
      have P3 := hid p3
      cases hou : s.outer with
      | none =>
        have c8 : X.cell? ⟨W.heap.size + 1, 8, none⟩ = some (.bool false) := by rw [Lib.cell_of_heap hcur, hou]; rfl
        have E2 := hid (show build l en = (noNode, en, 10) by rw [E1.out]; unfold Bs.out; rw [hou])
        clear hbd hsl he p3 hcur hou
        go_wp2
        obtain ⟨p4, g4⟩ := put6 P3.out (.int .i64 0) (.string ⟨#[]⟩) (.string ⟨#[]⟩) (.slice none 0 0) (.slice none 0 0) (.string ⟨#[]⟩)
        refine bodyPost_ret (results_three rfl _ _ _ _ rfl (run_loadVar_row _ _ _ _ _ _ _ p4 Tryz.underlying32 rfl sizeNode)) rfl ?_
        rw [E2.out]
        exact ⟨⟨_, _, _, _, _, _, rfl, noNode_is _ _⟩, new_end HBX.out g4⟩
      | some m =>
        obtain ⟨om, oa, ok⟩ := o
        have hom : m = om := by have := hbd.outer; rw [hou] at this; exact this
        subst hom
        have hout := hbd.out
        obtain ⟨⟨ao, an, ac, h1⟩, ko, kn, kc, h2⟩ := hout.forms
        dsimp only at h1 h2
        subst h1 h2
        have c2 : X.cell? ⟨W.heap.size + 1, 2, none⟩ = some (.int .i64 m.place) := by rw [Lib.cell_of_heap hcur]; rfl
        have c3 : X.cell? ⟨W.heap.size + 1, 3, none⟩ = some (.string (text m.nm.1)) := by rw [Lib.cell_of_heap hcur]; rfl
        have c4 : X.cell? ⟨W.heap.size + 1, 4, none⟩ = some (.string (text m.nm.2)) := by rw [Lib.cell_of_heap hcur]; rfl
        have c5 : X.cell? ⟨W.heap.size + 1, 5, none⟩ = some (.slice ao an ac) := by rw [Lib.cell_of_heap hcur]; rfl
        have c6 : X.cell? ⟨W.heap.size + 1, 6, none⟩ = some (.slice ko kn kc) := by rw [Lib.cell_of_heap hcur]; rfl
        have c7 : X.cell? ⟨W.heap.size + 1, 7, none⟩ = some (.string (text m.text)) := by rw [Lib.cell_of_heap hcur]; rfl
        have c8 : X.cell? ⟨W.heap.size + 1, 8, none⟩ = some (.bool true) := by rw [Lib.cell_of_heap hcur, hou]; rfl
        have E2 := hid (show build l en = (m, en, 0) by rw [E1.out]; unfold Bs.out; rw [hou])
        have HOUT := hid hout
        clear hbd hsl he p3 hcur hou hout
        go_wp2
        obtain ⟨p4, g4⟩ := put6 P3.out (.int .i64 m.place) (.string (text m.nm.1)) (.string (text m.nm.2)) (.slice ao an ac) (.slice ko kn kc) (.string (text m.text))
        refine bodyPost_ret (results_three rfl _ _ _ _ rfl (run_loadVar_row _ _ _ _ _ _ _ p4 Tryz.underlying32 rfl sizeNode)) rfl ?_
        rw [E2.out]
        exact ⟨⟨_, _, _, _, _, _, rfl, HOUT.out.to (fun b _ f => .inl (by omega)) (Keep.of_grown g4 (fun b e => .inl (by injection e with e; omega)))⟩, new_end HBX.out g4⟩
set_option maxHeartbeats 4000000 in
theorem Read_any {v : Value} {b : List UInt8} {W : World} (hb : Bytes W v b) (hf : FitM W) (hl : b.length ≤ 900000) :
    Calls Tryz.prog 9 #[v] W fun e w' => GotT W (read b) e w' := by
  have B1 := hid (ba (b0 W) (.cells #[.int .i64 0, .string ⟨#[]⟩, .string ⟨#[]⟩, .slice none 0 0, .slice none 0 0, .string ⟨#[]⟩] 32))
  have P0 := hid (heap_alloc_new W (.cells #[.int .i64 0, .string ⟨#[]⟩, .string ⟨#[]⟩, .slice none 0 0, .slice none 0 0, .string ⟨#[]⟩] 32))
  have TK := hid (Tokens_any (hb.below B1.out (Nat.le_refl _)) (hf.below B1.out) (by omega))
  have HSH := hid (tokens_short' (b := b))
  have HFEW := hid (tokens_few b)
  have BA := hid (fun (Y : World) (a : Value) (hY : Toks Y a (tokens b).1) (en : Int) => Build_any (tokens b).1 a Y hY (fun t ht => by
    have h1 := tokens_short' t ht
    have h2 := tokens_few b
    exact ⟨by have := h2.2 t ht; omega, fun p hp => by have := h1.2 p hp; omega, by have := h1.1; omega⟩) (by have := (tokens_few b).1; omega) en)
  clear hb hf
  have hs1 : W.heap.size < (W.alloc (.cells #[.int .i64 0, .string ⟨#[]⟩, .string ⟨#[]⟩, .slice none 0 0, .slice none 0 0, .string ⟨#[]⟩] 32)).heap.size := by simp
  by_cases he : (tokens b).2.2 = 0
  · have E := hid (show read b = build (tokens b).1 ((tokens b).2.1 : Int) by
      have h1 := (tokens_ok (b := b) (ts := (tokens b).1) (n := (tokens b).2.1) (by rw [← he])).1
      unfold read
      rw [if_neg (by simp [he]), h1])
    rw [he] at TK
    clear he
    go_enter Tryz.func9, Tryz.ntmps9
    go_wp2_with fail
    refine TK.out.mono ?_
    rintro e w1 ⟨⟨a, rfl, ht⟩, hb1⟩
    have p1 := (hb1.block _ hs1).trans P0.out
    have P1 := hid p1
    have HB1 := hid (B1.out.trans (hb1.mono B1.out.size))
    have BA1 := hid (BA.out w1 a ht ((tokens b).2.1 : Int))
    rw [← E.out] at BA1
    clear p1 hb1 ht
    go_wp2_with fail
    refine BA1.out.mono ?_
    rintro e w2 ⟨⟨ao, an, ac, ko, kn, kc, rfl, hN⟩, hb2⟩
    have p3 := (hb2.block _ (lt_of_some P1.out)).trans P1.out
    have d0 : w2.cell? ⟨W.heap.size, 0, none⟩ = some (.int .i64 0) := by rw [Lib.cell_of_heap p3]; rfl
    have d1 : w2.cell? ⟨W.heap.size, 1, none⟩ = some (.string ⟨#[]⟩) := by rw [Lib.cell_of_heap p3]; rfl
    have d2 : w2.cell? ⟨W.heap.size, 2, none⟩ = some (.string ⟨#[]⟩) := by rw [Lib.cell_of_heap p3]; rfl
    have d3 : w2.cell? ⟨W.heap.size, 3, none⟩ = some (.slice none 0 0) := by rw [Lib.cell_of_heap p3]; rfl
    have d4 : w2.cell? ⟨W.heap.size, 4, none⟩ = some (.slice none 0 0) := by rw [Lib.cell_of_heap p3]; rfl
    have d5 : w2.cell? ⟨W.heap.size, 5, none⟩ = some (.string ⟨#[]⟩) := by rw [Lib.cell_of_heap p3]; rfl
    have f0 := Lib.frozen_of_heap p3 0
    have f1 := Lib.frozen_of_heap p3 1
    have f2 := Lib.frozen_of_heap p3 2
    have f3 := Lib.frozen_of_heap p3 3
    have f4 := Lib.frozen_of_heap p3 4
    have f5 := Lib.frozen_of_heap p3 5
    have P3 := hid p3
    have HN := hid hN
    have HB2 := hid (HB1.out.trans (hb2.mono HB1.out.size))
    clear p3 hb2 hN
    have hw12 : W.heap.size < w1.heap.size := lt_of_some P1.out
    unfold nodeV
    go_wp2
    obtain ⟨p4, g4⟩ := put6 P3.out (.int .i64 (read b).1.place) (.string (text (read b).1.nm.1)) (.string (text (read b).1.nm.2)) (.slice ao an ac) (.slice ko kn kc) (.string (text (read b).1.text))
    refine bodyPost_ret (results_three rfl _ _ _ _ rfl (run_loadVar_row _ _ _ _ _ _ _ p4 Tryz.underlying32 rfl sizeNode)) rfl ?_
    exact ⟨⟨_, _, _, _, _, _, rfl, HN.out.to (fun b _ f => Nat.lt_trans f hw12) (Keep.of_grown g4 (fun b e => by injection e with e; omega))⟩, new_end HB2.out g4⟩
  · have E := hid (show read b = (noNode, ((tokens b).2.1 : Int), (tokens b).2.2) by unfold read; rw [if_pos he])
    have hx2 : (((tokens b).2.2 : Int) != 0) = true := by rw [bne_iff_ne]; omega
    clear he
    go_enter Tryz.func9, Tryz.ntmps9
    go_wp2_with fail
    refine TK.out.mono ?_
    rintro e w2 ⟨⟨a, rfl, ht⟩, hb2⟩
    have p3 := (hb2.block _ hs1).trans P0.out
    have d0 : w2.cell? ⟨W.heap.size, 0, none⟩ = some (.int .i64 0) := by rw [Lib.cell_of_heap p3]; rfl
    have d1 : w2.cell? ⟨W.heap.size, 1, none⟩ = some (.string ⟨#[]⟩) := by rw [Lib.cell_of_heap p3]; rfl
    have d2 : w2.cell? ⟨W.heap.size, 2, none⟩ = some (.string ⟨#[]⟩) := by rw [Lib.cell_of_heap p3]; rfl
    have d3 : w2.cell? ⟨W.heap.size, 3, none⟩ = some (.slice none 0 0) := by rw [Lib.cell_of_heap p3]; rfl
    have d4 : w2.cell? ⟨W.heap.size, 4, none⟩ = some (.slice none 0 0) := by rw [Lib.cell_of_heap p3]; rfl
    have d5 : w2.cell? ⟨W.heap.size, 5, none⟩ = some (.string ⟨#[]⟩) := by rw [Lib.cell_of_heap p3]; rfl
    have f0 := Lib.frozen_of_heap p3 0
    have f1 := Lib.frozen_of_heap p3 1
    have f2 := Lib.frozen_of_heap p3 2
    have f3 := Lib.frozen_of_heap p3 3
    have f4 := Lib.frozen_of_heap p3 4
    have f5 := Lib.frozen_of_heap p3 5
    have P3 := hid p3
    have HB2 := hid (B1.out.trans (hb2.mono B1.out.size))
    clear p3 hb2 ht
    go_wp2
    obtain ⟨p4, g4⟩ := put6 P3.out (.int .i64 0) (.string ⟨#[]⟩) (.string ⟨#[]⟩) (.slice none 0 0) (.slice none 0 0) (.string ⟨#[]⟩)
    refine bodyPost_ret (results_three rfl _ _ _ _ rfl (run_loadVar_row _ _ _ _ _ _ _ p4 Tryz.underlying32 rfl sizeNode)) rfl ?_
    rw [E.out]
    exact ⟨⟨_, _, _, _, _, _, rfl, noNode_is _ _⟩, new_end HB2.out g4⟩
end Go.Proofs.YthodmdfbahkflaaGreatDoor.Tree
namespace Go.Proofs.YthodmdfbahkflaaGreatDoor.Tree
open Go Go.Proofs.YthodmdfbahkflaaGreatDoor Go.Proofs.YthodmdfbahkflaaGreatDoor.Utf Go.Proofs.YthodmdfbahkflaaGreatDoor.Names Go.Proofs.YthodmdfbahkflaaGreatDoor.Ent Go.Proofs.YthodmdfbahkflaaGreatDoor.Tok Go.RowKit
set_option maxRecDepth 100000
theorem read_1 : read [60, 97, 32, 120, 109, 108, 110, 115, 61, 34, 117, 34, 62, 60, 98, 47, 62, 116, 60, 47, 97, 62] = (.mk 0 ([117], [97]) [] [.mk 13 ([117], [98]) [] [] [], .mk 17 ([], []) [] [] [116]] [], 22, 0) := by kernel_rfl
theorem read_2 : read [60, 97, 62, 60, 98, 62, 60, 47, 97, 62] = (noNode, 6, 5) := by kernel_rfl
theorem read_3 : read [60, 112, 58, 97, 47, 62] = (noNode, 0, 7) := by kernel_rfl
theorem tx117 : text [117] = (⟨#[117]⟩ : ByteArray) := rfl
theorem tx97 : text [97] = (⟨#[97]⟩ : ByteArray) := rfl
theorem tx98 : text [98] = (⟨#[98]⟩ : ByteArray) := rfl
theorem tx116 : text [116] = (⟨#[116]⟩ : ByteArray) := rfl
theorem tx0 : text [] = (⟨#[]⟩ : ByteArray) := rfl
theorem fit_alloc {w : World} (h : FitM w) (o : Obj) : FitM (w.alloc o) := h.below (ba (b0 w) o)
/-- The tree of bytes that are written out. -/
theorem Read_lit (l : List UInt8) (o : Node × Int × Nat) (C : Array Value) (n : Nat) (h : read l = o) (hn : l.length = n) (hl : n ≤ 900000) (hs : C.size = n * 1) (hC : C.toList = cellsOf l) (W : World) (hf : FitM W) (b : Nat) (hB : W.heap.size = b) :
    Calls Tryz.prog 9 #[.slice (some ⟨b, 0, none⟩) n n] (W.alloc (.cells C 5 (n, n + 1))) fun x w' => GotT (W.alloc (.cells C 5 (n, n + 1))) o x w' := by
  subst hB
  have hb : Bytes (W.alloc (.cells C 5 (n, n + 1))) (.slice (some ⟨W.heap.size, 0, none⟩) n n) l := by
    unfold Bytes
    rw [hn, ← hC]
    exact Row.ofBuild W C _ n hs (by omega) (n, n + 1)
  have := Read_any hb (fit_alloc hf _) (by omega)
  rw [h] at this
  exact this
set_option maxHeartbeats 8000000 in
theorem alive_any (w : World) (hw : FitM w) :
    Calls Tryz.prog 4 #[] w fun e w' => e = .returned (.bool true) ∧ Below w.heap.size w w' := by
  have hc1 : ∀ (X : World) (b : Nat), X.heap.size = b → (convert 24 24 (.slice (some ⟨b, 0, none⟩) 22 22)).run Tryz.prog (X.alloc (.cells #[.int .u8 60, .int .u8 97, .int .u8 32, .int .u8 120, .int .u8 109, .int .u8 108, .int .u8 110, .int .u8 115, .int .u8 61, .int .u8 34, .int .u8 117, .int .u8 34, .int .u8 62, .int .u8 60, .int .u8 98, .int .u8 47, .int .u8 62, .int .u8 116, .int .u8 60, .int .u8 47, .int .u8 97, .int .u8 62] 5)) = .ok (.slice (some ⟨b, 0, none⟩) 22 22) (X.alloc (.cells #[.int .u8 60, .int .u8 97, .int .u8 32, .int .u8 120, .int .u8 109, .int .u8 108, .int .u8 110, .int .u8 115, .int .u8 61, .int .u8 34, .int .u8 117, .int .u8 34, .int .u8 62, .int .u8 60, .int .u8 98, .int .u8 47, .int .u8 62, .int .u8 116, .int .u8 60, .int .u8 47, .int .u8 97, .int .u8 62] 5 (22, 23))) := fun X b hb => hb ▸ Lib.run_convert_bytes_const X _ 5 #[.int .u8 60, .int .u8 97, .int .u8 32, .int .u8 120, .int .u8 109, .int .u8 108, .int .u8 110, .int .u8 115, .int .u8 61, .int .u8 34, .int .u8 117, .int .u8 34, .int .u8 62, .int .u8 60, .int .u8 98, .int .u8 47, .int .u8 62, .int .u8 116, .int .u8 60, .int .u8 47, .int .u8 97, .int .u8 62] 22 22 underB under8
  have hc2 : ∀ (X : World) (b : Nat), X.heap.size = b → (convert 24 24 (.slice (some ⟨b, 0, none⟩) 10 10)).run Tryz.prog (X.alloc (.cells #[.int .u8 60, .int .u8 97, .int .u8 62, .int .u8 60, .int .u8 98, .int .u8 62, .int .u8 60, .int .u8 47, .int .u8 97, .int .u8 62] 5)) = .ok (.slice (some ⟨b, 0, none⟩) 10 10) (X.alloc (.cells #[.int .u8 60, .int .u8 97, .int .u8 62, .int .u8 60, .int .u8 98, .int .u8 62, .int .u8 60, .int .u8 47, .int .u8 97, .int .u8 62] 5 (10, 11))) := fun X b hb => hb ▸ Lib.run_convert_bytes_const X _ 5 #[.int .u8 60, .int .u8 97, .int .u8 62, .int .u8 60, .int .u8 98, .int .u8 62, .int .u8 60, .int .u8 47, .int .u8 97, .int .u8 62] 10 10 underB under8
  have hc3 : ∀ (X : World) (b : Nat), X.heap.size = b → (convert 24 24 (.slice (some ⟨b, 0, none⟩) 6 6)).run Tryz.prog (X.alloc (.cells #[.int .u8 60, .int .u8 112, .int .u8 58, .int .u8 97, .int .u8 47, .int .u8 62] 5)) = .ok (.slice (some ⟨b, 0, none⟩) 6 6) (X.alloc (.cells #[.int .u8 60, .int .u8 112, .int .u8 58, .int .u8 97, .int .u8 47, .int .u8 62] 5 (6, 7))) := fun X b hb => hb ▸ Lib.run_convert_bytes_const X _ 5 #[.int .u8 60, .int .u8 112, .int .u8 58, .int .u8 97, .int .u8 47, .int .u8 62] 6 6 underB under8
  have HW := hid hw
  clear hw
  have x1 := hc1 w _ rfl
  go_enter Tryz.func4, Tryz.ntmps4
  go_wp2_with fail
  refine (Read_lit [60, 97, 32, 120, 109, 108, 110, 115, 61, 34, 117, 34, 62, 60, 98, 47, 62, 116, 60, 47, 97, 62] _ #[.int .u8 60, .int .u8 97, .int .u8 32, .int .u8 120, .int .u8 109, .int .u8 108, .int .u8 110, .int .u8 115, .int .u8 61, .int .u8 34, .int .u8 117, .int .u8 34, .int .u8 62, .int .u8 60, .int .u8 98, .int .u8 47, .int .u8 62, .int .u8 116, .int .u8 60, .int .u8 47, .int .u8 97, .int .u8 62] 22 read_1 rfl (by decide) rfl rfl w HW.out _ rfl).mono ?_
  rintro e w1 ⟨⟨ao, an, ac, ko, kn, kc, rfl, hN⟩, hb⟩
  simp only [nodeV, Node.place, Node.nm, Node.text, tx117, tx97, tx0]
  have HB1 := hid ((ba (b0 w) _).trans (hb.mono (by simp)) : Below w.heap.size w w1)
  have hkids := hN.parts.2
  have B2 := ba (b0 w1) (.cells #[.int .i64 0, .string ⟨#[117]⟩, .string ⟨#[97]⟩, .slice ao an ac, .slice ko kn kc, .string ⟨#[]⟩] 32)
  have P2 := hid (heap_alloc_new w1 (.cells #[.int .i64 0, .string ⟨#[117]⟩, .string ⟨#[97]⟩, .slice ao an ac, .slice ko kn kc, .string ⟨#[]⟩] 32))
  have HB2 := hid (HB1.out.trans (B2.mono HB1.out.size))
  have HK2 := hid (hkids.to (fun _ _ x => x) (Keep.of_below B2))
  have x2 := hc2 (w1.alloc (.cells #[.int .i64 0, .string ⟨#[117]⟩, .string ⟨#[97]⟩, .slice ao an ac, .slice ko kn kc, .string ⟨#[]⟩] 32)) (w1.heap.size + 1) (by simp)
  clear hb hN hkids B2 x1
  go_wp2_with fail
  refine (Read_lit [60, 97, 62, 60, 98, 62, 60, 47, 97, 62] _ #[.int .u8 60, .int .u8 97, .int .u8 62, .int .u8 60, .int .u8 98, .int .u8 62, .int .u8 60, .int .u8 47, .int .u8 97, .int .u8 62] 10 read_2 rfl (by decide) rfl rfl _ (HW.out.below HB2.out) _ (by simp)).mono ?_
  rintro e w3 ⟨⟨ao3, an3, ac3, ko3, kn3, kc3, rfl, hN3⟩, hb⟩
  simp only [nodeV, noNode, Node.place, Node.nm, Node.text, tx0]
  have B3 := ((ba (b0 _) _).trans (hb.mono (by simp)) : Below (w1.alloc (.cells #[.int .i64 0, .string ⟨#[117]⟩, .string ⟨#[97]⟩, .slice ao an ac, .slice ko kn kc, .string ⟨#[]⟩] 32)).heap.size (w1.alloc (.cells #[.int .i64 0, .string ⟨#[117]⟩, .string ⟨#[97]⟩, .slice ao an ac, .slice ko kn kc, .string ⟨#[]⟩] 32)) w3)
  have B4 := B3.trans ((ba (b0 w3) (.cells #[.int .i64 0, .string ⟨#[]⟩, .string ⟨#[]⟩, .slice ao3 an3 ac3, .slice ko3 kn3 kc3, .string ⟨#[]⟩] 32)).mono B3.size)
  have P4 := hid ((B4.block _ (by simp)).trans P2.out)
  have HB4 := hid (HB2.out.trans (B4.mono HB2.out.size))
  have HK4 := hid (HK2.out.to (fun _ _ x => x) (Keep.of_below B4))
  have x3 := hc3 (w3.alloc (.cells #[.int .i64 0, .string ⟨#[]⟩, .string ⟨#[]⟩, .slice ao3 an3 ac3, .slice ko3 kn3 kc3, .string ⟨#[]⟩] 32)) (w3.heap.size + 1) (by simp)
  clear hb hN3 B3 B4 x2
  go_wp2_with fail
  refine (Read_lit [60, 112, 58, 97, 47, 62] _ #[.int .u8 60, .int .u8 112, .int .u8 58, .int .u8 97, .int .u8 47, .int .u8 62] 6 read_3 rfl (by decide) rfl rfl _ (HW.out.below HB4.out) _ (by simp)).mono ?_
  rintro e w5 ⟨⟨ao5, an5, ac5, ko5, kn5, kc5, rfl, hN5⟩, hb⟩
  simp only [nodeV, noNode, Node.place, Node.nm, Node.text, tx0]
  have B5 := ((ba (b0 _) _).trans (hb.mono (by simp)) : Below (w3.alloc (.cells #[.int .i64 0, .string ⟨#[]⟩, .string ⟨#[]⟩, .slice ao3 an3 ac3, .slice ko3 kn3 kc3, .string ⟨#[]⟩] 32)).heap.size (w3.alloc (.cells #[.int .i64 0, .string ⟨#[]⟩, .string ⟨#[]⟩, .slice ao3 an3 ac3, .slice ko3 kn3 kc3, .string ⟨#[]⟩] 32)) w5)
  have B6 := B5.trans ((ba (b0 w5) (.cells #[.int .i64 0, .string ⟨#[]⟩, .string ⟨#[]⟩, .slice ao5 an5 ac5, .slice ko5 kn5 kc5, .string ⟨#[]⟩] 32)).mono B5.size)
  have p6 := (B6.block _ (lt_of_some P4.out)).trans P4.out
  have HB6 := hid (HB4.out.trans (B6.mono HB4.out.size))
  have hk6 := HK4.out.to (A' := fun _ => False) (fun _ _ x => x.elim) (Keep.of_below B6)
  obtain ⟨Y, hY⟩ : ∃ Y, w5.alloc (.cells #[.int .i64 0, .string ⟨#[]⟩, .string ⟨#[]⟩, .slice ao5 an5 ac5, .slice ko5 kn5 kc5, .string ⟨#[]⟩] 32) = Y := ⟨_, rfl⟩
  rw [hY] at p6 hk6
  have c1 : Y.cell? ⟨w1.heap.size, 1, none⟩ = some (.string ⟨#[117]⟩) := by rw [Lib.cell_of_heap p6]; rfl
  have c2 : Y.cell? ⟨w1.heap.size, 2, none⟩ = some (.string ⟨#[97]⟩) := by rw [Lib.cell_of_heap p6]; rfl
  have c4 : Y.cell? ⟨w1.heap.size, 4, none⟩ = some (.slice ko kn kc) := by rw [Lib.cell_of_heap p6]; rfl
  have klen := fun X => hk6.len (P := Tryz.prog) 30 3 32 undN X
  obtain ⟨b0', o0, av0, kv0, i0, _, n01, n02, _⟩ := hk6.at (P := Tryz.prog) 0 (by decide) 30 32 undN sizN
  obtain ⟨b1', o1, av1, kv1, i1, _, _, _, _, _, n15, _⟩ := hk6.at (P := Tryz.prog) 1 (by decide) 30 32 undN sizN
  simp only [Node.kids, List.getElem_cons_zero, List.getElem_cons_succ, Node.nm, Node.text, List.length_cons, List.length_nil, tx117, tx97, tx98, tx116] at klen n01 n02 n15 i0 i1
  rw [← hY] at c1 c2 c4 n01 n02 n15
  have j0 : ∀ Z, (Instr.indexAt 30 (.slice ko kn kc) (.int .i64 0)).run Tryz.prog Z = .ok (.pointer (some ⟨b0', o0, none⟩)) Z := fun Z => by simpa using i0 .i64 Z
  have j1 : ∀ Z, (Instr.indexAt 30 (.slice ko kn kc) (.int .i64 1)).run Tryz.prog Z = .ok (.pointer (some ⟨b1', o1, none⟩)) Z := fun Z => by simpa using i1 .i64 Z
  clear hb hN5 B5 B6 p6 hk6 hY i0 i1
  go_wp2
  go_ret
  exact ⟨rfl, HB6.out⟩
end Go.Proofs.YthodmdfbahkflaaGreatDoor.Tree
namespace Go.Proofs.YthodmdfbahkflaaGreatDoor.Tree
open Go Go.Proofs.YthodmdfbahkflaaGreatDoor Go.Proofs.YthodmdfbahkflaaGreatDoor.Utf Go.Proofs.YthodmdfbahkflaaGreatDoor.Names Go.Proofs.YthodmdfbahkflaaGreatDoor.Ent Go.Proofs.YthodmdfbahkflaaGreatDoor.Tok Go.RowKit
set_option maxRecDepth 100000
theorem IsN.stored {X X' : World} {c : Nat} {n : Node} {av kv : Value} (h : IsN X (fun b => b = c) n av kv) (g : X.grownBy X' (some c)) : IsN X' (fun b => b = c) n av kv :=
  h.to (fun _ _ x => x) (Keep.of_grown g (fun b e => by injection e with e; exact e.symm))
end Go.Proofs.YthodmdfbahkflaaGreatDoor.Tree
