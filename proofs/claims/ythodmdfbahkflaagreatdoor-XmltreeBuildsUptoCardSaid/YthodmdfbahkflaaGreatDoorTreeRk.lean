/- Layer 5: contract of the document's inside. -/
import Derived.Test.YthodmdfbahkflaaGreatDoorTreeRj
import Derived.Test.YthodmdfbahkflaaGreatDoorTreeRi
import Derived.Deep.RegionHeld3
import Derived.Deep.DrawnRows
set_option linter.unusedVariables false
set_option linter.unusedSimpArgs false
namespace Go.Proofs.YthodmdfbahkflaaGreatDoor.Tree
open Go Go.Proofs.YthodmdfbahkflaaGreatDoor Go.Proofs.YthodmdfbahkflaaGreatDoor.Utf Go.Proofs.YthodmdfbahkflaaGreatDoor.Names Go.Proofs.YthodmdfbahkflaaGreatDoor.Ent Go.Proofs.YthodmdfbahkflaaGreatDoor.Tok Go.RowKit
set_option maxRecDepth 100000
attribute [-go_sem] Builtin.append_
attribute [local go_sem ↓] Go.wp_at_zero Go.wp_at_succ
/-- What the document's inside knows on its way. -/
def I1 (en : Int) (ts : List Tok) (g : Sp) (name : List UInt8) (deep : Nat) (o : Except Wr (List Node × List Tok)) (ks : List Node) (tx : List (Int × List UInt8)) (j : Nat) (a e : Int) : Prop :=
  (e = 0 ∧ ∃ f, ts.length - j < f ∧ o = insF f g name deep ks tx (ts.drop j)) ∨ (e ≠ 0 ∧ ∃ x, o = .error x ∧ a = (wrOf en x).1 ∧ e = (wrOf en x).2)
section
variable {en : Int} {ts : List Tok} {g : Sp} {name : List UInt8} {deep : Nat} {o : Except Wr (List Node × List Tok)} {ks : List Node} {tx : List (Int × List UInt8)} {j : Nat} {a : Int}
theorem I1.out (h : I1 en ts g name deep o ks tx j a 0) (hj : ts.length ≤ j) (a' : Int) : I1 en ts g name deep o ks tx j (fstA a' 0 en) (fstE 0 10) := by
  rcases h with ⟨_, f, hf, ho⟩ | ⟨h, _⟩
  · refine .inr ⟨by simp [fstE], none, ?_, by simp [fstA, wrOf], by simp [fstE, wrOf]⟩
    rw [ho, List.drop_eq_nil_of_le hj]
    cases f with
    | zero => omega
    | succ f => rfl
  · exact absurd rfl h
theorem I1.step (h : I1 en ts g name deep o ks tx j a 0) (hj : j < ts.length) : ∃ f, ts.length - (j + 1) < f ∧ o = (if ts[j].kind = 3 then insF f g name deep ks (tx ++ [(ts[j].place, ts[j].s)]) (ts.drop (j + 1))
    else if ts[j].kind = 1 then (if name ≠ ts[j].s then .error (some (ts[j].place, 5)) else .ok (flush ks tx, ts.drop (j + 1)))
    else match elemW (fun g n d r => insF f g n d [] [] r) g (deep + 1) ts[j] (ts.drop (j + 1)) with
      | .error x => .error x
      | .ok k => insF f g name deep (flush ks tx ++ [k.1]) [] k.2) := by
  rcases h with ⟨_, f, hf, ho⟩ | ⟨h, _⟩
  · cases f with
    | zero => omega
    | succ f =>
      refine ⟨f, by omega, ?_⟩
      rw [ho, List.drop_eq_getElem_cons hj, insF]
      split
      · rfl
      · split
        · rfl
        · cases elemW (fun g n d r => insF f g n d [] [] r) g (deep + 1) ts[j] (ts.drop (j + 1)) <;> rfl
  · exact absurd rfl h
end
/-- Behind an append of a node that is not filled yet: what the stores want, and what they leave. -/
theorem add_after {w X : World} {B Nb j : Nat} {tv : Value} {en a e : Int} {c0 c1 c2 c3 kv : Value} {r : List (Node × Value × Value)} {n : Node} {av kv' : Value} (h : InsS w B Nb tv j en a e c0 c1 c2 c3 kv r X) (hn : IsN X (InA w kv) n av kv') :
    ∀ (g cap : Nat) (w1 : World), w1.ownsRow w.heap.size 32 6 (.slice (some ⟨g, 0, none⟩) (r.length + 1) cap) (r.length + 1) (r.flatMap ncells ++ zero6) → X.grownBy w1 kv.ownBlock → (kv.ownBlock = some g ∨ X.heap.size ≤ g) →
      (w1.cell? ⟨g, r.length * 6, none⟩ = some (.int .i64 0) ∧ w1.cell? ⟨g, r.length * 6 + 1, none⟩ = some (.string ⟨#[]⟩) ∧ w1.cell? ⟨g, r.length * 6 + 2, none⟩ = some (.string ⟨#[]⟩) ∧ w1.cell? ⟨g, r.length * 6 + 3, none⟩ = some (.slice none 0 0) ∧ w1.cell? ⟨g, r.length * 6 + 4, none⟩ = some (.slice none 0 0) ∧ w1.cell? ⟨g, r.length * 6 + 5, none⟩ = some (.string ⟨#[]⟩)) ∧
      (w1.frozen? ⟨g, r.length * 6, none⟩ = false ∧ w1.frozen? ⟨g, r.length * 6 + 1, none⟩ = false ∧ w1.frozen? ⟨g, r.length * 6 + 2, none⟩ = false ∧ w1.frozen? ⟨g, r.length * 6 + 3, none⟩ = false ∧ w1.frozen? ⟨g, r.length * 6 + 4, none⟩ = false ∧ w1.frozen? ⟨g, r.length * 6 + 5, none⟩ = false) ∧
      w1.cell? ⟨Nb, 4, none⟩ = some kv ∧ w1.frozen? ⟨Nb, 4, none⟩ = false ∧ g ≠ Nb ∧ Nb ≠ g ∧
      Hid (InsS w B Nb tv j en a e c0 c1 c2 c3 (.slice (some ⟨g, 0, none⟩) (r.length + 1) cap) (r ++ [(n, av, kv')])
        (((((((w1.setCell ⟨g, r.length * 6, none⟩ (.int .i64 n.place)).setCell ⟨g, r.length * 6 + 1, none⟩ (.string (text n.nm.1))).setCell ⟨g, r.length * 6 + 2, none⟩ (.string (text n.nm.2))).setCell ⟨g, r.length * 6 + 3, none⟩ av).setCell ⟨g, r.length * 6 + 4, none⟩ kv').setCell ⟨g, r.length * 6 + 5, none⟩ (.string (text n.text))).setCell ⟨Nb, 4, none⟩ (.slice (some ⟨g, 0, none⟩) (r.length + 1) cap))) := by
  intro g cap w1 hown hg hgg
  have hgl := (hown.lt g rfl).1
  have hlN := h.lowN
  have hNb : w1.heap[Nb]? = X.heap[Nb]? := hg.block Nb (lt_of_some h.nod) (fun q => by have := (h.own.lt Nb q.symm).1; omega)
  refine ⟨⟨(hown.cellAt _ (by omega)).trans (tail6 r zero6 0), (hown.cellAt _ (by omega)).trans (tail6 r zero6 1), (hown.cellAt _ (by omega)).trans (tail6 r zero6 2), (hown.cellAt _ (by omega)).trans (tail6 r zero6 3), (hown.cellAt _ (by omega)).trans (tail6 r zero6 4), (hown.cellAt _ (by omega)).trans (tail6 r zero6 5)⟩,
    ⟨hown.frozenAt _, hown.frozenAt _, hown.frozenAt _, hown.frozenAt _, hown.frozenAt _, hown.frozenAt _⟩, ?_, ?_, by omega, by omega, hid (h.add hn hown hg hgg)⟩
  · rw [Lib.cell_of_heap (hNb.trans h.nod)]; rfl
  · exact Lib.frozen_of_heap (hNb.trans h.nod) 4
/-- What the stores behind an element's call want, and what they leave: the append's world is X7. -/
def PackE (Nb : Nat) (kv : Value) (w7 : World) (sl : Value) (n : Node) (av kv' : Value) (r : List (Node × Value × Value)) (D : World → Prop) (g9 cap9 : Nat) (w9 : World) : Prop :=
  (Builtin.append_ #[30, 30] 30 #[kv, sl]).run Tryz.prog w7 = .ok (.slice (some ⟨g9, 0, none⟩) (r.length + 1) cap9) w9 ∧
  (w9.cell? ⟨g9, r.length * 6, none⟩ = some (.int .i64 0) ∧ w9.cell? ⟨g9, r.length * 6 + 1, none⟩ = some (.string ⟨#[]⟩) ∧ w9.cell? ⟨g9, r.length * 6 + 2, none⟩ = some (.string ⟨#[]⟩) ∧ w9.cell? ⟨g9, r.length * 6 + 3, none⟩ = some (.slice none 0 0) ∧ w9.cell? ⟨g9, r.length * 6 + 4, none⟩ = some (.slice none 0 0) ∧ w9.cell? ⟨g9, r.length * 6 + 5, none⟩ = some (.string ⟨#[]⟩)) ∧
  (w9.frozen? ⟨g9, r.length * 6, none⟩ = false ∧ w9.frozen? ⟨g9, r.length * 6 + 1, none⟩ = false ∧ w9.frozen? ⟨g9, r.length * 6 + 2, none⟩ = false ∧ w9.frozen? ⟨g9, r.length * 6 + 3, none⟩ = false ∧ w9.frozen? ⟨g9, r.length * 6 + 4, none⟩ = false ∧ w9.frozen? ⟨g9, r.length * 6 + 5, none⟩ = false) ∧
  w9.cell? ⟨Nb, 4, none⟩ = some kv ∧ w9.frozen? ⟨Nb, 4, none⟩ = false ∧ g9 ≠ Nb ∧ Nb ≠ g9 ∧
  Hid (D (((((((w9.setCell ⟨g9, r.length * 6, none⟩ (.int .i64 n.place)).setCell ⟨g9, r.length * 6 + 1, none⟩ (.string (text n.nm.1))).setCell ⟨g9, r.length * 6 + 2, none⟩ (.string (text n.nm.2))).setCell ⟨g9, r.length * 6 + 3, none⟩ av).setCell ⟨g9, r.length * 6 + 4, none⟩ kv').setCell ⟨g9, r.length * 6 + 5, none⟩ (.string (text n.text))).setCell ⟨Nb, 4, none⟩ (.slice (some ⟨g9, 0, none⟩) (r.length + 1) cap9)))
theorem keep2 {w X : World} {B Nb : Nat} {v : Value} {g : Sp} (h : GivO w B v g) (ho : Off (fun b => b = Nb) v g.length) (hk : Keep (fun b => b = B ∨ b = Nb) w X) : GivO X B v g :=
  ⟨h.row.keep hk (fun hn b hb q => q.elim (h.off hn b hb) (ho hn b hb)), h.off, h.bare, h.spl⟩
theorem flat_app (tx : List (Int × List UInt8)) (p : Int) (s : List UInt8) : flat (tx ++ [(p, s)]) = flat tx ++ s := by unfold flat; simp
theorem flush_snoc {ks : List Node} {tx : List (Int × List UInt8)} (h : tx ≠ []) (p : Int) (s : List UInt8) : ∃ q, flush ks tx = ks ++ [.mk q ([], []) [] [] (flat tx)] ∧ flush ks (tx ++ [(p, s)]) = ks ++ [.mk q ([], []) [] [] (flat tx ++ s)] := by
  cases tx with
  | nil => exact absurd rfl h
  | cons y r => exact ⟨y.1, rfl, by rw [← flat_app]; rfl⟩
theorem tokMass_s (t : Tok) : t.s.length ≤ tokMass t := by unfold tokMass; omega
theorem toksMass_drop {ts : List Tok} {j : Nat} (hj : j < ts.length) : toksMass (ts.drop j) = tokMass ts[j] + toksMass (ts.drop (j + 1)) := by
  rw [List.drop_eq_getElem_cons hj]; rfl
set_option maxHeartbeats 100000000 in
theorem rinside_any {ts : List Tok} {tv : Value} {W0 : World} {B : Nat} {en : Int} (hE : Env ts tv W0) (hB : W0.heap.size ≤ B) (hm : toksMass ts ≤ 1048576) : ∀ N, InsOk ts tv W0 B en N := by
  intro N
  induction N using Nat.strongRecOn with
  | _ N ih =>
  intro w i a lv g deep name Nb c0 c1 c2 c3 f h0 hr hg hgl hd hd1 hi hN hf hnod hNb hoff
  obtain ⟨o, ho⟩ : ∃ o, insF f g name deep [] [] (ts.drop i) = o := ⟨_, rfl⟩
  rw [ho]
  have htl : ts.length ≤ 1000000 := hE.few
  have tlen := fun X => hE.toks.len (P := Tryz.prog) 22 3 45 undT X
  have hmi : toksMass (ts.drop i) ≤ toksMass ts := by
    unfold toksMass
    have := List.take_append_drop i ts
    conv => rhs; rw [← this]
    rw [List.map_append, List.sum_append]
    omega
  have hne : Nb ≠ B := fun q => by
    unfold RB at hr
    rw [q, hr] at hnod
    injection hnod with hnod
    injection hnod with _ h2
    exact absurd h2 (by decide)
  obtain ⟨i0, hi0, hz0, hz1, hz2⟩ := info_parts infoN
  have HI := hid hi0
  have HS0 := hid (show InsS w B Nb tv i en a 0 c0 c1 c2 c3 (.slice none 0 0) [] w from ⟨Keep.refl _ _, hr, hnod, ⟨by simp, .inl ⟨rfl, rfl⟩⟩, by simp, hr.lt, lt_of_some hnod, hne⟩)
  have HT0 := hid (show I1 en ts g name deep o [] [] i a 0 from .inl ⟨rfl, f, hf, ho.symm⟩)
  have H0 := hid h0
  have HG := hid hg
  have HOF := hid hoff
  have HE := hid hE
  have HIH := hid ih
  clear h0 hr hg hnod hoff hE ih ho hi0 hne
  go_enter Tryz.func26, Tryz.ntmps26
  go_wp2_with fail
  go_loopg [10] (2 * (ts.length - i) + 1) (fun gk sv X => ∃ (tb : Bool) (j : Nat) (ks : List Node) (tx : List (Int × List UInt8)) (kv : Value) (r : List (Node × Value × Value)) (a1 e1 : Int), sv = .bool tb ∧ Hid (tb = true ↔ tx ≠ []) ∧ i ≤ j ∧ j ≤ ts.length ∧ (e1 = 0 → 2 * (ts.length - j) + 1 ≤ gk) ∧ r.length ≤ j ∧ Hid (r.map (·.1) = flush ks tx) ∧ Hid (InsS w B Nb tv j en a1 e1 c0 c1 c2 c3 kv r X) ∧ Hid (I1 en ts g name deep o ks tx j a1 e1) ∧ (flat tx).length + toksMass (ts.drop j) ≤ 1048576)
  case atStart => exact ⟨false, i, [], [], .slice none 0 0, [], a, 0, rfl, hid (by simp), by omega, hi, fun _ => by omega, by simp, hid rfl, HS0, HT0, by simp [flat]; omega⟩
  case round =>
    rename World => X
    obtain ⟨tb, j, ks, tx, kv, r, a1, e1, rfl, HTB, hij, hjl, hgk, hrl, HR, HS, HT, hfl⟩ := hrel
    obtain ⟨rb0, rb1, rb2, rb3, rb4⟩ := HS.out.rb.cells
    by_cases he : e1 = 0
    · subst he
      have hgk' := hgk rfl
      clear hgk
      by_cases hj : j < ts.length
      · have hj' : ¬ ((ts.length : Int) ≤ (j : Int)) := by omega
        have hj2 : decide ((ts.length : Int) ≤ (j : Int)) = false := decide_eq_false hj'
        go_wp2_with fail
        go_quiet (fail)
        rename_i nq
        have HSY := hid (HS.out.later (below_drewN (b0 X) nq))
        clear rb0 rb1 rb2 rb3 rb4 hj' hj2
        generalize X.drewN nq = Y at *
        clear HS
        obtain ⟨rb0, rb1, rb2, rb3, rb4⟩ := HSY.out.rb.cells
        have HXX := hid (show Below W0.heap.size W0 Y from Keep.below H0.out HSY.out.keep (fun b hb => by rcases hb with hb | hb <;> omega))
        obtain ⟨bp, op, ta, ip, t0', t1', t2', t3', hpr⟩ := HE.out.toks.at (P := Tryz.prog) j hj 22 45 undT sizT
        obtain ⟨ao, an, ac, rfl⟩ : ∃ o n c, ta = .slice o n c := by
          obtain ⟨⟨b, c, hb, _⟩, _⟩ := hpr
          exact ⟨_, _, _, hb⟩
        have hbp : bp < Y.heap.size := Nat.lt_of_lt_of_le (World.block_lt_of_cell? _ _ t0') HXX.out.size
        have t0 := (HXX.out.cell (p := ⟨bp, op, none⟩) (World.block_lt_of_cell? _ _ t0')).trans t0'
        have t1 := (HXX.out.cell (p := ⟨bp, op + 1, none⟩) (World.block_lt_of_cell? _ _ t1')).trans t1'
        have t2 := (HXX.out.cell (p := ⟨bp, op + 2, none⟩) (World.block_lt_of_cell? _ _ t2')).trans t2'
        have t3 := (HXX.out.cell (p := ⟨bp, op + 3, none⟩) (World.block_lt_of_cell? _ _ t3')).trans t3'
        have ip' := ip .i64
        have hBY : B < Y.heap.size := HSY.out.rb.lt
        clear t0' t1' t2' t3' ip hpr
        have hst := HT.out.step hj
        have hmd := toksMass_drop hj
        have hkd := HE.out.kinds ts[j] (List.getElem_mem hj)
        have HEL := hid (fun (Zc : World) (a2 : Int) (hb : Below W0.heap.size W0 Zc) (hrz : RB Zc B tv j en a2 0) (hgz : GivO Zc B lv g) (f2 : Nat) (hf2 : ts.length - (j + 1) < f2) (hki : ts[j].kind = 0 ∨ ts[j].kind = 2) =>
          relement_any HE.out hB (HIH.out (ts.length - (j + 1)) (by omega)) Zc j a2 lv g (deep + 1) f2 hb hrz hgz (by omega) (by omega) (by omega) hj (Nat.le_refl _) hf2 hki)
        have hts : ts[j].s.length ≤ tokMass ts[j] := tokMass_s _
        generalize ts[j] = t at *
        have mixed : Tryz.prog.follows Departure.mixedOrders = true := by kernel_rfl
        go_wp2_with fail
        go_region_o
        have BZ := bdrewB (ba (b0 Y) (.cells #[.int .i64 t.kind, .int .i64 t.place, .string (text t.s), .slice ao an ac] 45)) 1
        have HSZ := hid (show InsS w B Nb tv j en a1 0 c0 c1 c2 c3 kv r (Y.alloc (.cells #[.int .i64 t.kind, .int .i64 t.place, .string (text t.s), .slice ao an ac] 45)).drew from HSY.out.later BZ)
        have PZ := hid (show (Y.alloc (.cells #[.int .i64 t.kind, .int .i64 t.place, .string (text t.s), .slice ao an ac] 45)).drew.heap[Y.heap.size]? = some (.cells #[.int .i64 t.kind, .int .i64 t.place, .string (text t.s), .slice ao an ac] 45 (0, 0)) from heap_alloc_new Y _)
        have HGZ := hid (keep2 HG.out HOF.out HSZ.out.keep)
        clear BZ HSY HXX rb0 rb1 rb2 rb3 rb4 t0 t1 t2 t3 ip' hbp hBY
        obtain ⟨Z, hZ⟩ : ∃ Z, (Y.alloc (.cells #[.int .i64 t.kind, .int .i64 t.place, .string (text t.s), .slice ao an ac] 45)).drew = Z := ⟨_, rfl⟩
        rw [hZ] at HSZ PZ HGZ
        rw [show (Y.alloc (.cells #[.int .i64 t.kind, .int .i64 t.place, .string (text t.s), .slice ao an ac] 45)).drew = Z from hZ]
        clear hZ
        generalize Y.heap.size = z at *
        obtain ⟨rb0, rb1, rb2, rb3, rb4⟩ := HSZ.out.rb.cells
        have rf1 := HSZ.out.rb.frozen 1
        have x0 : Z.cell? ⟨z, 0, none⟩ = some (.int .i64 t.kind) := by rw [Lib.cell_of_heap PZ.out]; rfl
        have x1 : Z.cell? ⟨z, 1, none⟩ = some (.int .i64 t.place) := by rw [Lib.cell_of_heap PZ.out]; rfl
        have x2 : Z.cell? ⟨z, 2, none⟩ = some (.string (text t.s)) := by rw [Lib.cell_of_heap PZ.out]; rfl
        have wj : IntKind.i64.wrap ((j : Int) + 1) = (j : Int) + 1 := IntWalk.i64_in _ ⟨by omega, by omega⟩
        have knd : t.kind = 1 ∨ t.kind = 3 ∨ (t.kind = 0 ∨ t.kind = 2) := by omega
        obtain ⟨f2, hf2, hst⟩ := hst
        clear hkd
        rcases knd with hk | hk | hk
        · have q1 : (t.kind == 1) = true := by rw [beq_iff_eq]; exact hk
          rw [if_neg (by omega), if_pos hk] at hst
          have tq := text_eq t.s name
          have HSTT := hid hst
          by_cases hn : t.s = name
          · rw [decide_eq_true hn] at tq
            have E := hid (show o = .ok (flush ks tx, ts.drop (j + 1)) by rw [HSTT.out, if_neg (by simp [hn])])
            have HSN := hid HSZ.out.next
            clear hn hk hst
            go_wp2
            go_end0
            exact ⟨r.map (·.1), kv, j + 1, a1, 0, rfl, HSN.out.nod, HSN.out.kids (by omega), HSN.out.rb, HSN.out.keep, by omega, by omega, by rw [E.out]; exact ⟨HR.out, rfl, rfl⟩⟩
          · rw [decide_eq_false hn] at tq
            have E := hid (show o = .error (some (t.place, 5)) by rw [HSTT.out, if_pos (fun q => hn q.symm)])
            clear hn hk hst
            go_wp2_with fail
            refine (fail_any t.place 5 _ HSZ.out.rb).mono ?_
            rintro e w2 ⟨rfl, hr2, hk2⟩
            have HSW := hid (HSZ.out.rbs hr2 hk2)
            obtain ⟨y0, y1, _, _, _⟩ := hr2.cells
            have yf1 := hr2.frozen 1
            have HSN := hid HSW.out.next
            clear hr2 hk2 rb0 rb1 rb2 rb3 rb4 rf1 x0 x1 x2
            go_wp2
            go_end0
            exact ⟨r.map (·.1), kv, j + 1, _, _, rfl, HSN.out.nod, HSN.out.kids (by omega), HSN.out.rb, HSN.out.keep, by omega, by omega, by rw [E.out]; exact ⟨by simp [fstE], by simp [fstA, wrOf], by simp [fstE, wrOf]⟩⟩
        · have q1 : (t.kind == 1) = false := by rw [beq_eq_false_iff_ne]; omega
          have q3 : (t.kind == 3) = true := by rw [beq_iff_eq]; exact hk
          rw [if_pos hk] at hst
          have HSTT := hid hst
          have HSN := hid HSZ.out.next
          have PN : Hid ((Z.setCell ⟨B, 1, none⟩ (.int .i64 ((j : Int) + 1))).heap[z]? = some (.cells #[.int .i64 t.kind, .int .i64 t.place, .string (text t.s), .slice ao an ac] 45 (0, 0))) := hid ((set_other _ _ _ _ _ (by
            intro q
            have h1 := PZ.out
            have h2 := HSZ.out.rb
            unfold RB at h2
            rw [q, h2] at h1
            injection h1 with h1
            injection h1 with _ h3
            exact absurd h3 (by decide))).trans PZ.out)
          clear hst hk
          go_upto_region 14 with fail
          generalize Z.setCell ⟨B, 1, none⟩ (.int .i64 ((j : Int) + 1)) = Z2 at *
          clear rb0 rb1 rb2 rb3 rb4 rf1 x0 x1 x2 HSZ PZ HGZ
          have x1 : Z2.cell? ⟨z, 1, none⟩ = some (.int .i64 t.place) := by rw [Lib.cell_of_heap PN.out]; rfl
          have x2 : Z2.cell? ⟨z, 2, none⟩ = some (.string (text t.s)) := by rw [Lib.cell_of_heap PN.out]; rfl
          have k4 := HSN.out.kcell.1
          have v4 := HSN.out.kcell.2
          cases tb with
          | true =>
            have htx := HTB.out.1 rfl
            obtain ⟨qp, hq1, hq2⟩ := flush_snoc (ks := ks) htx t.place t.s
            rcases snoc_cases r with hr0 | ⟨r0, y, hr0⟩
            · exfalso
              have := HR.out
              rw [hr0, hq1] at this
              simp at this
            · subst hr0
              have hmap := HR.out
              rw [hq1, List.map_append] at hmap
              obtain ⟨hm1, hm2⟩ := List.append_inj' hmap rfl
              obtain ⟨yn, yav, ykv⟩ := y
              have hyn : yn = .mk qp ([], []) [] [] (flat tx) := by simpa using hm2
              subst hyn
              obtain ⟨g9, cap, rfl, hg9, hgl9⟩ := HSN.out.own.form (by simp)
              have ow := HSN.out.own
              rw [List.length_append, List.length_singleton] at hrl ow
              simp only [List.length_append, List.length_singleton] at k4
              have klen : ∀ X, (Builtin.len_ #[30] 3 #[.slice (some ⟨g9, 0, none⟩) (r0.length + 1) cap]).run Tryz.prog X = .ok (.int .i64 ((r0.length : Int) + 1)) X := fun X => own_len (P := Tryz.prog) ow 30 3 undN X
              have kc5 : Z2.cell? ⟨g9, r0.length * 6 + 5, none⟩ = some (.string (text (flat tx))) := by rw [ow.cellAt _ (by omega), flat_last 6 ncells (fun _ => rfl) r0 _ 5 (by omega)]; rfl
              have vf5 := ow.frozenAt (r0.length * 6 + 5)
              have oat := fun Y => own_at (P := Tryz.prog) undN sizN g9 (r0.length + 1) cap r0.length (by omega) Y
              have wk : wrap64 ((r0.length : Int) + 1 - 1) = (r0.length : Int) := by rw [IntWalk.wrap64_in _ ⟨by omega, by omega⟩]; omega
              have tt : text (flat tx) ++ text t.s = text (flat tx ++ t.s) := text_append _ _
              have zz : (text (flat tx)).size + (text t.s).size ≤ 9223372036854775807 := by rw [text_size, text_size]; omega
              have HSM := hid (show InsS w B Nb tv (j + 1) en a1 0 c0 c1 c2 c3 (.slice (some ⟨g9, 0, none⟩) (r0.length + 1) cap) (r0 ++ [(.mk qp ([], []) [] [] (flat tx), yav, ykv)]) Z2 from by
                have := HSN.out
                rw [List.length_append, List.length_singleton] at this
                exact this)
              have HSR := hid (HSM.out.retext (tx' := flat tx ++ t.s))
              have HR2 := hid (show (r0 ++ [((.mk qp ([], []) [] [] (flat tx ++ t.s), yav, ykv) : Node × Value × Value)]).map (·.1) = flush ks (tx ++ [(t.place, t.s)]) by rw [hq2, List.map_append, hm1]; rfl)
              have HFL := hid (show (flat (tx ++ [(t.place, t.s)])).length + toksMass (ts.drop (j + 1)) ≤ 1048576 by rw [flat_app, List.length_append]; omega)
              have HT2 := hid (show I1 en ts g name deep o ks (tx ++ [(t.place, t.s)]) (j + 1) a1 0 from .inl ⟨rfl, f2, hf2, HSTT.out⟩)
              clear hmap hm1 hm2 hq1 hq2 ow htx
              go_wp2_with fail
              go_region_o
              go_wp2
              go_roundg (gk - 2)
              case measure => omega
              case rel => exact ⟨true, j + 1, ks, tx ++ [(t.place, t.s)], _, _, a1, 0, rfl, hid (by simp), by omega, by omega, fun _ => by omega, by simp; omega, HR2, hid (HSR.out.later (bdrewB (b0 _) 1)), HT2, HFL.out⟩
          | false =>
            have htx : tx = [] := by
              by_cases c : tx = []
              · exact c
              · exact absurd (HTB.out.2 c) (by simp)
            subst htx
            have klen := own_len (P := Tryz.prog) HSN.out.own 30 3 undN
            have B2 := ba (b0 Z2) (.cells #[.int .i64 0, .string ⟨#[]⟩, .string ⟨#[]⟩, .slice none 0 0, .slice none 0 0, .string ⟨#[]⟩] 32)
            have HS7 := hid (HSN.out.later B2)
            have HO7 := hid HS7.out.own
            have hzN : Nb < Z2.heap.size := lt_of_some HSN.out.nod
            have hzz : z < Z2.heap.size := lt_of_some PN.out
            have HR2 := hid (show (r ++ [((.mk t.place ([], []) [] [] t.s, .slice none 0 0, .slice none 0 0) : Node × Value × Value)]).map (·.1) = flush ks ([] ++ [(t.place, t.s)]) by
              rw [List.map_append, HR.out]
              simp [flush, flat])
            have HFL := hid (show (flat ([] ++ [(t.place, t.s)])).length + toksMass (ts.drop (j + 1)) ≤ 1048576 by simp [flat] at hfl ⊢; omega)
            have HT2 := hid (show I1 en ts g name deep o ks ([] ++ [(t.place, t.s)]) (j + 1) a1 0 from .inl ⟨rfl, f2, hf2, HSTT.out⟩)
            have KADD := hid (add_after (n := .mk t.place ([], []) [] [] t.s) (av := .slice none 0 0) (kv' := .slice none 0 0) HS7.out (IsN.of (Atts.nil _ _) (Kids.nil _ _)))
            simp only [Node.place, Node.nm, Node.text] at KADD
            have HC2 := hid (show r.length + 1 ≤ maxLen by unfold maxLen; omega)
            have HC3 := hid (show (r.length + 1) * 104 ≤ 140737488355328 by omega)
            have HC4 := hid (show w.heap.size ≤ (Z2.alloc (.cells #[.int .i64 0, .string ⟨#[]⟩, .string ⟨#[]⟩, .slice none 0 0, .slice none 0 0, .string ⟨#[]⟩] 32)).heap.size from HS7.out.size)
            have HNC := hid (new_cells Z2 #[.int .i64 0, .string ⟨#[]⟩, .string ⟨#[]⟩, .slice none 0 0, .slice none 0 0, .string ⟨#[]⟩] 32 Z2.heap.size rfl)
            have HONE := hid (show ∀ u ∈ zero6, u.oneCell' = true by simp [zero6, Value.oneCell'])
            have HK1 := hid (show r.length < r.length + 1 by omega)
            have hk1 : (r.length : Int) < (r.length : Int) + 1 := by omega
            clear B2
            go_wp2_with fail
            have a4 : (Z2.alloc (.cells #[.int .i64 0, .string ⟨#[]⟩, .string ⟨#[]⟩, .slice none 0 0, .slice none 0 0, .string ⟨#[]⟩] 32)).cell? ⟨Nb, 4, none⟩ = some kv := HS7.out.kcell.1
            have ax1 : (Z2.alloc (.cells #[.int .i64 0, .string ⟨#[]⟩, .string ⟨#[]⟩, .slice none 0 0, .slice none 0 0, .string ⟨#[]⟩] 32)).cell? ⟨z, 1, none⟩ = some (.int .i64 t.place) := (World.cell?_of_block (a := ⟨z, 1, none⟩) ((ba (b0 Z2) (.cells #[.int .i64 0, .string ⟨#[]⟩, .string ⟨#[]⟩, .slice none 0 0, .slice none 0 0, .string ⟨#[]⟩] 32)).block z hzz)).trans x1
            have ax2 : (Z2.alloc (.cells #[.int .i64 0, .string ⟨#[]⟩, .string ⟨#[]⟩, .slice none 0 0, .slice none 0 0, .string ⟨#[]⟩] 32)).cell? ⟨z, 2, none⟩ = some (.string (text t.s)) := (World.cell?_of_block (a := ⟨z, 2, none⟩) ((ba (b0 Z2) (.cells #[.int .i64 0, .string ⟨#[]⟩, .string ⟨#[]⟩, .slice none 0 0, .slice none 0 0, .string ⟨#[]⟩] 32)).block z hzz)).trans x2
            obtain ⟨g9, cap9, w9, hrun9, hown9, hg9, hgg9, hgl9⟩ := run_append_lies (P := Tryz.prog) (w := (Z2.alloc (.cells #[.int .i64 0, .string ⟨#[]⟩, .string ⟨#[]⟩, .slice none 0 0, .slice none 0 0, .string ⟨#[]⟩] 32)).drew) 30 30 w.heap.size 32 i0 _ 6 104 undN HI.out hz0 hz1 hz2 rfl (by decide) kv r.length (r.flatMap ncells) HO7.out ⟨Z2.heap.size, 0, none⟩ 1 1 zero6 rfl HNC.out HONE.out (by decide) HC2.out HC3.out HC4.out _ rfl
            obtain ⟨⟨d0, d1, d2, d3, d4, d5⟩, ⟨e0, e1, e2, e3, e4, e5⟩, m4, v4', hgN, hNg, HALL⟩ := KADD.out g9 cap9 w9 hown9 ⟨hg9.os, hg9.tape, hg9.output, hg9.size, hg9.block⟩ (hgg9.elim .inl (fun q => .inr (Nat.le_of_eq q.symm)))
            clear hown9 hg9 hgg9 hgl9
            rw [show text ([] : List UInt8) = ⟨#[]⟩ from rfl] at HALL
            go_region_o
            all_goals go_wp2
            all_goals go_roundg (gk - 2)
            all_goals first
              | omega
              | exact ⟨true, j + 1, ks, [] ++ [(t.place, t.s)], .slice (some ⟨g9, 0, none⟩) (r.length + 1) cap9, r ++ [(.mk t.place ([], []) [] [] t.s, .slice none 0 0, .slice none 0 0)], a1, 0, rfl, hid (by simp), by omega, by omega, fun _ => by omega, by simp; omega, HR2, by first | with_reducible exact HALL | (refine hid ?_; rw [set_swap6 w9 hNg]; with_reducible exact HALL.out), HT2, HFL.out⟩
        · have q1 : (t.kind == 1) = false := by rw [beq_eq_false_iff_ne]; omega
          have q3 : (t.kind == 3) = false := by rw [beq_eq_false_iff_ne]; omega
          rw [if_neg (by omega), if_neg (by omega)] at hst
          have HI1 := hid (show ∀ (m : Node) (j5 : Nat) (a5 e5 : Int), j < j5 → TellE en ts (elemW (fun g n d r => insF f2 g n d [] [] r) g (deep + 1) t (ts.drop (j + 1))) m j5 a5 e5 → I1 en ts g name deep o (flush ks tx ++ [m]) [] j5 a5 e5 from by
            intro m j5 a5 e5 hj1 ht
            cases hel : elemW (fun g n d r => insF f2 g n d [] [] r) g (deep + 1) t (ts.drop (j + 1)) with
            | error x =>
              rw [hel] at ht hst
              exact .inr ⟨ht.1, x, hst, ht.2.1, ht.2.2⟩
            | ok k =>
              rw [hel] at ht hst
              refine .inl ⟨ht.2.1, f2, by omega, ?_⟩
              dsimp only at hst
              rw [hst, ht.1, ht.2.2])
          have ELC0 := hid (fun (Zc : World) (hb : Below Z.heap.size Z Zc) => HEL.out Zc a1 (Keep.below H0.out (HSZ.out.later hb).keep (fun b hb2 => by rcases hb2 with hb2 | hb2 <;> omega)) (HSZ.out.later hb).rb ⟨HGZ.out.row.below hb, HGZ.out.off, HGZ.out.bare, HGZ.out.spl⟩ f2 hf2 hk)
          have ELC := hid (show ∀ (Zc : World), Below Z.heap.size Z Zc → Calls Tryz.prog 14 #[.pointer (some ⟨B, 0, none⟩), lv, .int .i64 ((deep : Int) + 1)] Zc (GotRE Zc B tv ts j en (elemW (fun g n d r => insF f2 g n d [] [] r) g (deep + 1) t (ts.drop (j + 1)))) from fun Zc hb => ELC0.out Zc hb)
          have wd : IntKind.i64.wrap ((deep : Int) + 1) = (deep : Int) + 1 := IntWalk.i64_in _ ⟨by omega, by omega⟩
          have BA := ba (b0 Z) (.cells #[.int .i64 0, .string ⟨#[]⟩, .string ⟨#[]⟩, .slice none 0 0, .slice none 0 0, .string ⟨#[]⟩] 32)
          have HBZ1 := hid (bdrewB (b0 Z) 1)
          have HBZ2 := hid (bdrewB BA 1)
          have HBZ1' := hid (show Below Z.heap.size Z Z.drew from HBZ1.out)
          have HBZ2' := hid (show Below Z.heap.size Z (Z.alloc (.cells #[.int .i64 0, .string ⟨#[]⟩, .string ⟨#[]⟩, .slice none 0 0, .slice none 0 0, .string ⟨#[]⟩] 32)).drew from HBZ2.out)
          have HSA1 := hid (show InsS w B Nb tv j en a1 0 c0 c1 c2 c3 kv r Z.drew from HSZ.out.later HBZ1.out)
          have HSA2 := hid (show InsS w B Nb tv j en a1 0 c0 c1 c2 c3 kv r (Z.alloc (.cells #[.int .i64 0, .string ⟨#[]⟩, .string ⟨#[]⟩, .slice none 0 0, .slice none 0 0, .string ⟨#[]⟩] 32)).drew from HSZ.out.later HBZ2.out)
          have HIA := hid (show ∀ (Zc : World), Below Z.heap.size Z Zc → ∀ b, InA w kv b → b < Zc.heap.size from fun Zc hb b q => by
            have h1 := HSZ.out.size
            have h2 := hb.size
            rcases q with q | q
            · omega
            · have := (HSZ.out.own.lt b q).2; omega)
          have HBZ := hid (show B ≠ Z.heap.size from by have := HSZ.out.rb.lt; omega)
          have klen := own_len (P := Tryz.prog) HSZ.out.own 30 3 undN
          have k4 := HSZ.out.kcell.1
          have a4 : (Z.alloc (.cells #[.int .i64 0, .string ⟨#[]⟩, .string ⟨#[]⟩, .slice none 0 0, .slice none 0 0, .string ⟨#[]⟩] 32)).cell? ⟨Nb, 4, none⟩ = some kv := HSA2.out.kcell.1
          have HC2 := hid (show r.length + 1 ≤ maxLen by unfold maxLen; omega)
          have HC3 := hid (show (r.length + 1) * 104 ≤ 140737488355328 by omega)
          have HONE := hid (show ∀ u ∈ zero6, u.oneCell' = true by simp [zero6, Value.oneCell'])
          have hk1 : (r.length : Int) < (r.length : Int) + 1 := by omega
          have hzN : Nb < Z.heap.size := lt_of_some HSZ.out.nod
          have HMD := hid (show ∀ q, toksMass (ts.drop q) ≤ 1048576 from fun q => by
            unfold toksMass at hm ⊢
            have := List.take_append_drop q ts
            rw [← this, List.map_append, List.sum_append] at hm
            omega)
          have EL1 := hid (show Calls Tryz.prog 14 #[.pointer (some ⟨B, 0, none⟩), lv, .int .i64 ((deep : Int) + 1)] Z.drew fun e w5 => ∃ (m : Node) (ao5 : Option Addr) (an5 ac5 : Nat) (ko5 : Option Addr) (kn5 kc5 : Nat) (j5 : Nat) (a5 e5 : Int) (g9 cap9 : Nat) (w9 : World), e = .returned (.agg #[.int .i64 m.place, .string (text m.nm.1), .string (text m.nm.2), .slice ao5 an5 ac5, .slice ko5 kn5 kc5, .string (text m.text)]) ∧ Hid (I1 en ts g name deep o (flush ks tx ++ [m]) [] j5 a5 e5) ∧ Hid (j < j5 ∧ j5 ≤ ts.length) ∧ w5.cell? ⟨Nb, 4, none⟩ = some kv ∧ (w5.alloc (.cells #[.int .i64 0, .string ⟨#[]⟩, .string ⟨#[]⟩, .slice none 0 0, .slice none 0 0, .string ⟨#[]⟩] 32)).cell? ⟨Nb, 4, none⟩ = some kv ∧
            PackE Nb kv (w5.alloc (.cells #[.int .i64 0, .string ⟨#[]⟩, .string ⟨#[]⟩, .slice none 0 0, .slice none 0 0, .string ⟨#[]⟩] 32)) (.slice (some ⟨w5.heap.size, 0, none⟩) 1 1) m (.slice ao5 an5 ac5) (.slice ko5 kn5 kc5) r (InsS w B Nb tv j5 en a5 e5 c0 c1 c2 c3 (.slice (some ⟨g9, 0, none⟩) (r.length + 1) cap9) (r ++ [(m, .slice ao5 an5 ac5, .slice ko5 kn5 kc5)])) g9 cap9 w9 from by
            refine (ELC.out _ HBZ1'.out).mono ?_
            rintro e w5 ⟨m, ao5, an5, ac5, ko5, kn5, kc5, j5, a5, e5, rfl, hn5, hr5, hk5, hj1, hj2, ht5⟩
            have HS5 := HSA1.out.rbs hr5 hk5
            have hn6 := hn5.to (A' := InA w kv) (fun b _ q => HIA.out _ HBZ1'.out b q) (Keep.refl _ _)
            have B7 := ba (b0 w5) (.cells #[.int .i64 0, .string ⟨#[]⟩, .string ⟨#[]⟩, .slice none 0 0, .slice none 0 0, .string ⟨#[]⟩] 32)
            have HS7 := HS5.later B7
            have hn7 := hn6.to (A' := InA w kv) (fun _ _ q => q) (Keep.of_below B7)
            obtain ⟨g9, cap9, w9, hrun9, hown9, hg9, hgg9, hgl9⟩ := run_append_lies (P := Tryz.prog) (w := w5.alloc (.cells #[.int .i64 0, .string ⟨#[]⟩, .string ⟨#[]⟩, .slice none 0 0, .slice none 0 0, .string ⟨#[]⟩] 32)) 30 30 w.heap.size 32 i0 _ 6 104 undN HI.out hz0 hz1 hz2 rfl (by decide) kv r.length (r.flatMap ncells) HS7.own ⟨w5.heap.size, 0, none⟩ 1 1 zero6 rfl (new_cells w5 #[.int .i64 0, .string ⟨#[]⟩, .string ⟨#[]⟩, .slice none 0 0, .slice none 0 0, .string ⟨#[]⟩] 32 w5.heap.size rfl) HONE.out (by decide) HC2.out HC3.out HS7.size _ rfl
            have hall := add_after HS7 hn7 g9 cap9 w9 hown9 hg9 (hgg9.elim .inl (fun q => .inr (Nat.le_of_eq q.symm)))
            exact ⟨m, ao5, an5, ac5, ko5, kn5, kc5, j5, a5, e5, g9, cap9, w9, rfl, HI1.out m j5 a5 e5 hj1 ht5, ⟨hj1, hj2⟩, HS5.kcell.1, HS7.kcell.1, hrun9, hall⟩)
          have EL2 := hid (show Calls Tryz.prog 14 #[.pointer (some ⟨B, 0, none⟩), lv, .int .i64 ((deep : Int) + 1)] (Z.alloc (.cells #[.int .i64 0, .string ⟨#[]⟩, .string ⟨#[]⟩, .slice none 0 0, .slice none 0 0, .string ⟨#[]⟩] 32)).drew fun e w5 => ∃ (m : Node) (ao5 : Option Addr) (an5 ac5 : Nat) (ko5 : Option Addr) (kn5 kc5 : Nat) (j5 : Nat) (a5 e5 : Int) (g9 cap9 : Nat) (w9 : World), e = .returned (.agg #[.int .i64 m.place, .string (text m.nm.1), .string (text m.nm.2), .slice ao5 an5 ac5, .slice ko5 kn5 kc5, .string (text m.text)]) ∧ Hid (I1 en ts g name deep o (flush ks tx ++ [m]) [] j5 a5 e5) ∧ Hid (j < j5 ∧ j5 ≤ ts.length) ∧ w5.cell? ⟨Nb, 4, none⟩ = some kv ∧
            PackE Nb kv w5 (.slice (some ⟨Z.heap.size, 0, none⟩) 1 1) m (.slice ao5 an5 ac5) (.slice ko5 kn5 kc5) r (InsS w B Nb tv j5 en a5 e5 c0 c1 c2 c3 (.slice (some ⟨g9, 0, none⟩) (r.length + 1) cap9) (r ++ [(m, .slice ao5 an5 ac5, .slice ko5 kn5 kc5)])) g9 cap9 w9 from by
            refine (ELC.out _ HBZ2'.out).mono ?_
            rintro e w5 ⟨m, ao5, an5, ac5, ko5, kn5, kc5, j5, a5, e5, rfl, hn5, hr5, hk5, hj1, hj2, ht5⟩
            have HS5 := HSA2.out.rbs hr5 hk5
            have hn6 := hn5.to (A' := InA w kv) (fun b _ q => HIA.out _ HBZ2'.out b q) (Keep.refl _ _)
            have PZ6 := (hk5.block Z.heap.size (show Z.heap.size < (Z.alloc (.cells #[.int .i64 0, .string ⟨#[]⟩, .string ⟨#[]⟩, .slice none 0 0, .slice none 0 0, .string ⟨#[]⟩] 32)).heap.size by simp) (fun q => HBZ.out q.symm)).trans (heap_alloc_new Z (.cells #[.int .i64 0, .string ⟨#[]⟩, .string ⟨#[]⟩, .slice none 0 0, .slice none 0 0, .string ⟨#[]⟩] 32))
            obtain ⟨g9, cap9, w9, hrun9, hown9, hg9, hgg9, hgl9⟩ := run_append_lies (P := Tryz.prog) (w := w5) 30 30 w.heap.size 32 i0 _ 6 104 undN HI.out hz0 hz1 hz2 rfl (by decide) kv r.length (r.flatMap ncells) HS5.own ⟨Z.heap.size, 0, none⟩ 1 1 zero6 rfl (World.news_of_block PZ6) HONE.out (by decide) HC2.out HC3.out HS5.size _ rfl
            have hall := add_after HS5 hn6 g9 cap9 w9 hown9 hg9 (hgg9.elim .inl (fun q => .inr (Nat.le_of_eq q.symm)))
            exact ⟨m, ao5, an5, ac5, ko5, kn5, kc5, j5, a5, e5, g9, cap9, w9, rfl, HI1.out m j5 a5 e5 hj1 ht5, ⟨hj1, hj2⟩, HS5.kcell.1, hrun9, hall⟩)
          clear hst HEL BA rb0 rb1 rb2 rb3 rb4 rf1 x1 x2 wj HTB HT HSZ PZ HGZ hfl hmd hts hk ELC0 HBZ1 HBZ2 ELC HSA1 HSA2 HIA HI1 HBZ1' HBZ2' hz0 hz1 hz2 HC2 HC3 HONE HBZ HE HIH HG HOF H0 HS0 HT0
          go_wp2_with fail
          go_region_with (first
            | (go_at_call 14
               with_reducible refine EL1.out.mono ?_
               rintro e w5 ⟨m, ao5, an5, ac5, ko5, kn5, kc5, j5, a5, e5, g9, cap9, w9, rfl, HMJ, HJ5, k45, k46, hrun9, ⟨d0, d1, d2, d3, d4, d5⟩, ⟨f0, f1, f2', f3, f4, f5⟩, m4, v4', hgN, hNg, HALL⟩)
            | (go_at_call 14
               with_reducible refine EL2.out.mono ?_
               rintro e w5 ⟨m, ao5, an5, ac5, ko5, kn5, kc5, j5, a5, e5, g9, cap9, w9, rfl, HMJ, HJ5, k45, hrun9, ⟨d0, d1, d2, d3, d4, d5⟩, ⟨f0, f1, f2', f3, f4, f5⟩, m4, v4', hgN, hNg, HALL⟩))
          all_goals go_wp2
          all_goals go_roundg (gk - 2)
          all_goals first
            | omega
            | exact ⟨false, j5, flush ks tx ++ [m], [], .slice (some ⟨g9, 0, none⟩) (r.length + 1) cap9, r ++ [(m, .slice ao5 an5 ac5, .slice ko5 kn5 kc5)], a5, e5, rfl, hid (by simp), by have := HJ5.out; omega, HJ5.out.2, fun _ => by have := HJ5.out; omega, by have := HJ5.out; simp; omega, hid (by rw [List.map_append, HR.out]; rfl), by first | with_reducible exact HALL | (refine hid ?_; rw [set_swap6 w9 hNg]; exact HALL.out), HMJ, by have := HMD.out j5; simp [flat]; omega⟩
      · have hj' : (ts.length : Int) ≤ (j : Int) := by omega
        have hj2 : decide ((ts.length : Int) ≤ (j : Int)) = true := decide_eq_true hj'
        go_wp2_with fail
        go_quiet (fail)
        rename_i nq
        have HSY := hid (HS.out.later (below_drewN (b0 X) nq))
        clear rb0 rb1 rb2 rb3 rb4 hj' hj2
        generalize X.drewN nq = Y at *
        obtain ⟨rb0, rb1, rb2, rb3, rb4⟩ := HSY.out.rb.cells
        go_wp2_with fail
        refine (fail_any en 10 _ HSY.out.rb).mono ?_
        rintro e w2 ⟨rfl, hr2, hk2⟩
        have HSW := hid (HSY.out.rbs hr2 hk2)
        have HTW := hid (HT.out.out (by omega) a1)
        clear hr2 hk2 rb0 rb1 rb2 rb3 rb4
        go_wp2
        go_end0
        refine ⟨r.map (·.1), kv, j, _, _, rfl, HSW.out.nod, HSW.out.kids (by omega), HSW.out.rb, HSW.out.keep, hij, hjl, ?_⟩
        rcases HTW.out with ⟨h, _⟩ | ⟨h, x, hx, ha, hb⟩
        · exact absurd h (by simp [fstE])
        · rw [hx]; exact ⟨h, ha, hb⟩
    · have q : (e1 == 0) = false := by rw [beq_eq_false_iff_ne]; exact he
      have HEE := hid he
      clear he
      go_wp2
      go_end0
      refine ⟨r.map (·.1), kv, j, _, _, rfl, HS.out.nod, HS.out.kids (by omega), HS.out.rb, HS.out.keep, hij, hjl, ?_⟩
      rcases HT.out with ⟨h, _⟩ | ⟨h, x, hx, ha, hb⟩
      · exact absurd h HEE.out
      · rw [hx]; exact ⟨h, ha, hb⟩
end Go.Proofs.YthodmdfbahkflaaGreatDoor.Tree
