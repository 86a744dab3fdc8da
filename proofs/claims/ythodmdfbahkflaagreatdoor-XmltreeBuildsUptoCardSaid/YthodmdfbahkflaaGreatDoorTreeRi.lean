/- Layer 5: contract of the document's element. -/
import Derived.Test.YthodmdfbahkflaaGreatDoorPk6
import Derived.Test.YthodmdfbahkflaaGreatDoorTrW
import Derived.Deep.RegionLaw
import Derived.Deep.CutBlock
import Derived.StillTailTactics
set_option linter.unusedVariables false
set_option linter.unusedSimpArgs false
namespace Go.Proofs.YthodmdfbahkflaaGreatDoor.Tree
open Go Go.Proofs.YthodmdfbahkflaaGreatDoor Go.Proofs.YthodmdfbahkflaaGreatDoor.Utf Go.Proofs.YthodmdfbahkflaaGreatDoor.Names Go.Proofs.YthodmdfbahkflaaGreatDoor.Ent Go.Proofs.YthodmdfbahkflaaGreatDoor.Tok Go.RowKit
set_option maxRecDepth 100000
attribute [-go_sem] Builtin.append_
theorem results_cell {fn : Func} {p : Tmp} {ty : TypeId} (h : fn.results = #[.cell p ty]) {P : Program} (tmps : Array Value) (w : World) (g : Nat) (cs : Array Value)
    (hp : tmps.getD p undef = .pointer (some ⟨g, 0, none⟩)) (hrun : (loadVar ty ⟨g, 0, none⟩).run P w = .ok (.agg cs) w) :
    (results fn tmps).run P w = .ok (.agg cs) w := by
  have hp2 : tmps[p]?.getD undef = .pointer (some ⟨g, 0, none⟩) := by simpa using hp
  simp only [results, h]
  simp [Sem.run_bind, hp2, asAddr, hrun, Result.andThen]
/-- What is stored in the result's cell. -/
theorem El0.out {w X Y : World} {B j : Nat} {tv ta : Value} {en a e : Int} {t : Tok} {nc : Array Value} (h : El0 w B tv j en a e t ta nc X) (hg : X.grownBy Y (some w.heap.size)) : RB Y B tv j en a e ∧ Keep (fun b => b = B) w Y := by
  refine ⟨h.rb.same (hg.block B h.rb.lt (fun q => by injection q with q; have := h.low; omega)), ?_⟩
  have k := h.keep
  have hs := h.size
  exact ⟨hg.os.trans k.os, hg.tape.trans k.tape, hg.output.trans k.output, Nat.le_trans k.size hg.size, fun b hb hA => (hg.block b (by omega) (fun q => by injection q with q; omega)).trans (k.block b hb hA)⟩
theorem El0.nodeset {w X : World} {B j : Nat} {tv ta : Value} {en a e : Int} {t : Tok} {c0 c1 c2 c3 c4 c5 : Value} (h : El0 w B tv j en a e t ta #[c0, c1, c2, c3, c4, c5] X) (x1 x2 : Value) : El0 w B tv j en a e t ta #[c0, x1, x2, c3, c4, c5] ((X.setCell ⟨w.heap.size + 2, 1, none⟩ x1).setCell ⟨w.heap.size + 2, 2, none⟩ x2) := by
  have hl := h.low
  have hk : Keep (fun b => w.heap.size ≤ b) X ((X.setCell ⟨w.heap.size + 2, 1, none⟩ x1).setCell ⟨w.heap.size + 2, 2, none⟩ x2) := (Keep.set (A := fun b => w.heap.size ≤ b) X (w.heap.size + 2) 1 x1 (by omega)).tr (Keep.set (A := fun b => w.heap.size ≤ b) _ (w.heap.size + 2) 2 x2 (by omega))
  refine ⟨⟨hk.os.trans h.keep.os, hk.tape.trans h.keep.tape, hk.output.trans h.keep.output, Nat.le_trans h.keep.size hk.size, fun b hb hA => (hk.block b (Nat.lt_of_lt_of_le hb h.keep.size) (by omega)).trans (h.keep.block b hb hA)⟩, hl, ?_, ?_, ?_, ?_⟩
  · exact h.rb.same (by rw [set_other _ _ _ _ _ (by omega), set_other _ _ _ _ _ (by omega)])
  · rw [set_other _ _ _ _ _ (by omega), set_other _ _ _ _ _ (by omega)]; exact h.res
  · rw [set_other _ _ _ _ _ (by omega), set_other _ _ _ _ _ (by omega)]; exact h.tok
  · simp [World.setCell, Array.getElem?_modify, h.nod]
theorem El0.attrset {w X Y : World} {B j : Nat} {tv ta v x3 : Value} {en a e : Int} {t : Tok} {c0 c1 c2 c4 c5 : Value} {sz n M : Nat} {ty : TypeId} {xs : List Value} (h : El0 w B tv j en a e t ta #[c0, c1, c2, v, c4, c5] X) (ho : X.ownsRow M ty sz v n xs) (hM : w.heap.size + 3 ≤ M) (hg : X.grownBy Y v.ownBlock) : El0 w B tv j en a e t ta #[c0, c1, c2, x3, c4, c5] (Y.setCell ⟨w.heap.size + 2, 3, none⟩ x3) := by
  have hl := h.low
  have hz := h.size
  have hne : ∀ b, b < w.heap.size + 3 → v.ownBlock ≠ some b := fun b hb q => by have := (ho.lt b q).1; omega
  have hk : ∀ b, b < w.heap.size + 3 → Y.heap[b]? = X.heap[b]? := fun b hb => hg.block b (by omega) (fun q => hne b hb q.symm)
  refine ⟨⟨hg.os.trans h.keep.os, hg.tape.trans h.keep.tape, hg.output.trans h.keep.output, by rw [set_size]; exact Nat.le_trans h.keep.size hg.size, fun b hb hA => ?_⟩, hl, ?_, ?_, ?_, ?_⟩
  · rw [set_other _ _ _ _ _ (by omega), hk b (by omega)]
    exact h.keep.block b hb hA
  · exact h.rb.same (by rw [set_other _ _ _ _ _ (by omega), hk B (by omega)])
  · rw [set_other _ _ _ _ _ (by omega), hk _ (by omega)]; exact h.res
  · rw [set_other _ _ _ _ _ (by omega), hk _ (by omega)]; exact h.tok
  · have := (hk (w.heap.size + 2) (by omega)).trans h.nod
    simp [World.setCell, Array.getElem?_modify, this]
theorem El0.grown {w X Y : World} {B j : Nat} {tv ta v : Value} {en a e : Int} {t : Tok} {nc : Array Value} {sz n M : Nat} {ty : TypeId} {xs : List Value} (h : El0 w B tv j en a e t ta nc X) (ho : X.ownsRow M ty sz v n xs) (hM : w.heap.size + 3 ≤ M) (hg : X.grownBy Y v.ownBlock) : El0 w B tv j en a e t ta nc Y := by
  have hl := h.low
  have hz := h.size
  have hne : ∀ b, b < w.heap.size + 3 → v.ownBlock ≠ some b := fun b hb q => by have := (ho.lt b q).1; omega
  have hk : ∀ b, b < w.heap.size + 3 → Y.heap[b]? = X.heap[b]? := fun b hb => hg.block b (by omega) (fun q => hne b hb q.symm)
  exact ⟨⟨hg.os.trans h.keep.os, hg.tape.trans h.keep.tape, hg.output.trans h.keep.output, Nat.le_trans h.keep.size hg.size, fun b hb hA => (hk b (by omega)).trans (h.keep.block b hb hA)⟩, hl, h.rb.same (hk B (by omega)), (hk _ (by omega)).trans h.res, (hk _ (by omega)).trans h.tok, (hk _ (by omega)).trans h.nod⟩
theorem El0.inside {w X Y : World} {B j j' : Nat} {tv ta : Value} {en a e a' e' : Int} {t : Tok} {nc nc' : Array Value} (h : El0 w B tv j en a e t ta nc X) (hk : Keep (fun b => b = B ∨ b = w.heap.size + 2) X Y) (hr : RB Y B tv j' en a' e') (hn : Y.heap[w.heap.size + 2]? = some (.cells nc' 32 (0, 0))) : El0 w B tv j' en a' e' t ta nc' Y := by
  have hl := h.low
  have hz := h.size
  exact ⟨⟨hk.os.trans h.keep.os, hk.tape.trans h.keep.tape, hk.output.trans h.keep.output, Nat.le_trans h.keep.size hk.size, fun b hb hA => (hk.block b (by omega) (by omega)).trans (h.keep.block b hb hA)⟩, hl, hr, (hk.block _ (by omega) (by omega)).trans h.res, (hk.block _ (by omega) (by omega)).trans h.tok, hn⟩
theorem GivX.grown {w X Y : World} {B : Nat} {u v : Value} {g : Sp} {sz n M : Nat} {ty : TypeId} {xs : List Value} (h : GivX w B X u g) (ho : X.ownsRow M ty sz v n xs) (hg : X.grownBy Y v.ownBlock) (hu : 0 < g.length → ∀ b, u.ownBlock = some b → b < M) : GivX w B Y u g :=
  ⟨⟨Row.same (by omega) h.1.row (fun hn b hb hl => hg.block b hl (fun q => by have := (ho.lt b q.symm).1; have := hu hn b hb; omega)), h.1.off, h.1.bare, h.1.spl⟩, h.2⟩
theorem GivX.nodeset {w X : World} {B : Nat} {u : Value} {g : Sp} (h : GivX w B X u g) (j : Nat) (v : Value) : GivX w B (X.setCell ⟨w.heap.size + 2, j, none⟩ v) u g :=
  ⟨⟨h.1.row.keep (keep_set X (w.heap.size + 2) j v) h.2, h.1.off, h.1.bare, h.1.spl⟩, h.2⟩
def OwnB (M : Nat) (X : World) (v : Value) (l : List Att) : Prop := OwnA M X v l ∧ M ≤ X.heap.size
theorem OwnB.later {M : Nat} {X Y : World} {v : Value} {l : List Att} (h : OwnB M X v l) (hb : Below X.heap.size X Y) : OwnB M Y v l := ⟨owns_later h.1 hb, Nat.le_trans h.2 hb.size⟩
theorem OwnB.fail {M B : Nat} {X Y : World} {v : Value} {l : List Att} (h : OwnB M X v l) (hk : Keep (fun b => b = B) X Y) (hB : B < M) : OwnB M Y v l := ⟨own_same h.1 (fun b hb => hk.block b (h.1.lt b hb).2 (by have := (h.1.lt b hb).1; omega)), Nat.le_trans h.2 hk.size⟩
theorem OwnA.slice {B : Nat} {w : World} {v : Value} {l : List Att} (h : OwnA B w v l) : ∃ o n c, v = .slice o n c := by
  rcases h.2 with ⟨rfl, _⟩ | ⟨g, cap, cur, rfl, _⟩ <;> exact ⟨_, _, _, rfl⟩
/-- One attribute more. -/
theorem app_after {w Z : World} {B j M : Nat} {tv ta av u1 : Value} {en a e : Int} {t : Tok} {c0 c1 c2 c4 c5 : Value} {al : List Att} {g1 : Sp} {V s' vl : List UInt8} (h : El0 w B tv j en a e t ta #[c0, c1, c2, av, c4, c5] Z) (ho : Z.ownsRow M 61 3 av al.length (al.flatMap attCells)) (hM : w.heap.size + 3 ≤ M) (hu : 0 < g1.length → ∀ b, u1.ownBlock = some b → b < M) (hg : GivX w B Z u1 g1) (hz : M ≤ Z.heap.size) :
    ∀ (g9 cap9 : Nat) (w9 : World), w9.ownsRow M 61 3 (.slice (some ⟨g9, 0, none⟩) (al.length + 1) cap9) (al.length + 1) (al.flatMap attCells ++ [.string (text V), .string (text s'), .string (text vl)]) → Z.grownBy w9 av.ownBlock →
      w9.cell? ⟨w.heap.size + 2, 3, none⟩ = some av ∧ w9.frozen? ⟨w.heap.size + 2, 3, none⟩ = false ∧
      Hid (El0 w B tv j en a e t ta #[c0, c1, c2, .slice (some ⟨g9, 0, none⟩) (al.length + 1) cap9, c4, c5] (w9.setCell ⟨w.heap.size + 2, 3, none⟩ (.slice (some ⟨g9, 0, none⟩) (al.length + 1) cap9))) ∧
      Hid (OwnB M (w9.setCell ⟨w.heap.size + 2, 3, none⟩ (.slice (some ⟨g9, 0, none⟩) (al.length + 1) cap9)) (.slice (some ⟨g9, 0, none⟩) (al.length + 1) cap9) (al ++ [⟨(V, s'), vl⟩])) ∧
      Hid (GivX w B (w9.setCell ⟨w.heap.size + 2, 3, none⟩ (.slice (some ⟨g9, 0, none⟩) (al.length + 1) cap9)) u1 g1) := by
  intro g9 cap9 w9 hown hgr
  have h9 := h.grown ho hM hgr
  refine ⟨h9.ncell 3 _ rfl, h9.nfroz 3, hid (h.attrset ho hM hgr), hid ⟨own_same (OwnA.snoc hown) (fun b hb => set_other _ _ _ _ _ (by have := (hown.lt b hb).1; omega)), by rw [set_size]; exact Nat.le_trans hz hgr.size⟩, hid ((hg.grown ho hgr hu).nodeset 3 _)⟩
theorem IsN.fin {w X Y : World} {n : Node} {av kv : Value} (h : IsN X (fun b => b < w.heap.size + 3) n av kv) (hg : X.grownBy Y (some w.heap.size)) : IsN Y (fun b => b < w.heap.size) n av kv :=
  h.to (fun b _ hb => by omega) (Keep.of_grown hg (fun b q => by injection q with q; omega))
set_option maxHeartbeats 2000000 in
theorem inside_err {w : World} {B Nb i deep : Nat} {tv lv : Value} {name : List UInt8} {en a e : Int} (h : RB w B tv i en a e) (he : e ≠ 0) :
    Calls Tryz.prog 26 #[.pointer (some ⟨B, 0, none⟩), .pointer (some ⟨Nb, 0, none⟩), .string (text name), lv, .int .i64 deep] w fun r w' => r = .returned (.tuple #[]) ∧ w = w' := by
  have r4 := h.cells.2.2.2.2
  have q : (e == 0) = false := by rw [beq_eq_false_iff_ne]; exact he
  clear h he
  go_enter Tryz.func26, Tryz.ntmps26
  go_wp2_with fail
  go_loopg [10] 0 (fun gk sv X => sv = .bool false ∧ w = X)
  case atStart => exact ⟨rfl, rfl⟩
  case round =>
    obtain ⟨rfl, rfl⟩ := hrel
    go_wp2
    go_end0
    exact ⟨rfl, rfl⟩
/-- An attribute's name is told, or it was wrong. -/
def T4b (g0 : Sp) (t : Tok) (g : Sp) (nm : Nm) (n : Nat) (al : List Att) (w : List UInt8) (x : Nm) (a e : Int) : Prop := (NmT g w x ∧ T4 g0 t g nm n al a e) ∨ ErrS (headW g0 t) a e
/-- No one of the first k has that name, or it was wrong. -/
def T5 (g0 : Sp) (t : Tok) (g : Sp) (nm : Nm) (n : Nat) (al : List Att) (w : List UInt8) (x : Nm) (k : Nat) (a e : Int) : Prop := ((∀ j (hj : j < al.length), j < k → al[j].nm ≠ x) ∧ T4b g0 t g nm n al w x a e) ∨ ErrS (headW g0 t) a e
section
variable {g0 g : Sp} {t : Tok} {nm x : Nm} {n k : Nat} {al : List Att} {a e : Int}
theorem T5.miss {w : List UInt8} (h : T5 g0 t g nm n al w x k a e) (hk : k < al.length) (hx : al[k].nm ≠ x) : T5 g0 t g nm n al w x (k + 1) a e := by
  rcases h with ⟨h1, h2⟩ | h
  · refine .inl ⟨fun j hj hjk => ?_, h2⟩
    by_cases c : j = k
    · subst c; exact hx
    · exact h1 j hj (by omega)
  · exact .inr h
theorem T5.hit (h : T5 g0 t g nm n al (t.attrs[n]?.map (·.name) |>.getD []) x k a e) (hn : n < t.attrs.length) (hg : givesB t.attrs[n].name = false) (hk : k < al.length) (hx : al[k].nm = x) : T5 g0 t g nm n al (t.attrs[n]?.map (·.name) |>.getD []) x (k + 1) (fstA a e t.attrs[n].place) (fstE e 8) := by
  have hw : (t.attrs[n]?.map (·.name) |>.getD []) = t.attrs[n].name := by rw [List.getElem?_eq_getElem hn]; rfl
  rcases h with ⟨h1, h2 | h2⟩ | h
  · rw [hw] at h2
    exact .inr (h2.2.twice hn hg h2.1 ⟨k, hk, hx⟩)
  · exact .inr (h2.fst _ _)
  · exact .inr (h.fst _ _)
theorem T5.done (h : T5 g0 t g nm n al (t.attrs[n]?.map (·.name) |>.getD []) x k a e) (hn : n < t.attrs.length) (hg : givesB t.attrs[n].name = false) (hk : al.length ≤ k) : T4 g0 t g nm (n + 1) (al ++ [⟨x, t.attrs[n].value⟩]) a e := by
  have hw : (t.attrs[n]?.map (·.name) |>.getD []) = t.attrs[n].name := by rw [List.getElem?_eq_getElem hn]; rfl
  rcases h with ⟨h1, h2 | h2⟩ | h
  · rw [hw] at h2
    exact h2.2.more hn hg h2.1 (fun j hj => h1 j hj (by omega))
  · exact .inr h2
  · exact .inr h
end
theorem two_one {q vl : List UInt8} : ∀ u ∈ [Value.string (text q), .string (text vl)], u.oneCell' = true := by simp [Value.oneCell']
theorem row_grown {sz n a b len cap : Nat} {w w' : World} {xs : List Value} (h : Row sz w (.slice (some ⟨a, 0, none⟩) len cap) n xs) (hg : w.grownBy w' (some b)) (hne : a ≠ b) (hs : 0 < sz := by decide) : Row sz w' (.slice (some ⟨a, 0, none⟩) len cap) n xs :=
  Row.same hs h (fun _ c hc hl => hg.block c hl (fun e2 => hne (by simp [Value.ownBlock] at hc e2; omega)))
theorem sizeNode6 : (Tryz.prog.info? 32).map (·.size) = some 6 := by kernel_rfl
theorem putSix {w : World} {b : Nat} {a0 a1 a2 a3 a4 a5 : Value} {ty : TypeId} (h : w.heap[b]? = some (.cells #[a0, a1, a2, a3, a4, a5] ty (0, 0))) (x0 x1 x2 x3 x4 x5 : Value) :
    ((((((w.setCell ⟨b, 0, none⟩ x0).setCell ⟨b, 1, none⟩ x1).setCell ⟨b, 2, none⟩ x2).setCell ⟨b, 3, none⟩ x3).setCell ⟨b, 4, none⟩ x4).setCell ⟨b, 5, none⟩ x5).heap[b]? = some (.cells #[x0, x1, x2, x3, x4, x5] ty (0, 0)) ∧
      w.grownBy ((((((w.setCell ⟨b, 0, none⟩ x0).setCell ⟨b, 1, none⟩ x1).setCell ⟨b, 2, none⟩ x2).setCell ⟨b, 3, none⟩ x3).setCell ⟨b, 4, none⟩ x4).setCell ⟨b, 5, none⟩ x5) (some b) := by
  refine ⟨by simp [World.setCell, Array.getElem?_modify, h], ?_⟩
  exact Kept.trans (Kept.trans (Kept.trans (Kept.trans (Kept.trans (Kept.put b 0 w x0) (Kept.put b 1 _ x1)) (Kept.put b 2 _ x2)) (Kept.put b 3 _ x3)) (Kept.put b 4 _ x4)) (Kept.put b 5 _ x5)
theorem bare_is (w : World) (A : Nat → Prop) (p : Int) : IsN w A (.mk p ([], []) [] [] []) (.slice none 0 0) (.slice none 0 0) := IsN.of (Atts.nil _ _) (Kids.nil _ _)
theorem OwnA.off {B : Nat} {w : World} {A : Nat → Prop} {v : Value} {l : List Att} (h : OwnA B w v l) (hn : l.length ≤ 281474976710656) (hA : ∀ b, A b → b < B) : Atts w A v l :=
  ⟨Row.ofOwns h hn, fun _ b hb hx => by have := (h.lt b hb).1; have := hA b hx; omega⟩
set_option maxHeartbeats 16000000 in
theorem relement_any {ts : List Tok} {tv : Value} {W0 : World} {B : Nat} {en : Int} {N : Nat} (hE : Env ts tv W0) (hB : W0.heap.size ≤ B) (ih : InsOk ts tv W0 B en N)
    (w : World) (i : Nat) (a : Int) (lv : Value) (g : Sp) (deep f : Nat) (h0 : Below W0.heap.size W0 w) (hr : RB w B tv i en a 0) (hg : GivO w B lv g) (hgl : g.length ≤ 2 + 1048576 * (deep - 1)) (hd : deep ≤ 201) (hd1 : 1 ≤ deep) (hi : i < ts.length) (hN : ts.length - (i + 1) ≤ N) (hf : ts.length - (i + 1) < f) (hki : ts[i].kind = 0 ∨ ts[i].kind = 2) :
    Calls Tryz.prog 14 #[.pointer (some ⟨B, 0, none⟩), lv, .int .i64 deep] w (GotRE w B tv ts i en (elemW (fun g n d r => insF f g n d [] [] r) g deep ts[i] (ts.drop (i + 1)))) := by
  have hBl := hr.lt
  have hBW : W0.heap.size ≤ w.heap.size := h0.size
  obtain ⟨bp, op, ta, ip, t0', t1', t2', t3', hpr⟩ := hE.toks.at (P := Tryz.prog) i hi 22 45 undT sizT
  obtain ⟨ao, an, ac, rfl⟩ : ∃ o n c, ta = .slice o n c := by
    obtain ⟨⟨b, c, hb, _⟩, _⟩ := hpr
    exact ⟨_, _, _, hb⟩
  have hbp : bp < w.heap.size := Nat.lt_of_lt_of_le (World.block_lt_of_cell? _ _ t0') h0.size
  have t0 := (h0.cell (p := ⟨bp, op, none⟩) (World.block_lt_of_cell? _ _ t0')).trans t0'
  have t1 := (h0.cell (p := ⟨bp, op + 1, none⟩) (World.block_lt_of_cell? _ _ t1')).trans t1'
  have t2 := (h0.cell (p := ⟨bp, op + 2, none⟩) (World.block_lt_of_cell? _ _ t2')).trans t2'
  have t3 := (h0.cell (p := ⟨bp, op + 3, none⟩) (World.block_lt_of_cell? _ _ t3')).trans t3'
  clear t0' t1' t2' t3'
  have ip' := ip .i64
  clear ip
  have hfit := hE.fit ts[i] (List.getElem_mem hi)
  have hnmt := hE.names ts[i] (List.getElem_mem hi)
  have htl : ts.length ≤ 1000000 := hE.few
  obtain ⟨r0, r1, r2, r3, r4⟩ := hr.cells
  have f1 := hr.frozen 1
  have mixed : Tryz.prog.follows Departure.mixedOrders = true := by kernel_rfl
  generalize ts[i] = t at *
  have ES := hid (El0.start (ta := .slice ao an ac) (t := t) hr)
  have HR := hid hr
  have H0 := hid h0
  have HG := hid hg
  have HE := hid hE
  have HIH := hid ih
  have HNT := hid hnmt
  have HPR := hid hpr
  clear hr h0 hg hE ih hnmt hpr
  obtain ⟨hfl, hfa, hfs⟩ := hfit
  have HFA := hid hfa
  clear hfa
  have wi : IntKind.i64.wrap ((i : Int) + 1) = (i : Int) + 1 := IntWalk.i64_in _ ⟨by omega, by omega⟩
  by_cases hdd : 200 < deep
  · have E := hid (show elemW (fun g n d r => insF f g n d [] [] r) g deep t (ts.drop (i + 1)) = .error (some (t.place, 9)) by unfold elemW; rw [if_pos hdd])
    have dd : decide ((200 : Int) < (deep : Int)) = true := by rw [decide_eq_true_iff]; omega
    clear hdd
    go_enter Tryz.func14, Tryz.ntmps14
    go_wp2_with fail
    go_region_o
    go_wp2_with fail
    refine (fail_any t.place 9 _ ES.out.rb).mono ?_
    rintro e w1 ⟨rfl, hr1, hk1⟩
    have HEl := hid (ES.out.rbs hr1 hk1)
    clear hr1 hk1 t0 t1 t2 t3 r0 r1 r2 r3 r4 f1
    have rc0 := HEl.out.rcell 0 _ rfl
    have rc1 := HEl.out.rcell 1 _ rfl
    have rc2 := HEl.out.rcell 2 _ rfl
    have rc3 := HEl.out.rcell 3 _ rfl
    have rc4 := HEl.out.rcell 4 _ rfl
    have rc5 := HEl.out.rcell 5 _ rfl
    have rf0 := HEl.out.rfroz 0
    have rf1 := HEl.out.rfroz 1
    have rf2 := HEl.out.rfroz 2
    have rf3 := HEl.out.rfroz 3
    have rf4 := HEl.out.rfroz 4
    have rf5 := HEl.out.rfroz 5
    have nc0 := HEl.out.ncell 0 _ rfl
    have nc1 := HEl.out.ncell 1 _ rfl
    have nc2 := HEl.out.ncell 2 _ rfl
    have nc3 := HEl.out.ncell 3 _ rfl
    have nc4 := HEl.out.ncell 4 _ rfl
    have nc5 := HEl.out.ncell 5 _ rfl
    go_wp2
    obtain ⟨p4, g4⟩ := putSix HEl.out.res (.int .i64 t.place) (.string ⟨#[]⟩) (.string ⟨#[]⟩) (.slice none 0 0) (.slice none 0 0) (.string ⟨#[]⟩)
    obtain ⟨hrb, hkp⟩ := HEl.out.out g4
    refine bodyPost_ret (results_cell rfl _ _ _ _ rfl (run_loadVar_row _ _ _ _ _ _ _ p4 Tryz.underlying32 rfl sizeNode6)) rfl ?_
    rw [E.out]
    exact ⟨.mk t.place ([], []) [] [] [], none, 0, 0, none, 0, 0, i + 1, _, _, rfl, bare_is _ _ _, hrb, hkp, by omega, by omega, ⟨by simp [fstE], by simp [fstA, wrOf], by simp [fstE, wrOf]⟩⟩
  · have dd : decide ((200 : Int) < (deep : Int)) = false := by rw [decide_eq_false_iff_not]; omega
    have HEH := hid (elemW_head (fun g n d r => insF f g n d [] [] r) g deep t (ts.drop (i + 1)) hdd)
    have hdl : deep ≤ 200 := by omega
    clear hdd
    obtain ⟨i0, hi0, hz0, hz1, hz2⟩ := info_parts infoG
    obtain ⟨j0, hj0, hy0, hy1, hy2⟩ := info_parts infoA
    have HI := hid hi0
    have HJ := hid hj0
    have HT0 := hid (show T1 g t 0 g a 0 from .inl ⟨rfl, by rw [List.drop_zero]⟩)
    have HG0 : Hid (GivX w B w lv g) := hid ⟨HG.out, fun hn b hb e => by have := Row.blk (by omega) HG.out.row hn hb; omega⟩
    have HGW := hid (fun (X : World) (h : Keep (fun b => b = B) w X) => HG0.out.keep h)
    have HNA := hid HNT.out.2
    obtain ⟨tp, tsf, hsp⟩ : ∃ p s, splitO t.s = some (p, s) := by
      cases hq : splitO t.s with
      | none => exact absurd hq (HNT.out.1 (by omega))
      | some x => exact ⟨x.1, x.2, rfl⟩
    have SPT := hid (fun X => by have := RSplit_any t.s (by omega) X; rw [show splitA t.s = tp by unfold splitA; rw [hsp], show splitB t.s = tsf by unfold splitB; rw [hsp]] at this; exact this)
    have HSP := hid hsp
    have plen := fun X => HPR.out.len (P := Tryz.prog) 43 3 73 undP X
    clear hi0 hj0 hsp
    go_enter Tryz.func14, Tryz.ntmps14
    go_wp2_with fail
    go_region_o
    go_wp2_with fail
    clear t0 t1 t2 t3 r0 r1 r2 r3 r4 f1 dd wi ip'
    go_loopg [9, 1] t.attrs.length (fun gk iv lv1 X => ∃ (n : Nat) (g1 : Sp) (a1 e1 : Int), iv = .int .i64 n ∧ n + gk = t.attrs.length ∧ g1.length ≤ g.length + n ∧ Hid (T1 g t n g1 a1 e1) ∧ Hid (El0 w B tv (i + 1) en a1 e1 t (.slice ao an ac) #[.int .i64 t.place, .string ⟨#[]⟩, .string ⟨#[]⟩, .slice none 0 0, .slice none 0 0, .string ⟨#[]⟩] X) ∧ Hid (GivX w B X lv1 g1))
    case atStart => exact ⟨0, g, a, 0, rfl, by omega, by omega, HT0, ES, hid (HGW.out _ ES.out.keep)⟩
    case round =>
      rename World => X
      obtain ⟨n, g1, a1, e1, rfl, hng, hgn, HT, HEl, HGX⟩ := hrel
      have x3 := HEl.out.tcell.2.2.2
      by_cases hn : n < t.attrs.length
      · have HXX := hid (Keep.below H0.out HEl.out.keep (fun b hb => by rw [hb]; exact hB))
        obtain ⟨bq, oq, iq0, d0, d1, d2⟩ := (HPR.out.below HXX.out (Nat.le_refl _)).at (P := Tryz.prog) n hn 43 73 undP sizPr
        have iq := iq0 .i64
        have hft := HFA.out t.attrs[n] (List.getElem_mem hn)
        have hso := HNA.out t.attrs[n] (List.getElem_mem hn)
        have K1 := hid (fun h => HT.out.skip hn h)
        have K2 := hid (fun g' h h2 => HT.out.bad (g' := g') hn h h2)
        have K3 := hid (fun h h2 => HT.out.more hn h h2)
        generalize hpi : t.attrs[n] = p at *
        have HPI := hid hpi
        clear hpi iq0 HXX
        obtain ⟨pk, nm, vl⟩ := p
        dsimp only at *
        have GV := fun X => rgives_any nm X hso (by omega)
        have hvl : vl.length ≤ 4000000 := hft.2
        cases hgv : givesB nm with
        | false =>
          rw [hgv] at GV
          have GVV := hid GV
          have KK := hid (K1.out hgv)
          clear GV hgv hso hft
          go_wp2_with fail
          refine (GVV.out _).mono ?_
          rintro e w1 ⟨⟨q, rfl, _⟩, hb1⟩
          have HEl1 := hid (HEl.out.later hb1)
          have HGX1 := hid (HGX.out.below hb1)
          clear hb1 d0 d1 d2 x3
          go_wp2
          go_roundg (gk - 1)
          case measure => omega
          case rel => exact ⟨n + 1, g1, a1, e1, by go_num, by omega, by omega, KK, HEl1, HGX1⟩
        | true =>
          rw [hgv] at GV
          have GVV := hid GV
          have HGV := hid hgv
          clear GV hgv hso hft
          go_wp2_with fail
          refine (GVV.out _).mono ?_
          rintro e w1 ⟨⟨q, rfl, hq⟩, hb1⟩
          have hq' := hq (by simp)
          have HEl1 := hid (HEl.out.later hb1)
          have HGX1 := hid (HGX.out.below hb1)
          have MAY := rmay_any (givenTo nm) vl
          have e0 : mayB ⟨pk, nm, vl⟩ = mayP (givenTo nm) vl := rfl
          rw [← e0] at MAY
          have KB := hid (fun g' h2 => K2.out g' HGV.out h2)
          have KM := hid (fun h2 => K3.out HGV.out h2)
          generalize givenTo nm = q1 at *
          subst hq'
          clear hb1 d0 d1 d2 x3 iq hq e0
          have HXX := hid (Keep.below H0.out HEl1.out.keep (fun b hb => by rw [hb]; exact hB))
          obtain ⟨bq, oq, iq0, d0, d1, d2⟩ := (HPR.out.below HXX.out (Nat.le_refl _)).at (P := Tryz.prog) n hn 43 73 undP sizPr
          rw [HPI.out] at d0 d1 d2
          have iq := iq0 .i64
          have x3 := HEl1.out.tcell.2.2.2
          clear iq0
          obtain ⟨m, hm⟩ : ∃ m, mayB ⟨pk, nm, vl⟩ = m := ⟨_, rfl⟩
          rw [hm] at MAY
          have HMAY := hid MAY
          have HMM := hid hm
          clear MAY hm
          go_wp2_with fail
          refine (HMAY.out _).mono ?_
          rintro e _ ⟨rfl, rfl⟩
          go_upto_if 76 with fail
          go_cut [10] from 49 to 97 (fun sq wx => sq = .string (text q) ∧ ∃ a2 e2, Hid (El0 w B tv (i + 1) en a2 e2 t (.slice ao an ac) #[.int .i64 t.place, .string ⟨#[]⟩, .string ⟨#[]⟩, .slice none 0 0, .slice none 0 0, .string ⟨#[]⟩] wx) ∧ Hid (GivX w B wx u1 g1) ∧ Hid (T1 g t (n + 1) ((q, vl) :: g1) a2 e2))
          case first =>
            cases m with
            | true =>
              have KK := hid (KM.out HMM.out)
              go_wp2_with fail
              go_meet
              exact ⟨rfl, a1, e1, HEl1, HGX1, KK⟩
            | false =>
              have KK := hid (KB.out ((q, vl) :: g1) HMM.out)
              go_wp2_with fail
              refine (fail_any pk 2 _ HEl1.out.rb).mono ?_
              rintro e w2 ⟨rfl, hr1, hk1⟩
              have HEl2 := hid (HEl1.out.rbs hr1 hk1)
              have HGX2 := hid (HGX1.out.keep hk1)
              clear hr1 hk1
              go_wp2_with fail
              go_meet
              exact ⟨rfl, _, _, HEl2, HGX2, KK⟩
          case rest =>
            obtain ⟨rfl, a2, e2, HEl2, HGX2, KK⟩ := hcut
            clear d0 d1 d2 x3 iq
            have HXX := hid (Keep.below H0.out HEl2.out.keep (fun b hb => by rw [hb]; exact hB))
            obtain ⟨bq, oq, iq0, d0, d1, d2⟩ := (HPR.out.below HXX.out (Nat.le_refl _)).at (P := Tryz.prog) n hn 43 73 undP sizPr
            rw [HPI.out] at d0 d1 d2
            have iq := iq0 .i64
            have x3 := HEl2.out.tcell.2.2.2
            clear iq0
            have HG := hid HGX2.out.1
            go_wp2_with fail
            have HB1 := hid (show (0 + g1.length) * 32 ≤ 140737488355328 by omega)
            have HB2 := hid (show 0 + g1.length ≤ maxLen by unfold maxLen; omega)
            have HB3 := hid (show (g1.length + 1) * 32 ≤ 140737488355328 by omega)
            have HB4 := hid (show g1.length + 1 ≤ maxLen by unfold maxLen; omega)
            have HLT := hid (World.block_lt_of_cell? _ _ d2)
            have HLX := hid (World.block_lt_of_cell? _ _ x3)
            have hlt1 : bq < wc.heap.size := HLT.out
            have hlx1 : w.heap.size + 1 < wc.heap.size := HLX.out
            have HW1 := hid (show Below wc.heap.size wc (wc.alloc (.cells #[] 58)).drew from bdrewB (ba (b0 wc) _) 1)
            have HW2 := hid (show Below wc.heap.size wc ((wc.alloc (.cells #[] 58)).alloc (.cells #[.string (text q), .string (text vl)] 58)).drew from bdrewB (ba (ba (b0 wc) _) _) 1)
            have HW3 := hid (show Below wc.heap.size wc ((wc.alloc (.cells #[.string (text q), .string (text vl)] 58)).alloc (.cells #[] 58)).drew from bdrewB (ba (ba (b0 wc) _) _) 1)
            have HE1 := hid (show (wc.alloc (.cells #[] 58)).drew.ownsRow wc.heap.size 58 2 (.slice (some ⟨wc.heap.size, 0, none⟩) 0 0) 0 [] from (owns_empty wc 58 2 wc.heap.size (Nat.le_refl _) : (wc.alloc (.cells #[] 58)).ownsRow wc.heap.size 58 2 (.slice (some ⟨wc.heap.size, 0, none⟩) 0 0) 0 []))
            have HE2 := hid (show ((wc.alloc (.cells #[] 58)).alloc (.cells #[.string (text q), .string (text vl)] 58)).drew.ownsRow wc.heap.size 58 2 (.slice (some ⟨wc.heap.size, 0, none⟩) 0 0) 0 [] from (owns_later (owns_empty wc 58 2 wc.heap.size (Nat.le_refl _)) (ba (b0 _) (.cells #[.string (text q), .string (text vl)] 58)) : ((wc.alloc (.cells #[] 58)).alloc (.cells #[.string (text q), .string (text vl)] 58)).ownsRow wc.heap.size 58 2 (.slice (some ⟨wc.heap.size, 0, none⟩) 0 0) 0 []))
            have HE3 := hid (show ((wc.alloc (.cells #[.string (text q), .string (text vl)] 58)).alloc (.cells #[] 58)).drew.ownsRow wc.heap.size 58 2 (.slice (some ⟨wc.heap.size + 1, 0, none⟩) 0 0) 0 [] from by
              have := owns_empty (wc.alloc (.cells #[.string (text q), .string (text vl)] 58)) 58 2 wc.heap.size (by simp)
              rw [World.size_alloc] at this
              exact this)
            have HZA := hid (show Row 2 ((wc.alloc (.cells #[] 58)).alloc (.cells #[.string (text q), .string (text vl)] 58)).drew (.slice (some ⟨wc.heap.size + 1, 0, none⟩) 1 1) 1 [.string (text q), .string (text vl)] from by
              have := Row.ofBuild (sz := 2) (wc.alloc (.cells #[] 58)) #[.string (text q), .string (text vl)] 58 1 rfl (by omega)
              rw [World.size_alloc] at this
              exact this.below (bdrewB (b0 _) 1) (Nat.le_refl _))
            have HZB := hid (show Row 2 ((wc.alloc (.cells #[.string (text q), .string (text vl)] 58)).alloc (.cells #[] 58)).drew (.slice (some ⟨wc.heap.size, 0, none⟩) 1 1) 1 [.string (text q), .string (text vl)] from
              (Row.ofBuild (sz := 2) wc #[.string (text q), .string (text vl)] 58 1 rfl (by omega)).below (bdrewB (ba (b0 _) (.cells #[] 58)) 1) (Nat.le_refl _))
            have HMK := hid (givX_new (w := w) (B := B) (q := q) (vl := vl) (g := g1) (show w.heap.size + 3 ≤ wc.heap.size from HEl2.out.size) HEl2.out.low HG.out.bare HG.out.spl hvl (by omega))
            obtain ⟨vA, wA, hrA, hoA, hgA⟩ := run_append_row (P := Tryz.prog) (w := (wc.alloc (.cells #[] 58)).drew) wc.heap.size 59 59 58 i0 _ 2 32 undG HI.out hz0 hz1 hz2 rfl (by decide) (.slice (some ⟨wc.heap.size, 0, none⟩) 0 0) 0 [] HE1.out u1 g1.length (g1.reverse.flatMap gcells) (HG.out.row.below HW1.out) (gcells_one _) HB1.out HB2.out HW1.out.size
            have bA := grown_below HW1.out HE1.out (Nat.le_refl _) hgA
            have owA : wA.ownsRow wc.heap.size 58 2 vA g1.length (g1.reverse.flatMap gcells) := by simpa using hoA
            have c9A : wA.cell? ⟨bq, oq + 2, none⟩ = some (.string (text vl)) := (bA.cell (p := ⟨bq, oq + 2, none⟩) HLT.out).trans d2
            have x9A : wA.cell? ⟨w.heap.size + 1, 3, none⟩ = some (.slice ao an ac) := (bA.cell (p := ⟨w.heap.size + 1, 3, none⟩) HLX.out).trans x3
            obtain ⟨v2A, w2A, hr2A, ho2A, hg2A⟩ := run_append_row (P := Tryz.prog) (w := wA.alloc (.cells #[.string (text q), .string (text vl)] 58)) wc.heap.size 59 59 58 i0 _ 2 32 undG HI.out hz0 hz1 hz2 rfl (by decide) vA g1.length (g1.reverse.flatMap gcells) (owns_later owA (ba (b0 wA) (.cells #[.string (text q), .string (text vl)] 58))) (.slice (some ⟨wA.heap.size, 0, none⟩) 1 1) 1 [.string (text q), .string (text vl)] (Row.ofBuild (sz := 2) wA #[.string (text q), .string (text vl)] 58 1 rfl (by decide)) two_one HB3.out HB4.out (ba bA (.cells #[.string (text q), .string (text vl)] 58)).size
            have HBA := hid (grown_below (ba bA (.cells #[.string (text q), .string (text vl)] 58)) (owns_later owA (ba (b0 wA) (.cells #[.string (text q), .string (text vl)] 58))) (Nat.le_refl _) hg2A)
            have HOA := hid (HMK.out w2A v2A ho2A)
            clear hoA hgA owA ho2A hg2A bA
            obtain ⟨vB, wB, hrB, hoB, hgB⟩ := run_append_row (P := Tryz.prog) (w := ((wc.alloc (.cells #[] 58)).alloc (.cells #[.string (text q), .string (text vl)] 58)).drew) wc.heap.size 59 59 58 i0 _ 2 32 undG HI.out hz0 hz1 hz2 rfl (by decide) (.slice (some ⟨wc.heap.size, 0, none⟩) 0 0) 0 [] HE2.out u1 g1.length (g1.reverse.flatMap gcells) (HG.out.row.below HW2.out) (gcells_one _) HB1.out HB2.out HW2.out.size
            have bB := grown_below HW2.out HE2.out (Nat.le_refl _) hgB
            have owB : wB.ownsRow wc.heap.size 58 2 vB g1.length (g1.reverse.flatMap gcells) := by simpa using hoB
            obtain ⟨v2B, w2B, hr2B, ho2B, hg2B⟩ := run_append_row (P := Tryz.prog) (w := wB) wc.heap.size 59 59 58 i0 _ 2 32 undG HI.out hz0 hz1 hz2 rfl (by decide) vB g1.length (g1.reverse.flatMap gcells) owB (.slice (some ⟨wc.heap.size + 1, 0, none⟩) 1 1) 1 [.string (text q), .string (text vl)] (row_grown HZA.out hgB (Nat.succ_ne_self _)) two_one HB3.out HB4.out bB.size
            have HBB := hid (grown_below bB owB (Nat.le_refl _) hg2B)
            have HOB := hid (HMK.out w2B v2B ho2B)
            clear hoB hgB owB ho2B hg2B bB
            obtain ⟨vC, wC, hrC, hoC, hgC⟩ := run_append_row (P := Tryz.prog) (w := ((wc.alloc (.cells #[.string (text q), .string (text vl)] 58)).alloc (.cells #[] 58)).drew) wc.heap.size 59 59 58 i0 _ 2 32 undG HI.out hz0 hz1 hz2 rfl (by decide) (.slice (some ⟨wc.heap.size + 1, 0, none⟩) 0 0) 0 [] HE3.out u1 g1.length (g1.reverse.flatMap gcells) (HG.out.row.below HW3.out) (gcells_one _) HB1.out HB2.out HW3.out.size
            have bC := grown_below HW3.out HE3.out (Nat.le_refl _) hgC
            have owC : wC.ownsRow wc.heap.size 58 2 vC g1.length (g1.reverse.flatMap gcells) := by simpa using hoC
            obtain ⟨v2C, w2C, hr2C, ho2C, hg2C⟩ := run_append_row (P := Tryz.prog) (w := wC) wc.heap.size 59 59 58 i0 _ 2 32 undG HI.out hz0 hz1 hz2 rfl (by decide) vC g1.length (g1.reverse.flatMap gcells) owC (.slice (some ⟨wc.heap.size, 0, none⟩) 1 1) 1 [.string (text q), .string (text vl)] (row_grown HZB.out hgC (Nat.succ_ne_self _).symm) two_one HB3.out HB4.out bC.size
            have HBC := hid (grown_below bC owC (Nat.le_refl _) hg2C)
            have HOC := hid (HMK.out w2C v2C ho2C)
            clear hoC hgC owC ho2C hg2C bC
            clear HW1 HW2 HW3 HE1 HE2 HE3 HZA HZB HMK HLT HLX HB1 HB2 HB3 HB4
            go_region_o
            all_goals go_wp2
            all_goals go_roundg (gk - 1)
            all_goals first
              | omega
              | exact ⟨n + 1, (q, vl) :: g1, _, _, by go_num, by omega, by simp; omega, KK, hid (HEl2.out.later HBA.out), HOA⟩
              | exact ⟨n + 1, (q, vl) :: g1, _, _, by go_num, by omega, by simp; omega, KK, hid (HEl2.out.later HBB.out), HOB⟩
              | exact ⟨n + 1, (q, vl) :: g1, _, _, by go_num, by omega, by simp; omega, KK, hid (HEl2.out.later HBC.out), HOC⟩
      · have x2 := HEl.out.tcell.2.2.1
        have hg1 : g1.length ≤ 1000000000 := by omega
        obtain ⟨R, hR⟩ : ∃ R, get g1 tp = R := ⟨_, rfl⟩
        have SPA := fun (Y : World) (h : GivX w B Y u1 g1) => space_any u1 g1 tp Y h.1.row (by omega)
        rw [hR] at SPA
        obtain ⟨U, hU⟩ : ∃ U, R.getD [] = U := ⟨_, rfl⟩
        obtain ⟨ok, hok⟩ : ∃ ok, R.isSome = ok := ⟨_, rfl⟩
        rw [hU, hok] at SPA
        have HSPA := hid SPA
        have KY := hid (show ok = true → T3 g t g1 (U, tsf) a1 e1 from fun h => by
          have := HT.out.name (by omega) HSP.out (by rw [hR]; intro c; rw [c] at hok; rw [← hok] at h; cases h)
          rw [hR, hU] at this
          exact this)
        have KN := hid (show ok = false → T3 g t g1 (U, tsf) (fstA a1 e1 t.place) (fstE e1 7) from fun h => HT.out.noname (by omega) HSP.out (by rw [hR]; cases R with | none => rfl | some v => rw [← hok] at h; cases h) HGX.out.1.bare)
        clear SPA hR hU hok
        go_wp2_with fail
        refine (SPT.out _).mono ?_
        rintro e w1 ⟨rfl, hb1⟩
        have HEl1 := hid (HEl.out.later hb1)
        have HGX1 := hid (HGX.out.below hb1)
        have x1 := HEl1.out.tcell.2.1
        clear hb1 x2 x3
        go_wp2_with fail
        refine (HSPA.out _ HGX1.out).mono ?_
        rintro e _ ⟨rfl, rfl⟩
        go_upto_if 112 with fail
        go_cut [15] from 98 to 116 (fun su wx => su = .string (text U) ∧ ∃ a2 e2, Hid (El0 w B tv (i + 1) en a2 e2 t (.slice ao an ac) #[.int .i64 t.place, .string ⟨#[]⟩, .string ⟨#[]⟩, .slice none 0 0, .slice none 0 0, .string ⟨#[]⟩] wx) ∧ Hid (GivX w B wx u1 g1) ∧ Hid (T3 g t g1 (U, tsf) a2 e2))
        case first =>
          cases ok with
          | true =>
            have KK := hid (KY.out rfl)
            go_wp2_with fail
            go_meet
            exact ⟨rfl, a1, e1, HEl1, HGX1, KK⟩
          | false =>
            have KK := hid (KN.out rfl)
            go_wp2_with fail
            refine (fail_any t.place 7 _ HEl1.out.rb).mono ?_
            rintro e w2 ⟨rfl, hr1, hk1⟩
            have HEl2 := hid (HEl1.out.rbs hr1 hk1)
            have HGX2 := hid (HGX1.out.keep hk1)
            clear hr1 hk1
            go_wp2_with fail
            go_meet
            exact ⟨rfl, _, _, HEl2, HGX2, KK⟩
        case rest =>
          obtain ⟨rfl, a2, e2, HEl2, HGX2, KT3⟩ := hcut
          have n1 := HEl2.out.ncell 1 _ rfl
          have n2 := HEl2.out.ncell 2 _ rfl
          have v1 := HEl2.out.nfroz 1
          have v2 := HEl2.out.nfroz 2
          have x3 := HEl2.out.tcell.2.2.2
          have ES3 := hid (HEl2.out.nodeset (.string (text U)) (.string (text tsf)))
          have HKS := hid (show Keep (fun b => b = w.heap.size + 2) wc ((wc.setCell ⟨w.heap.size + 2, 1, none⟩ (.string (text U))).setCell ⟨w.heap.size + 2, 2, none⟩ (.string (text tsf))) from (keep_set wc (w.heap.size + 2) 1 _).tr (keep_set _ (w.heap.size + 2) 2 _))
          have HGX3 := hid (show GivX w B ((wc.setCell ⟨w.heap.size + 2, 1, none⟩ (.string (text U))).setCell ⟨w.heap.size + 2, 2, none⟩ (.string (text tsf))) u1 g1 from ⟨⟨HGX2.out.1.row.keep HKS.out HGX2.out.2, HGX2.out.1.off, HGX2.out.1.bare, HGX2.out.1.spl⟩, HGX2.out.2⟩)
          obtain ⟨M, hM⟩ : ∃ M, wc.heap.size = M := ⟨_, rfl⟩
          have HM3 := hid (show w.heap.size + 3 ≤ M by have := HEl2.out.size; omega)
          have HM4 := hid (show M ≤ ((wc.setCell ⟨w.heap.size + 2, 1, none⟩ (.string (text U))).setCell ⟨w.heap.size + 2, 2, none⟩ (.string (text tsf))).heap.size by have := HKS.out.size; omega)
          have HUB := hid (show 0 < g1.length → ∀ b, u1.ownBlock = some b → b < M from fun hn b hb => by have := Row.blk (by omega) HGX2.out.1.row hn hb; omega)
          have hgb : g1.length ≤ g.length + 1000000 := by omega
          have hMM := hid hM
          clear HT hn x1 hM
          go_wp2_with fail
          clear n1 n2 v1 v2 x3
          go_loopg [17] t.attrs.length (fun gj iv X => ∃ (n : Nat) (al : List Att) (av : Value) (a3 e3 : Int), iv = .int .i64 n ∧ n + gj = t.attrs.length ∧ al.length ≤ n ∧ Hid (T4 g t g1 (U, tsf) n al a3 e3) ∧ Hid (El0 w B tv (i + 1) en a3 e3 t (.slice ao an ac) #[.int .i64 t.place, .string (text U), .string (text tsf), av, .slice none 0 0, .string ⟨#[]⟩] X) ∧ Hid (OwnB M X av al) ∧ Hid (GivX w B X u1 g1))
          case atStart => exact ⟨0, [], .slice none 0 0, a2, e2, rfl, by omega, by simp, hid KT3.out.start, ES3, hid ⟨⟨by simp, .inl ⟨rfl, rfl⟩⟩, HM4.out⟩, HGX3⟩
          case round =>
            rename World => Y
            clear hng
            obtain ⟨n, al, av, a3, e3, rfl, hng, hal, HT4, HEl, HOA, HGX⟩ := hrel
            generalize hG2 : gk = G2 at *
            clear hG2
            have x3 := HEl.out.tcell.2.2.2
            by_cases hn : n < t.attrs.length
            · have HXX := hid (Keep.below H0.out HEl.out.keep (fun b hb => by rw [hb]; exact hB))
              obtain ⟨bq, oq, iq0, d0, d1, d2⟩ := (HPR.out.below HXX.out (Nat.le_refl _)).at (P := Tryz.prog) n hn 43 73 undP sizPr
              have iq := iq0 .i64
              have hft := HFA.out t.attrs[n] (List.getElem_mem hn)
              have hso := HNA.out t.attrs[n] (List.getElem_mem hn)
              have S1 := hid (fun h => HT4.out.skip hn h)
              have S2 := hid (fun p s (h1 : givesB t.attrs[n].name = false) (h2 : splitO t.attrs[n].name = some (p, s)) h3 h4 => HT4.out.noname hn h1 h2 h3 h4)
              have hgt : (t.attrs[n]?.map (·.name) |>.getD []) = t.attrs[n].name := by rw [List.getElem?_eq_getElem hn]; rfl
              have S3 := hid (fun x k a e h h1 h2 h3 => T5.hit (g0 := g) (t := t) (g := g1) (nm := (U, tsf)) (n := n) (al := al) (x := x) (k := k) (a := a) (e := e) h hn h1 h2 h3)
              have S4 := hid (fun x k a e h h1 h2 => T5.done (g0 := g) (t := t) (g := g1) (nm := (U, tsf)) (n := n) (al := al) (x := x) (k := k) (a := a) (e := e) h hn h1 h2)
              rw [hgt] at S3 S4
              generalize hpi : t.attrs[n] = p at *
              have HPI := hid hpi
              clear hpi iq0 HXX hgt
              obtain ⟨pk, nm, vl⟩ := p
              dsimp only at *
              have GV := fun X => rgives_any nm X hso (by omega)
              have hvl : vl.length ≤ 4000000 := hft.2
              cases hgv : givesB nm with
              | true =>
                rw [hgv] at GV
                have GVV := hid GV
                have KK := hid (S1.out hgv)
                clear GV hgv hso hft
                go_wp2_with fail
                refine (GVV.out _).mono ?_
                rintro e w1 ⟨⟨q, rfl, _⟩, hb1⟩
                have HEl1 := hid (HEl.out.later hb1)
                have HGX1 := hid (HGX.out.below hb1)
                have HOA1 := hid (show OwnB M w1 av al from HOA.out.later hb1)
                clear hb1 d0 d1 d2 x3
                go_wp2
                go_roundg (G2 - 1)
                case measure => omega
                case rel => exact ⟨n + 1, al, av, a3, e3, by go_num, by omega, by omega, KK, HEl1, HOA1, HGX1⟩
              | false =>
                rw [hgv] at GV
                obtain ⟨p', s', hps⟩ : ∃ p s, splitO nm = some (p, s) := by
                  cases hq : splitO nm with
                  | none => exact absurd hq hso
                  | some x => exact ⟨x.1, x.2, rfl⟩
                have SP2 := hid (fun X => by have := RSplit_any nm (show nm.length ≤ 4000000 by omega) X; rw [show splitA nm = p' by unfold splitA; rw [hps], show splitB nm = s' by unfold splitB; rw [hps]] at this; exact this)
                have GVV := hid GV
                have HGV := hid hgv
                have HPS := hid hps
                clear GV hgv hso hft hps
                go_wp2_with fail
                refine (GVV.out _).mono ?_
                rintro e w1 ⟨⟨q, rfl, _⟩, hb1⟩
                have HEl1 := hid (HEl.out.later hb1)
                have HGX1 := hid (HGX.out.below hb1)
                have HOA1 := hid (show OwnB M w1 av al from HOA.out.later hb1)
                clear hb1 d0 d1 d2 x3 iq
                have HXX := hid (Keep.below H0.out HEl1.out.keep (fun b hb => by rw [hb]; exact hB))
                obtain ⟨bq, oq, iq0, d0, d1, d2⟩ := (HPR.out.below HXX.out (Nat.le_refl _)).at (P := Tryz.prog) n hn 43 73 undP sizPr
                rw [HPI.out] at d0 d1 d2
                have iq := iq0 .i64
                have x3 := HEl1.out.tcell.2.2.2
                clear iq0
                go_wp2_with fail
                refine (SP2.out _).mono ?_
                rintro e w2 ⟨rfl, hb2⟩
                have HEl2' := hid (HEl1.out.later hb2)
                have HGX2' := hid (HGX1.out.below hb2)
                have HOA2 := hid (show OwnB M w2 av al from HOA1.out.later hb2)
                clear hb2 d0 d1 d2 x3 iq
                obtain ⟨pe, hpe⟩ : ∃ pe, (text p').toList.isEmpty = pe := ⟨_, rfl⟩
                go_upto_if 151 with fail
                go_cut [15, 16] from 121 to 206 (fun sv so wx => ∃ (V : List UInt8) (ok : Bool), sv = .string (text V) ∧ so = .bool ok ∧ Hid ((ok = true → NmT g1 nm (V, s')) ∧ (ok = false → p' ≠ [] ∧ get g1 p' = none)) ∧ w2 = wx)
                case first =>
                  by_cases hp : p' = []
                  · have q0 : pe = true := by rw [← hpe, Ent.text_list, hp]; rfl
                    subst q0
                    clear hpe
                    have KK := hid (show NmT g1 nm ([], s') by unfold NmT; rw [nameIn_p HPS.out, if_pos hp])
                    clear hp
                    go_wp2_with fail
                    go_meet
                    exact ⟨[], true, rfl, rfl, hid ⟨fun _ => KK.out, fun h => by cases h⟩, rfl⟩
                  · have q0 : pe = false := by rw [← hpe, Ent.text_list]; simp [hp]
                    subst q0
                    clear hpe
                    obtain ⟨R, hR⟩ : ∃ R, get g1 p' = R := ⟨_, rfl⟩
                    have SPA := space_any u1 g1 p' w2 HGX2'.out.1.row (by omega)
                    rw [hR] at SPA
                    obtain ⟨V, hV⟩ : ∃ V, R.getD [] = V := ⟨_, rfl⟩
                    obtain ⟨ok2, hok⟩ : ∃ ok, R.isSome = ok := ⟨_, rfl⟩
                    rw [hV, hok] at SPA
                    have HSPA2 := hid SPA
                    have KK := hid (show (ok2 = true → NmT g1 nm (V, s')) ∧ (ok2 = false → p' ≠ [] ∧ get g1 p' = none) from ⟨fun h => by
                      unfold NmT
                      rw [nameIn_p HPS.out, if_neg hp, hR]
                      cases R with
                      | none => rw [← hok] at h; cases h
                      | some v => rw [← hV]; rfl, fun h => ⟨hp, by
                      rw [hR]
                      cases R with
                      | none => rfl
                      | some v => rw [← hok] at h; cases h⟩⟩)
                    clear hp hR hV hok SPA
                    go_wp2_with fail
                    refine HSPA2.out.mono ?_
                    rintro e _ ⟨rfl, rfl⟩
                    go_wp2_with fail
                    go_meet
                    exact ⟨V, ok2, rfl, rfl, KK, rfl⟩
                case rest =>
                  obtain ⟨V, ok2, rfl, rfl, HV, rfl⟩ := hcut
                  clear hpe
                  have HXX := hid (Keep.below H0.out HEl2'.out.keep (fun b hb => by rw [hb]; exact hB))
                  obtain ⟨bq, oq, iq0, d0, d1, d2⟩ := (HPR.out.below HXX.out (Nat.le_refl _)).at (P := Tryz.prog) n hn 43 73 undP sizPr
                  rw [HPI.out] at d0 d1 d2
                  have iq := iq0 .i64
                  have x3 := HEl2'.out.tcell.2.2.2
                  clear iq0
                  go_upto_if 159 with fail
                  go_cut [15] from 121 to 206 (fun sv wx => sv = .string (text V) ∧ ∃ a4 e4, Hid (El0 w B tv (i + 1) en a4 e4 t (.slice ao an ac) #[.int .i64 t.place, .string (text U), .string (text tsf), av, .slice none 0 0, .string ⟨#[]⟩] wx) ∧ Hid (OwnB M wx av al) ∧ Hid (GivX w B wx u1 g1) ∧ Hid (T4b g t g1 (U, tsf) n al nm (V, s') a4 e4))
                  case first =>
                    cases ok2 with
                    | true =>
                      have KK := hid (show T4b g t g1 (U, tsf) n al nm (V, s') a3 e3 from .inl ⟨HV.out.1 rfl, HT4.out⟩)
                      go_wp2_with fail
                      go_meet
                      exact ⟨rfl, a3, e3, HEl2', HOA2, HGX2', KK⟩
                    | false =>
                      have KK := hid (show T4b g t g1 (U, tsf) n al nm (V, s') (fstA a3 e3 pk) (fstE e3 7) from .inr (S2.out p' s' HGV.out HPS.out (HV.out.2 rfl).1 (HV.out.2 rfl).2))
                      go_wp2_with fail
                      refine (fail_any pk 7 _ HEl2'.out.rb).mono ?_
                      rintro e w3 ⟨rfl, hr1, hk1⟩
                      have HEl2 := hid (HEl2'.out.rbs hr1 hk1)
                      have HGX2 := hid (HGX2'.out.keep hk1)
                      have HOA3 := hid (show OwnB M w3 av al from HOA2.out.fail hk1 (by have := HEl2'.out.low; have := HM3.out; omega))
                      clear hr1 hk1
                      go_wp2_with fail
                      go_meet
                      exact ⟨rfl, _, _, HEl2, HOA3, HGX2, KK⟩
                  case rest =>
                    obtain ⟨rfl, a4, e4, HEl4, HOA4, HGX4, KT4⟩ := hcut
                    have BN := ba (b0 wc) (.cells #[.string (text V), .string (text s')] 28)
                    have PN := hid (heap_alloc_new wc (.cells #[.string (text V), .string (text s')] 28))
                    have HEl5 := hid (HEl4.out.later BN)
                    have HOA5 := hid (show OwnB M (wc.alloc (.cells #[.string (text V), .string (text s')] 28)) av al from HOA4.out.later BN)
                    have HGX5 := hid (HGX4.out.below BN)
                    have hwz : w.heap.size + 3 ≤ wc.heap.size := HEl4.out.size
                    clear BN d0 d1 d2 x3 iq
                    go_wp2_with fail
                    go_loopg [21] al.length (fun gj iv Z => ∃ (k : Nat) (a5 e5 : Int), iv = .int .i64 k ∧ k + gj = al.length ∧ Hid (T5 g t g1 (U, tsf) n al nm (V, s') k a5 e5) ∧ Hid (El0 w B tv (i + 1) en a5 e5 t (.slice ao an ac) #[.int .i64 t.place, .string (text U), .string (text tsf), av, .slice none 0 0, .string ⟨#[]⟩] Z) ∧ Hid (OwnB M Z av al) ∧ Hid (GivX w B Z u1 g1) ∧ Hid (Z.heap[wc.heap.size]? = some (.cells #[.string (text V), .string (text s')] 28 (0, 0))))
                    case atStart => exact ⟨0, a4, e4, rfl, by omega, hid (.inl ⟨fun j _ h => absurd h (by omega), KT4.out⟩), HEl5, HOA5, HGX5, PN⟩
                    case round =>
                      rename World => Z
                      obtain ⟨k, a5, e5, rfl, hkg, HT5, HEl6, HOA6, HGX6, HPN⟩ := hrel
                      have HAT := hid (HOA6.out.1.off (A := fun _ => False) (by omega) (fun _ h => h.elim))
                      have alen := fun X => HAT.out.len (P := Tryz.prog) 29 3 61 undAs X
                      have nc3 := HEl6.out.ncell 3 _ rfl
                      have m0 : Z.cell? ⟨wc.heap.size, 0, none⟩ = some (.string (text V)) := by rw [Lib.cell_of_heap HPN.out]; rfl
                      have m1 : Z.cell? ⟨wc.heap.size, 1, none⟩ = some (.string (text s')) := by rw [Lib.cell_of_heap HPN.out]; rfl
                      by_cases hk : k < al.length
                      · obtain ⟨bk, ok3, ix3, k0, k1, k2⟩ := HAT.out.at (P := Tryz.prog) k hk 29 61 undAs sizAt
                        have ixk := ix3 .i64
                        have KMI := hid (fun h => HT5.out.miss hk h)
                        have KHI := hid (fun h => S3.out (V, s') k a5 e5 HT5.out HGV.out hk h)
                        generalize al[k] = x at *
                        obtain ⟨⟨xu, xs⟩, xv⟩ := x
                        dsimp only at *
                        clear ix3 k2
                        have tq1 := text_eq xu V
                        have tq2 := text_eq xs s'
                        by_cases hx : xu = V ∧ xs = s'
                        · rw [decide_eq_true hx.1] at tq1
                          rw [decide_eq_true hx.2] at tq2
                          have KK := hid (KHI.out (by rw [hx.1, hx.2]))
                          clear hx
                          go_wp2_with fail
                          go_quiet (fail)
                          rename_i nq
                          have HElq := hid (HEl6.out.later (below_drewN (b0 Z) nq))
                          have HGXq := hid (HGX6.out.below (below_drewN (b0 Z) nq))
                          have HOAq := hid (show OwnB M (Z.drewN nq) av al from HOA6.out.later (below_drewN (b0 Z) nq))
                          have HPNq := hid (show (Z.drewN nq).heap[wc.heap.size]? = some (.cells #[.string (text V), .string (text s')] 28 (0, 0)) from HPN.out)
                          clear nc3 m0 m1 k0 k1 ixk tq1 tq2
                          generalize Z.drewN nq = Zq at *
                          have HXX := hid (Keep.below H0.out HElq.out.keep (fun b hb => by rw [hb]; exact hB))
                          obtain ⟨bq, oq, iq0, d0, d1, d2⟩ := (HPR.out.below HXX.out (Nat.le_refl _)).at (P := Tryz.prog) n hn 43 73 undP sizPr
                          rw [HPI.out] at d0 d1 d2
                          have iq := iq0 .i64
                          have x3 := HElq.out.tcell.2.2.2
                          clear iq0
                          go_wp2_with fail
                          refine (fail_any pk 8 _ HElq.out.rb).mono ?_
                          rintro e w5 ⟨rfl, hr1, hk1⟩
                          have HEl2 := hid (HElq.out.rbs hr1 hk1)
                          have HGX2 := hid (HGXq.out.keep hk1)
                          have HOA7 := hid (show OwnB M w5 av al from HOAq.out.fail hk1 (by have := HElq.out.low; have := HM3.out; omega))
                          have HPN7 := hid ((hk1.block wc.heap.size (lt_of_some HPNq.out) (by have := HElq.out.low; omega)).trans HPNq.out)
                          clear hr1 hk1
                          go_wp2
                          go_roundg (gk - 1)
                          case measure => omega
                          case rel => exact ⟨k + 1, _, _, by go_num, by omega, KK, HEl2, HOA7, HGX2, HPN7⟩
                        · have KK := hid (KMI.out (fun h => hx (by injection h with h1 h2; exact ⟨h1, h2⟩)))
                          have hor : (xu ≠ V) ∨ (xu = V ∧ xs ≠ s') := by
                            by_cases c : xu = V
                            · exact .inr ⟨c, fun d => hx ⟨c, d⟩⟩
                            · exact .inl c
                          clear hx
                          rcases hor with h1 | ⟨h1, h2⟩
                          · rw [decide_eq_false h1] at tq1
                            clear h1 tq2
                            go_wp2_with fail
                            go_quiet (fail)
                            go_wp2
                            go_roundg (gk - 1)
                            case measure => omega
                            case rel => exact ⟨k + 1, a5, e5, by go_num, by omega, KK, hid (HEl6.out.later (below_drewN (b0 Z) _)), hid (HOA6.out.later (below_drewN (b0 Z) _)), hid (HGX6.out.below (below_drewN (b0 Z) _)), HPN⟩
                          · rw [decide_eq_true h1] at tq1
                            rw [decide_eq_false h2] at tq2
                            clear h1 h2
                            go_wp2_with fail
                            go_quiet (fail)
                            go_wp2
                            go_roundg (gk - 1)
                            case measure => omega
                            case rel => exact ⟨k + 1, a5, e5, by go_num, by omega, KK, hid (HEl6.out.later (below_drewN (b0 Z) _)), hid (HOA6.out.later (below_drewN (b0 Z) _)), hid (HGX6.out.below (below_drewN (b0 Z) _)), HPN⟩
                      · have KD := hid (S4.out (V, s') k a5 e5 HT5.out HGV.out (by omega))
                        have HXX := hid (Keep.below H0.out HEl6.out.keep (fun b hb => by rw [hb]; exact hB))
                        obtain ⟨bq, oq, iq0, d0, d1, d2⟩ := (HPR.out.below HXX.out (Nat.le_refl _)).at (P := Tryz.prog) n hn 43 73 undP sizPr
                        rw [HPI.out] at d0 d1 d2
                        have iq := iq0 .i64
                        have x3 := HEl6.out.tcell.2.2.2
                        clear iq0
                        have BV := ba (b0 Z) (.cells #[.string (text V), .string (text s'), .string (text vl)] 61)
                        have HEl7 := hid (HEl6.out.later BV)
                        have HGX7 := hid (HGX6.out.below BV)
                        have HO7 := hid (show (Z.alloc (.cells #[.string (text V), .string (text s'), .string (text vl)] 61)).ownsRow M 61 3 av al.length (al.flatMap attCells) from owns_later HOA6.out.1 BV)
                        have HMZ := hid (show M ≤ (Z.alloc (.cells #[.string (text V), .string (text s'), .string (text vl)] 61)).heap.size from Nat.le_trans HOA6.out.2 BV.size)
                        have HLB := hid (World.block_lt_of_cell? _ _ d2)
                        have HLX := hid (World.block_lt_of_cell? _ _ x3)
                        have HLN := hid (World.block_lt_of_cell? _ _ m0)
                        have HLC := hid (World.block_lt_of_cell? _ _ nc3)
                        have hlb := HLB.out
                        have hlx := HLX.out
                        have hln := HLN.out
                        have hlc := HLC.out
                        have hallen : al.length ≤ 1000000 := by omega
                        clear BV d0 d1
                        go_wp2_with fail
                        have HC2 := hid (show al.length + 1 ≤ maxLen by unfold maxLen; omega)
                        have HC3 := hid (show (al.length + 1) * 48 ≤ 140737488355328 by omega)
                        have HF1 := hid (show n + 1 + (G2 - 1) = t.attrs.length by omega)
                        have HF2 := hid (show (al ++ [(⟨(V, s'), vl⟩ : Att)]).length ≤ n + 1 by simp; omega)
                        have HFM := hid (show G2 - 1 < G2 by omega)
                        have HNC := hid (new_cells Z #[.string (text V), .string (text s'), .string (text vl)] 61 Z.heap.size rfl)
                        have HONE := hid (show ∀ u ∈ [Value.string (text V), .string (text s'), .string (text vl)], u.oneCell' = true by simp [Value.oneCell'])
                        have KAPP := hid (app_after (V := V) (s' := s') (vl := vl) HEl7.out HO7.out HM3.out HUB.out HGX7.out HMZ.out)
                        obtain ⟨g9, cap9, w9, hrun9, hown9, hg9, hgg9, hgl9⟩ := run_append_lies (P := Tryz.prog) (w := (Z.alloc (.cells #[.string (text V), .string (text s'), .string (text vl)] 61)).drew) 29 29 M 61 j0 _ 3 48 undAs HJ.out hy0 hy1 hy2 rfl (by decide) av al.length (al.flatMap attCells) HO7.out ⟨Z.heap.size, 0, none⟩ 1 1 [.string (text V), .string (text s'), .string (text vl)] rfl HNC.out HONE.out (by decide) HC2.out HC3.out HMZ.out _ rfl
                        have HALL := hid (KAPP.out g9 cap9 w9 hown9 ⟨hg9.os, hg9.tape, hg9.output, hg9.size, hg9.block⟩)
                        have nd3 := HALL.out.1
                        have nf3 := HALL.out.2.1
                        clear hown9 hg9 hgg9 hgl9 hallen
                        go_region_o
                        all_goals go_wp2
                        all_goals go_roundg (G2 - 1)
                        all_goals first
                          | exact HFM.out
                          | exact ⟨n + 1, al ++ [⟨(V, s'), vl⟩], _, a5, e5, by go_num, HF1.out, HF2.out, KD, HALL.out.2.2.1, HALL.out.2.2.2.1, HALL.out.2.2.2.2⟩
            · have KD := hid (HT4.out.done (by omega))
              obtain ⟨vo, vn, vc, rfl⟩ := HOA.out.1.slice
              have x0 := HEl.out.tcell.1
              have x2 := HEl.out.tcell.2.2.1
              have HAN := hid (show Atts Y (fun b => b < w.heap.size + 3) (.slice vo vn vc) al from HOA.out.1.off (by omega) (fun b hb => by have := HM3.out; omega))
              clear HT4
              rcases hki with hk0 | hk2
              · have q0 : (t.kind == 0) = true := by rw [beq_iff_eq]; exact hk0
                have hk2 : ¬ t.kind = 2 := by omega
                have HKF := hid (fun (Z : World) (h : Keep (fun b => b = B ∨ b = w.heap.size + 2) Y Z) => (show Atts Z (fun b => b < w.heap.size + 3) (.slice vo vn vc) al from (⟨Row.ofOwns (own_same HOA.out.1 (fun b hb => h.block b (HOA.out.1.lt b hb).2 (by have := (HOA.out.1.lt b hb).1; have := HEl.out.low; have := HM3.out; omega))) (by omega), HAN.out.2⟩)))
                rcases KD.out with ⟨hke, hkh⟩ | hke
                · subst hke
                  have INS := HIH.out Y (i + 1) a3 u1 g1 deep t.s (w.heap.size + 2) _ _ _ _ f (Keep.below H0.out HEl.out.keep (fun b hb => by rw [hb]; exact hB)) HEl.out.rb HGX.out.1 (by omega) hdl hd1 (by omega) (by omega) (by omega) HEl.out.nod (by omega) HGX.out.2
                  have HINS := hid INS
                  have E := hid (show elemW (fun g n d r => insF f g n d [] [] r) g deep t (ts.drop (i + 1)) = match insF f g1 t.s deep [] [] (ts.drop (i + 1)) with | .error x => .error x | .ok k => .ok (.mk t.place (U, tsf) al k.1 [], k.2) from by rw [HEH.out, hkh]; dsimp only; rw [if_neg hk2]; cases insF f g1 t.s deep [] [] (ts.drop (i + 1)) <;> rfl)
                  obtain ⟨IR, hIR⟩ : ∃ IR, insF f g1 t.s deep [] [] (ts.drop (i + 1)) = IR := ⟨_, rfl⟩
                  rw [hIR] at HINS E
                  clear hkh hk0 hk2 INS KD hIR
                  go_wp2_with fail
                  refine HINS.out.mono ?_
                  rintro e wq ⟨ks, kv, j, a9, e9, rfl, hnode, hkids, hrb9, hkp9, hij, hjl, htell⟩
                  obtain ⟨ko, kn, kc, rfl⟩ := hkids.slice
                  have HElz := hid (HEl.out.inside hkp9 hrb9 hnode)
                  have HIS := hid (show IsN wq (fun b => b < w.heap.size + 3) (.mk t.place (U, tsf) al ks []) (.slice vo vn vc) (.slice ko kn kc) from IsN.of (HKF.out wq hkp9) (hkids.to (fun b _ hb => by have := HEl.out.size; omega) (Keep.refl _ _)))
                  have HTE := hid (show TellE en ts (elemW (fun g n d r => insF f g n d [] [] r) g deep t (ts.drop (i + 1))) (.mk t.place (U, tsf) al ks []) j a9 e9 from by
                    rw [E.out]
                    cases IR with
                    | error x => exact htell
                    | ok k =>
                      obtain ⟨h1, h2, h3⟩ := htell
                      exact ⟨by rw [h1], h2, h3⟩)
                  have HIJ := hid (show i < j ∧ j ≤ ts.length by omega)
                  clear hnode hkids hrb9 hkp9 hij hjl htell x0 x2
                  have rc0 := HElz.out.rcell 0 _ rfl
                  have rc1 := HElz.out.rcell 1 _ rfl
                  have rc2 := HElz.out.rcell 2 _ rfl
                  have rc3 := HElz.out.rcell 3 _ rfl
                  have rc4 := HElz.out.rcell 4 _ rfl
                  have rc5 := HElz.out.rcell 5 _ rfl
                  have rf0 := HElz.out.rfroz 0
                  have rf1 := HElz.out.rfroz 1
                  have rf2 := HElz.out.rfroz 2
                  have rf3 := HElz.out.rfroz 3
                  have rf4 := HElz.out.rfroz 4
                  have rf5 := HElz.out.rfroz 5
                  have nc0 := HElz.out.ncell 0 _ rfl
                  have nc1 := HElz.out.ncell 1 _ rfl
                  have nc2 := HElz.out.ncell 2 _ rfl
                  have nc3 := HElz.out.ncell 3 _ rfl
                  have nc4 := HElz.out.ncell 4 _ rfl
                  have nc5 := HElz.out.ncell 5 _ rfl
                  go_wp2_with fail
                  go_wp2
                  obtain ⟨p4, g4⟩ := putSix HElz.out.res (.int .i64 t.place) (.string (text U)) (.string (text tsf)) (.slice vo vn vc) (.slice ko kn kc) (.string ⟨#[]⟩)
                  obtain ⟨hrb, hkp⟩ := HElz.out.out g4
                  refine bodyPost_ret (results_cell rfl _ _ _ _ rfl (run_loadVar_row _ _ _ _ _ _ _ p4 Tryz.underlying32 rfl sizeNode6)) rfl ?_
                  exact ⟨_, vo, vn, vc, ko, kn, kc, j, a9, e9, rfl, HIS.out.fin g4, hrb, hkp, HIJ.out.1, HIJ.out.2, HTE.out⟩
                · have INE := hid (inside_err (Nb := w.heap.size + 2) (deep := deep) (lv := u1) (name := t.s) HEl.out.rb hke.ne)
                  have HTE := hid (show TellE en ts (elemW (fun g n d r => insF f g n d [] [] r) g deep t (ts.drop (i + 1))) (.mk t.place (U, tsf) al [] []) (i + 1) a3 e3 from by
                    obtain ⟨x, h1, h2, h3, h4⟩ := hke
                    rw [HEH.out, h1]
                    exact ⟨by omega, h2, h3⟩)
                  have HIS := hid (show IsN Y (fun b => b < w.heap.size + 3) (.mk t.place (U, tsf) al [] []) (.slice vo vn vc) (.slice none 0 0) from IsN.of HAN.out (Kids.nil _ _))
                  have HElz := HEl
                  clear hk0 hk2 hke KD
                  go_wp2_with fail
                  refine INE.out.mono ?_
                  rintro e _ ⟨rfl, rfl⟩
                  have rc0 := HElz.out.rcell 0 _ rfl
                  have rc1 := HElz.out.rcell 1 _ rfl
                  have rc2 := HElz.out.rcell 2 _ rfl
                  have rc3 := HElz.out.rcell 3 _ rfl
                  have rc4 := HElz.out.rcell 4 _ rfl
                  have rc5 := HElz.out.rcell 5 _ rfl
                  have rf0 := HElz.out.rfroz 0
                  have rf1 := HElz.out.rfroz 1
                  have rf2 := HElz.out.rfroz 2
                  have rf3 := HElz.out.rfroz 3
                  have rf4 := HElz.out.rfroz 4
                  have rf5 := HElz.out.rfroz 5
                  have nc0 := HElz.out.ncell 0 _ rfl
                  have nc1 := HElz.out.ncell 1 _ rfl
                  have nc2 := HElz.out.ncell 2 _ rfl
                  have nc3 := HElz.out.ncell 3 _ rfl
                  have nc4 := HElz.out.ncell 4 _ rfl
                  have nc5 := HElz.out.ncell 5 _ rfl
                  go_wp2_with fail
                  go_wp2
                  obtain ⟨p4, g4⟩ := putSix HElz.out.res (.int .i64 t.place) (.string (text U)) (.string (text tsf)) (.slice vo vn vc) (.slice none 0 0) (.string ⟨#[]⟩)
                  obtain ⟨hrb, hkp⟩ := HElz.out.out g4
                  refine bodyPost_ret (results_cell rfl _ _ _ _ rfl (run_loadVar_row _ _ _ _ _ _ _ p4 Tryz.underlying32 rfl sizeNode6)) rfl ?_
                  exact ⟨_, vo, vn, vc, none, 0, 0, i + 1, a3, e3, rfl, HIS.out.fin g4, hrb, hkp, by omega, by omega, HTE.out⟩
              · have q0 : (t.kind == 0) = false := by rw [beq_eq_false_iff_ne]; omega
                have HTE := hid (show TellE en ts (elemW (fun g n d r => insF f g n d [] [] r) g deep t (ts.drop (i + 1))) (.mk t.place (U, tsf) al [] []) (i + 1) a3 e3 from by
                  rw [HEH.out]
                  rcases KD.out with ⟨h1, h2⟩ | ⟨x, h1, h2, h3, h4⟩
                  · rw [h2]
                    dsimp only
                    rw [if_pos hk2]
                    exact ⟨rfl, h1, rfl⟩
                  · rw [h1]
                    exact ⟨by omega, h2, h3⟩)
                have HIS := hid (show IsN Y (fun b => b < w.heap.size + 3) (.mk t.place (U, tsf) al [] []) (.slice vo vn vc) (.slice none 0 0) from IsN.of HAN.out (Kids.nil _ _))
                have HElz := HEl
                clear hk2 KD x2
                have rc0 := HElz.out.rcell 0 _ rfl
                have rc1 := HElz.out.rcell 1 _ rfl
                have rc2 := HElz.out.rcell 2 _ rfl
                have rc3 := HElz.out.rcell 3 _ rfl
                have rc4 := HElz.out.rcell 4 _ rfl
                have rc5 := HElz.out.rcell 5 _ rfl
                have rf0 := HElz.out.rfroz 0
                have rf1 := HElz.out.rfroz 1
                have rf2 := HElz.out.rfroz 2
                have rf3 := HElz.out.rfroz 3
                have rf4 := HElz.out.rfroz 4
                have rf5 := HElz.out.rfroz 5
                have nc0 := HElz.out.ncell 0 _ rfl
                have nc1 := HElz.out.ncell 1 _ rfl
                have nc2 := HElz.out.ncell 2 _ rfl
                have nc3 := HElz.out.ncell 3 _ rfl
                have nc4 := HElz.out.ncell 4 _ rfl
                have nc5 := HElz.out.ncell 5 _ rfl
                go_wp2_with fail
                go_wp2
                obtain ⟨p4, g4⟩ := putSix HElz.out.res (.int .i64 t.place) (.string (text U)) (.string (text tsf)) (.slice vo vn vc) (.slice none 0 0) (.string ⟨#[]⟩)
                obtain ⟨hrb, hkp⟩ := HElz.out.out g4
                refine bodyPost_ret (results_cell rfl _ _ _ _ rfl (run_loadVar_row _ _ _ _ _ _ _ p4 Tryz.underlying32 rfl sizeNode6)) rfl ?_
                exact ⟨_, vo, vn, vc, none, 0, 0, i + 1, a3, e3, rfl, HIS.out.fin g4, hrb, hkp, by omega, by omega, HTE.out⟩
end Go.Proofs.YthodmdfbahkflaaGreatDoor.Tree
