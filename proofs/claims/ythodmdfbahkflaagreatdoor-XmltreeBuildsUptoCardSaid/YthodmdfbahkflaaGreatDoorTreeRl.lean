/- Layer 5: contract of the document's Build. -/
import Derived.Test.YthodmdfbahkflaaGreatDoorTreeRk
set_option linter.unusedVariables false
set_option linter.unusedSimpArgs false
namespace Go.Proofs.YthodmdfbahkflaaGreatDoor.Tree
open Go Go.Proofs.YthodmdfbahkflaaGreatDoor Go.Proofs.YthodmdfbahkflaaGreatDoor.Utf Go.Proofs.YthodmdfbahkflaaGreatDoor.Names Go.Proofs.YthodmdfbahkflaaGreatDoor.Ent Go.Proofs.YthodmdfbahkflaaGreatDoor.Tok Go.RowKit
set_option maxRecDepth 100000
/-- What the document's Build has in memory: its result's cell, the builder, the node. -/
structure Bu (W : World) (tv : Value) (j : Nat) (en a e : Int) (n : Node) (av kv : Value) (X : World) : Prop where
  old : Below W.heap.size W X
  res : X.heap[W.heap.size]? = some (.cells #[.int .i64 0, .string ⟨#[]⟩, .string ⟨#[]⟩, .slice none 0 0, .slice none 0 0, .string ⟨#[]⟩] 32)
  rb : RB X (W.heap.size + 1) tv j en a e
  nod : X.heap[W.heap.size + 2]? = some (.cells #[.int .i64 n.place, .string (text n.nm.1), .string (text n.nm.2), av, kv, .string (text n.text)] 32 (0, 0))
  is : IsN X (fun b => b < W.heap.size + 3) n av kv
section
variable {W X Y : World} {tv : Value} {j : Nat} {en a e : Int} {n : Node} {av kv : Value}
theorem Bu.size (h : Bu W tv j en a e n av kv X) : W.heap.size + 3 ≤ X.heap.size := by have := lt_of_some h.nod; omega
theorem Bu.later (h : Bu W tv j en a e n av kv X) (hb : Below X.heap.size X Y) : Bu W tv j en a e n av kv Y :=
  ⟨h.old.trans (hb.mono h.old.size), (hb.block _ (lt_of_some h.res)).trans h.res, h.rb.same (hb.block _ h.rb.lt), (hb.block _ (lt_of_some h.nod)).trans h.nod, h.is.to (fun _ _ q => q) (Keep.of_below hb)⟩
theorem Bu.rbs {j' : Nat} {a' e' : Int} (h : Bu W tv j en a e n av kv X) (hr : RB Y (W.heap.size + 1) tv j' en a' e') (hk : Keep (fun b => b = W.heap.size + 1) X Y) : Bu W tv j' en a' e' n av kv Y :=
  ⟨Keep.below h.old hk (fun b hb => by omega), (hk.block _ (lt_of_some h.res) (by omega)).trans h.res, hr, (hk.block _ (lt_of_some h.nod) (by omega)).trans h.nod, h.is.to (fun _ _ q => q) (hk.mono fun b q => by omega)⟩
theorem Bu.next (h : Bu W tv j en a e n av kv X) : Bu W tv (j + 1) en a e n av kv (X.setCell ⟨W.heap.size + 1, 1, none⟩ (.int .i64 ((j : Int) + 1))) := h.rbs (h.rb.set1 (j + 1)) (keep_set X _ 1 _)
theorem Bu.start (W : World) (tv : Value) (en : Int) : Bu W tv 0 en 0 0 noNode (.slice none 0 0) (.slice none 0 0) (((W.alloc (.cells #[.int .i64 0, .string ⟨#[]⟩, .string ⟨#[]⟩, .slice none 0 0, .slice none 0 0, .string ⟨#[]⟩] 32)).alloc (.cells #[tv, .int .i64 0, .int .i64 en, .int .i64 0, .int .i64 0] 53)).alloc (.cells #[.int .i64 0, .string ⟨#[]⟩, .string ⟨#[]⟩, .slice none 0 0, .slice none 0 0, .string ⟨#[]⟩] 32)) := by
  obtain ⟨W1, h1⟩ : ∃ W1, W.alloc (.cells #[.int .i64 0, .string ⟨#[]⟩, .string ⟨#[]⟩, .slice none 0 0, .slice none 0 0, .string ⟨#[]⟩] 32) = W1 := ⟨_, rfl⟩
  have s1 : W1.heap.size = W.heap.size + 1 := by rw [← h1]; simp
  have p1 : W1.heap[W.heap.size]? = some (.cells #[.int .i64 0, .string ⟨#[]⟩, .string ⟨#[]⟩, .slice none 0 0, .slice none 0 0, .string ⟨#[]⟩] 32) := by rw [← h1]; exact heap_alloc_new W _
  have b1 : Below W.heap.size W W1 := by rw [← h1]; exact ba (b0 W) _
  rw [h1]
  obtain ⟨W2, h2⟩ : ∃ W2, W1.alloc (.cells #[tv, .int .i64 0, .int .i64 en, .int .i64 0, .int .i64 0] 53) = W2 := ⟨_, rfl⟩
  have s2 : W2.heap.size = W.heap.size + 2 := by rw [← h2]; simp [s1]
  have p2 : W2.heap[W.heap.size + 1]? = some (.cells #[tv, .int .i64 0, .int .i64 en, .int .i64 0, .int .i64 0] 53) := by rw [← h2, ← s1]; exact heap_alloc_new W1 _
  have b2 : Below W1.heap.size W1 W2 := by rw [← h2]; exact ba (b0 W1) _
  rw [h2]
  have b3 := ba (b0 W2) (.cells #[.int .i64 0, .string ⟨#[]⟩, .string ⟨#[]⟩, .slice none 0 0, .slice none 0 0, .string ⟨#[]⟩] 32)
  have p3 := heap_alloc_new W2 (.cells #[.int .i64 0, .string ⟨#[]⟩, .string ⟨#[]⟩, .slice none 0 0, .slice none 0 0, .string ⟨#[]⟩] 32)
  rw [s2] at p3
  exact ⟨bt (bt b1 b2) b3, (b3.block _ (by omega)).trans ((b2.block _ (by omega)).trans p1), (b3.block _ (by omega)).trans p2, p3, IsN.of (Atts.nil _ _) (Kids.nil _ _)⟩
/-- The node is stored. -/
theorem Bu.store {m : Node} {av' kv' : Value} (h : Bu W tv j en a e n av kv X) (hm : IsN X (fun b => b < W.heap.size + 3) m av' kv') :
    Bu W tv j en a e m av' kv' ((((((X.setCell ⟨W.heap.size + 2, 0, none⟩ (.int .i64 m.place)).setCell ⟨W.heap.size + 2, 1, none⟩ (.string (text m.nm.1))).setCell ⟨W.heap.size + 2, 2, none⟩ (.string (text m.nm.2))).setCell ⟨W.heap.size + 2, 3, none⟩ av').setCell ⟨W.heap.size + 2, 4, none⟩ kv').setCell ⟨W.heap.size + 2, 5, none⟩ (.string (text m.text))) := by
  obtain ⟨p, g⟩ := putSix h.nod (.int .i64 m.place) (.string (text m.nm.1)) (.string (text m.nm.2)) av' kv' (.string (text m.text))
  generalize ((((((X.setCell ⟨W.heap.size + 2, 0, none⟩ (.int .i64 m.place)).setCell ⟨W.heap.size + 2, 1, none⟩ (.string (text m.nm.1))).setCell ⟨W.heap.size + 2, 2, none⟩ (.string (text m.nm.2))).setCell ⟨W.heap.size + 2, 3, none⟩ av').setCell ⟨W.heap.size + 2, 4, none⟩ kv').setCell ⟨W.heap.size + 2, 5, none⟩ (.string (text m.text))) = Y at *
  have hs := h.size
  refine ⟨h.old.grown g h.old.size (fun b q => by injection q with q; omega), (g.block _ (by omega) (fun q => by injection q with q; omega)).trans h.res, h.rb.same (g.block _ (by omega) (fun q => by injection q with q; omega)), p, hm.to (fun _ _ q => q) (Keep.of_grown g (fun b q => by injection q with q; omega))⟩
end
/-- What Build knows on its way. -/
def U1 (en : Int) (ts : List Tok) (g : Node × Int × Nat) (o : Option Node) (j : Nat) (a e : Int) : Prop :=
  (e = 0 ∧ ∃ f, ts.length - j < f ∧ g = topF en f o (ts.drop j)) ∨ ∃ p k, k ≠ 0 ∧ a = p ∧ e = (k : Nat) ∧ g = (noNode, p, k)
section
variable {en : Int} {ts : List Tok} {g : Node × Int × Nat} {o : Option Node} {j : Nat} {a : Int}
theorem U1.step (h : U1 en ts g o j a 0) (hj : j < ts.length) : ∃ f, ts.length - (j + 1) < f ∧ g = (if ts[j].kind = 3 then (if blankB ts[j].s = true then topF en f o (ts.drop (j + 1)) else (noNode, ts[j].place, 5))
      else if ts[j].kind = 1 ∨ o.isSome = true then (noNode, ts[j].place, 5)
      else match elemW (fun g n d r => insF f g n d [] [] r) atFirst 1 ts[j] (ts.drop (j + 1)) with
        | .error (some x) => (noNode, x.1, x.2)
        | .error none => (noNode, en, 10)
        | .ok k => topF en f (some k.1) k.2) := by
  rcases h with ⟨_, f, hf, ho⟩ | ⟨p, k, hk, _, he, _⟩
  · cases f with
    | zero => omega
    | succ f =>
      refine ⟨f, by omega, ?_⟩
      rw [ho, List.drop_eq_getElem_cons hj]
      cases o with
      | none =>
        rw [topF]
        split
        · rfl
        · split
          · rfl
          · cases elemW (fun g n d r => insF f g n d [] [] r) atFirst 1 ts[j] (ts.drop (j + 1)) with
            | error x => cases x <;> rfl
            | ok k => rfl
      | some m =>
        rw [topF]
        split
        · rfl
        · split
          · rfl
          · cases elemW (fun g n d r => insF f g n d [] [] r) atFirst 1 ts[j] (ts.drop (j + 1)) with
            | error x => cases x <;> rfl
            | ok k => rfl
  · exact absurd he.symm (by omega)
theorem U1.fin (h : U1 en ts g o j a 0) (hj : ts.length ≤ j) : (o = none → g = (noNode, en, 10)) ∧ ∀ n, o = some n → g = (n, en, 0) := by
  rcases h with ⟨_, f, hf, ho⟩ | ⟨p, k, hk, _, he, _⟩
  · rw [List.drop_eq_nil_of_le hj] at ho
    cases f with
    | zero => omega
    | succ f => exact ⟨fun q => by subst q; exact ho, fun n q => by subst q; exact ho⟩
  · exact absurd he.symm (by omega)
theorem U1.bad {p : Int} {k : Nat} (hk : k ≠ 0) (hg : g = (noNode, p, k)) (j' : Nat) (o' : Option Node) (a' : Int) : U1 en ts g o' j' (fstA a' 0 p) (fstE 0 k) := .inr ⟨p, k, hk, by simp [fstA], by simp [fstE], hg⟩
end
set_option maxHeartbeats 16000000 in
theorem RBuild_any {l : List Tok} {v : Value} {W : World} (hE : Env l v W) (hm : toksMass l ≤ 1048576) (en : Int) :
    Calls Tryz.prog 7 #[v, .int .i64 en] W fun e w' => GotT W (build l en) e w' := by
  obtain ⟨gg, hgg⟩ : ∃ gg, build l en = gg := ⟨_, rfl⟩
  have HT0 := hid (show U1 en l gg none 0 0 0 from .inl ⟨rfl, l.length + 1, by omega, by rw [← hgg, build_top l en hE.kinds, List.drop_zero]⟩)
  rw [hgg]
  have htl : l.length ≤ 1000000 := hE.few
  obtain ⟨vo, vn, vc, rfl⟩ : ∃ o n c, v = .slice o n c := by
    obtain ⟨_, _, ⟨⟨a, c, h, _⟩, _⟩, _⟩ := hE.toks
    exact ⟨_, _, _, h⟩
  have tlen := fun X => hE.toks.len (P := Tryz.prog) 22 3 45 undT X
  have HS0 := hid (Bu.start W (.slice vo vn vc) en)
  have HE := hid hE
  have HM := hid hm
  clear hE hgg hm
  go_enter Tryz.func7, Tryz.ntmps7
  go_wp2_with fail
  go_loopg [9] (2 * l.length + 1) (fun gk sv X => ∃ (o : Option Node) (sb : Bool) (j : Nat) (a e : Int) (n : Node) (av kv : Value), sv = .bool sb ∧ Hid (sb = o.isSome) ∧ j ≤ l.length ∧ (e = 0 → 2 * (l.length - j) + 1 ≤ gk) ∧ Hid (∀ m, o = some m → n = m) ∧ Hid (Bu W (.slice vo vn vc) j en a e n av kv X) ∧ Hid (U1 en l gg o j a e))
  case atStart => exact ⟨none, false, 0, 0, 0, noNode, .slice none 0 0, .slice none 0 0, rfl, hid rfl, by omega, fun _ => by omega, hid (fun m h => by cases h), HS0, HT0⟩
  case round =>
    rename World => X
    obtain ⟨o, sb, j, a, e, n, av, kv, rfl, HSB, hjl, hgk, HN, HS, HT⟩ := hrel
    obtain ⟨rb0, rb1, rb2, rb3, rb4⟩ := HS.out.rb.cells
    have w3 := HS.out.size
    by_cases he : e = 0
    · subst he
      have hgk' := hgk rfl
      clear hgk
      by_cases hj : j < l.length
      · have hj' : (j : Int) < (l.length : Int) := by omega
        have hj2 : decide ((j : Int) < (l.length : Int)) = true := decide_eq_true hj'
        obtain ⟨bp, op, ta, ip, t0', t1', t2', t3', hpr⟩ := HE.out.toks.at (P := Tryz.prog) j hj 22 45 undT sizT
        obtain ⟨ao, an, ac, rfl⟩ : ∃ o n c, ta = .slice o n c := by
          obtain ⟨⟨b, c, hb, _⟩, _⟩ := hpr
          exact ⟨_, _, _, hb⟩
        have hbp : bp < X.heap.size := Nat.lt_of_lt_of_le (World.block_lt_of_cell? _ _ t0') HS.out.old.size
        have t0 := (HS.out.old.cell (p := ⟨bp, op, none⟩) (World.block_lt_of_cell? _ _ t0')).trans t0'
        have t1 := (HS.out.old.cell (p := ⟨bp, op + 1, none⟩) (World.block_lt_of_cell? _ _ t1')).trans t1'
        have t2 := (HS.out.old.cell (p := ⟨bp, op + 2, none⟩) (World.block_lt_of_cell? _ _ t2')).trans t2'
        have t3 := (HS.out.old.cell (p := ⟨bp, op + 3, none⟩) (World.block_lt_of_cell? _ _ t3')).trans t3'
        have ip' := ip .i64
        clear t0' t1' t2' t3' ip hpr
        have hst := HT.out.step hj
        have hkd := HE.out.kinds l[j] (List.getElem_mem hj)
        have hfs := (HE.out.fit l[j] (List.getElem_mem hj)).2.2
        have HEL := hid (fun (Zc : World) (a2 : Int) (lv : Value) (hb : Below W.heap.size W Zc) (hrz : RB Zc (W.heap.size + 1) (.slice vo vn vc) j en a2 0) (hgz : GivO Zc (W.heap.size + 1) lv atFirst) (f2 : Nat) (hf2 : l.length - (j + 1) < f2) (hki : l[j].kind = 0 ∨ l[j].kind = 2) =>
          relement_any HE.out (by omega) (rinside_any HE.out (by omega) HM.out (l.length - (j + 1))) Zc j a2 lv atFirst 1 f2 hb hrz hgz (by simp [atFirst]) (by omega) (by omega) hj (Nat.le_refl _) hf2 hki)
        generalize l[j] = t at *
        have BZ := ba (b0 X) (.cells #[.int .i64 t.kind, .int .i64 t.place, .string (text t.s), .slice ao an ac] 45)
        have HSZ := hid (HS.out.later BZ)
        have PZ := hid (heap_alloc_new X (.cells #[.int .i64 t.kind, .int .i64 t.place, .string (text t.s), .slice ao an ac] 45))
        have hX : W.heap.size + 3 ≤ X.heap.size := HS.out.size
        clear BZ
        obtain ⟨f2, hf2, hst⟩ := hst
        have knd : t.kind = 3 ∨ t.kind = 1 ∨ (t.kind = 0 ∨ t.kind = 2) := by omega
        clear hkd
        rcases knd with hk | hk | hk
        · have q3 : (t.kind == 3) = true := by rw [beq_iff_eq]; exact hk
          rw [if_pos hk] at hst
          have HST := hid hst
          have hk1 : ¬ t.kind = 1 := by omega
          have s1 := text_size t.s
          have HS1 := hid s1
          generalize hG : gk = G at *
          clear hG
          clear hst hk HT s1 hk1
          go_wp2_with fail
          go_loopg [11] t.s.length (fun gi iv Y => ∃ (k : Nat) (a2 e2 : Int), iv = .int .i64 k ∧ k + gi = t.s.length ∧ Hid (Bu W (.slice vo vn vc) j en a2 e2 n av kv Y) ∧ Hid (Y.heap[X.heap.size]? = some (.cells #[.int .i64 t.kind, .int .i64 t.place, .string (text t.s), .slice ao an ac] 45)) ∧ Hid ((e2 = 0 ∧ ∀ m (hm : m < t.s.length), m < k → isSp t.s[m] = true) ∨ (a2 = t.place ∧ e2 = 5 ∧ blankB t.s = false)))
          case atStart => exact ⟨0, a, 0, rfl, by omega, HSZ, PZ, hid (.inl ⟨rfl, fun m _ h => absurd h (by omega)⟩)⟩
          case round =>
            rename World => Y
            obtain ⟨k, a2, e2, rfl, hkg, HSY, PY, HK⟩ := hrel
            have x1 : Y.cell? ⟨X.heap.size, 1, none⟩ = some (.int .i64 t.place) := by rw [Lib.cell_of_heap PY.out]; rfl
            have x2 : Y.cell? ⟨X.heap.size, 2, none⟩ = some (.string (text t.s)) := by rw [Lib.cell_of_heap PY.out]; rfl
            by_cases hks : k < t.s.length
            · have hps : k < (text t.s).size := by rw [HS1.out]; exact hks
              have hbt : ((text t.s)[k]'hps) = t.s[k] := by simp [text]; rfl
              have hbl := UInt8.toNat_lt t.s[k]
              obtain ⟨cb, hcb⟩ : ∃ cb, isSp t.s[k] = cb := ⟨_, rfl⟩
              have hsp : ∀ w, Calls Tryz.prog 12 #[.int .i64 ((t.s[k]).toNat : Int)] w (fun e w' => e = .returned (.bool cb) ∧ w = w') := fun w => by rw [← hcb]; exact RSpace_any _ w
              have HSPC : Hid (∀ w, Calls Tryz.prog 12 #[.int .i64 (wrap64 ((((text t.s)[k]'hps).toNat : Nat) : Int))] w fun e w' => e = .returned (.bool cb) ∧ w = w') := hid (fun w => by rw [hbt, IntWalk.wrap64_in _ (by omega)]; exact hsp w)
              have HCB := hid hcb
              clear hcb hbt hbl hsp
              go_wp2_with fail
              refine (HSPC.out _).mono ?_
              rintro e _ ⟨rfl, rfl⟩
              cases cb with
              | true =>
                go_wp2_with fail
                go_roundg (gk - 1)
                case measure => omega
                case rel => exact ⟨k + 1, a2, e2, by go_num, by omega, HSY, PY, hid (HK.out.imp (fun h => ⟨h.1, fun m hm hmk => by
                  by_cases c : m = k
                  · subst c; exact HCB.out
                  · exact h.2 m hm (by omega)⟩) id)⟩
              | false =>
                go_wp2_with fail
                refine (fail_any t.place 5 _ HSY.out.rb).mono ?_
                rintro e w2 ⟨rfl, hr2, hk2⟩
                have HSW := hid (HSY.out.rbs hr2 hk2)
                have PW := hid ((hk2.block X.heap.size (lt_of_some PY.out) (by omega)).trans PY.out)
                have KK := hid (show (fstA a2 e2 t.place = t.place ∧ fstE e2 5 = 5 ∧ blankB t.s = false) from by
                  have hb : blankB t.s = false := by
                    rw [Bool.eq_false_iff]
                    intro h
                    unfold blankB at h
                    have := List.all_eq_true.1 h _ (List.getElem_mem hks)
                    exact absurd (HCB.out.symm.trans this) (by decide)
                  rcases HK.out with ⟨h, _⟩ | ⟨h1, h2, _⟩
                  · subst h; exact ⟨by simp [fstA], by simp [fstE], hb⟩
                  · subst h1 h2; exact ⟨by simp [fstA], by simp [fstE], hb⟩)
                clear hr2 hk2
                go_wp2_with fail
                go_roundg (gk - 1)
                case measure => omega
                case rel => exact ⟨k + 1, _, _, by go_num, by omega, HSW, PW, hid (.inr KK.out)⟩
            · obtain ⟨y0, y1, y2, y3, y4⟩ := HSY.out.rb.cells
              have yf1 := HSY.out.rb.frozen 1
              have HSN := hid HSY.out.next
              have wj : IntKind.i64.wrap ((j : Int) + 1) = (j : Int) + 1 := IntWalk.i64_in _ ⟨by omega, by omega⟩
              have KK := hid (show U1 en l gg o (j + 1) a2 e2 from by
                rcases HK.out with ⟨h1, h2⟩ | ⟨h1, h2, h3⟩
                · have hb : blankB t.s = true := by
                    unfold blankB
                    rw [List.all_eq_true]
                    intro x hx
                    obtain ⟨m, hm, rfl⟩ := List.getElem_of_mem hx
                    exact h2 m hm (by omega)
                  exact .inl ⟨h1, f2, hf2, by rw [HST.out, if_pos hb]⟩
                · exact .inr ⟨t.place, 5, by decide, h1, h2, by rw [HST.out, h3]; rfl⟩)
              clear HK HST x1
              go_wp2
              go_roundg (G - 2)
              case measure => omega
              case rel => exact ⟨o, sb, j + 1, a2, e2, n, av, kv, rfl, HSB, by omega, fun _ => by omega, HN, HSN, KK⟩
        · have q3 : (t.kind == 3) = false := by rw [beq_eq_false_iff_ne]; omega
          have q1 : (t.kind == 1) = true := by rw [beq_iff_eq]; exact hk
          have hk3 : ¬ t.kind = 3 := by omega
          rw [if_neg hk3, if_pos (.inl hk)] at hst
          clear hk hk3
          have HGG := hid (show gg = (noNode, t.place, 5) from hst)
          clear hst
          go_wp2_with fail
          refine (fail_any t.place 5 _ HSZ.out.rb).mono ?_
          rintro e w2 ⟨rfl, hr2, hk2⟩
          have HSW := hid (HSZ.out.rbs hr2 hk2)
          clear hr2 hk2
          go_wp2
          go_roundg (gk - 2)
          case measure => omega
          case rel => exact ⟨o, sb, j, _, _, n, av, kv, rfl, HSB, hjl, fun q => absurd q (by simp [fstE]), HN, HSW, hid (U1.bad (by decide) HGG.out j o a)⟩
        · have q3 : (t.kind == 3) = false := by rw [beq_eq_false_iff_ne]; omega
          have q1 : (t.kind == 1) = false := by rw [beq_eq_false_iff_ne]; omega
          have hk3 : ¬ t.kind = 3 := by omega
          have hk1 : ¬ t.kind = 1 := by omega
          rw [if_neg hk3] at hst
          clear hk3
          cases sb with
          | true =>
            rw [if_pos (.inr (by rw [← HSB.out]))] at hst
            have HGG := hid (show gg = (noNode, t.place, 5) from hst)
            clear hst
            go_wp2_with fail
            refine (fail_any t.place 5 _ HSZ.out.rb).mono ?_
            rintro e w2 ⟨rfl, hr2, hk2⟩
            have HSW := hid (HSZ.out.rbs hr2 hk2)
            clear hr2 hk2
            go_wp2
            go_roundg (gk - 2)
            case measure => omega
            case rel => exact ⟨o, true, j, _, _, n, av, kv, rfl, HSB, hjl, fun q => absurd q (by simp [fstE]), HN, HSW, hid (U1.bad (by decide) HGG.out j o a)⟩
          | false =>
            have ho : ¬ (t.kind = 1 ∨ o.isSome = true) := fun h => h.elim hk1 (fun h => by rw [← HSB.out] at h; cases h)
            rw [if_neg ho] at hst
            have BL := ba (b0 (X.alloc (.cells #[.int .i64 t.kind, .int .i64 t.place, .string (text t.s), .slice ao an ac] 45))) (.cells #[.string ⟨#[]⟩, .string ⟨#[]⟩, .string ⟨#[120, 109, 108]⟩, .string ⟨#[104, 116, 116, 112, 58, 47, 47, 119, 119, 119, 46, 119, 51, 46, 111, 114, 103, 47, 88, 77, 76, 47, 49, 57, 57, 56, 47, 110, 97, 109, 101, 115, 112, 97, 99, 101]⟩] 58)
            have HSL := hid (HSZ.out.later BL)
            have GV := hid (show GivO ((X.alloc (.cells #[.int .i64 t.kind, .int .i64 t.place, .string (text t.s), .slice ao an ac] 45)).alloc (.cells #[.string ⟨#[]⟩, .string ⟨#[]⟩, .string ⟨#[120, 109, 108]⟩, .string ⟨#[104, 116, 116, 112, 58, 47, 47, 119, 119, 119, 46, 119, 51, 46, 111, 114, 103, 47, 88, 77, 76, 47, 49, 57, 57, 56, 47, 110, 97, 109, 101, 115, 112, 97, 99, 101]⟩] 58)) (W.heap.size + 1) (.slice (some ⟨X.heap.size + 1, 0, none⟩) 2 2) atFirst from ⟨by
              have := Row.ofBuild (sz := 2) (X.alloc (.cells #[.int .i64 t.kind, .int .i64 t.place, .string (text t.s), .slice ao an ac] 45)) #[.string ⟨#[]⟩, .string ⟨#[]⟩, .string ⟨#[120, 109, 108]⟩, .string ⟨#[104, 116, 116, 112, 58, 47, 47, 119, 119, 119, 46, 119, 51, 46, 111, 114, 103, 47, 88, 77, 76, 47, 49, 57, 57, 56, 47, 110, 97, 109, 101, 115, 112, 97, 99, 101]⟩] 58 2 rfl (by omega)
              rw [World.size_alloc] at this
              exact this, fun _ b hb q => by
              have : X.heap.size + 1 = b := by simpa [Value.ownBlock] using hb
              omega, by decide, by
              intro x hx
              simp only [atFirst, List.mem_cons, List.mem_nil_iff, or_false] at hx
              rcases hx with rfl | rfl <;> decide⟩)
            have EL := hid (HEL.out _ a _ HSL.out.old HSL.out.rb GV.out f2 hf2 hk)
            have HST := hid hst
            clear hst BL ho HEL
            go_wp2_with fail
            refine EL.out.mono ?_
            rintro e w5 ⟨m, ao5, an5, ac5, ko5, kn5, kc5, j5, a5, e5, rfl, hn5, hr5, hk5, hj1, hj2', ht5⟩
            have HS5 := hid (HSL.out.rbs hr5 hk5)
            have hn6 := hn5.to (A' := fun b => b < W.heap.size + 3) (fun b _ q => by have := HSL.out.size; omega) (Keep.refl _ _)
            have HS6 := hid (HS5.out.store hn6)
            have KU := hid (show U1 en l gg (some m) j5 a5 e5 from by
              cases hel : elemW (fun g n d r => insF f2 g n d [] [] r) atFirst 1 t (l.drop (j + 1)) with
              | error x =>
                have hg := HST.out
                rw [hel] at ht5 hg
                cases x with
                | none => exact .inr ⟨en, 10, by decide, ht5.2.1, ht5.2.2, hg⟩
                | some x => exact .inr ⟨x.1, x.2, elemW_ne hel, ht5.2.1, ht5.2.2, hg⟩
              | ok k =>
                have hg := HST.out
                rw [hel] at ht5 hg
                dsimp only at hg
                exact .inl ⟨ht5.2.1, f2, by omega, by rw [hg, ht5.1, ht5.2.2]⟩)
            have HJ := hid (show j < j5 ∧ j5 ≤ l.length from ⟨hj1, hj2'⟩)
            have hnod := HS5.out.nod
            have n0 := Lib.cell_of_heap hnod 0
            have n1 := Lib.cell_of_heap hnod 1
            have n2 := Lib.cell_of_heap hnod 2
            have n3 := Lib.cell_of_heap hnod 3
            have n4 := Lib.cell_of_heap hnod 4
            have n5 := Lib.cell_of_heap hnod 5
            have m0 := Lib.frozen_of_heap hnod 0
            have m1 := Lib.frozen_of_heap hnod 1
            have m2 := Lib.frozen_of_heap hnod 2
            have m3 := Lib.frozen_of_heap hnod 3
            have m4 := Lib.frozen_of_heap hnod 4
            have m5 := Lib.frozen_of_heap hnod 5
            simp only [List.getElem?_toArray, List.getElem?_cons_succ, List.getElem?_cons_zero] at n0 n1 n2 n3 n4 n5
            unfold nodeV
            clear hnod hn5 hr5 hk5 hj1 hj2' ht5 hn6
            go_wp2
            go_roundg (gk - 2)
            case measure => omega
            case rel => exact ⟨some m, true, j5, a5, e5, m, _, _, rfl, hid rfl, HJ.out.2, fun _ => by have := HJ.out; omega, hid (fun q h => by injection h), HS6, KU⟩
      · have hj2 : decide ((j : Int) < (l.length : Int)) = false := by rw [decide_eq_false_iff_not]; omega
        have hj' : ¬ ((j : Int) < (l.length : Int)) := by omega
        obtain ⟨hf1, hf2⟩ := HT.out.fin (by omega)
        cases sb with
        | false =>
          have ho : o = none := by
            cases o with
            | none => rfl
            | some m => have := HSB.out; cases this
          have HGG := hid (hf1 ho)
          clear hf1 hf2
          go_wp2_with fail
          refine (fail_any en 10 _ HS.out.rb).mono ?_
          rintro e w2 ⟨rfl, hr2, hk2⟩
          have HF := hid (HS.out.rbs hr2 hk2)
          rw [show fstA a 0 en = en from by simp [fstA], show fstE 0 10 = 10 from by simp [fstE]] at HF
          clear hr2 hk2
          have hres := HF.out.res
          have z0 := Lib.cell_of_heap hres 0
          have z1 := Lib.cell_of_heap hres 1
          have z2 := Lib.cell_of_heap hres 2
          have z3 := Lib.cell_of_heap hres 3
          have z4 := Lib.cell_of_heap hres 4
          have z5 := Lib.cell_of_heap hres 5
          have zf0 := Lib.frozen_of_heap hres 0
          have zf1 := Lib.frozen_of_heap hres 1
          have zf2 := Lib.frozen_of_heap hres 2
          have zf3 := Lib.frozen_of_heap hres 3
          have zf4 := Lib.frozen_of_heap hres 4
          have zf5 := Lib.frozen_of_heap hres 5
          simp only [List.getElem?_toArray, List.getElem?_cons_succ, List.getElem?_cons_zero] at z0 z1 z2 z3 z4 z5
          have HRES := hid hres
          obtain ⟨rr0, rr1, rr2, rr3, rr4⟩ := HF.out.rb.cells
          have mixed : Tryz.prog.follows Departure.mixedOrders = true := by kernel_rfl
          clear hres
          go_wp2_with fail
          go_region_o
          go_wp2
          obtain ⟨p4, g4⟩ := putSix HRES.out (.int .i64 0) (.string ⟨#[]⟩) (.string ⟨#[]⟩) (.slice none 0 0) (.slice none 0 0) (.string ⟨#[]⟩)
          refine bodyPost_ret (results_three rfl _ _ _ _ rfl (run_loadVar_row _ _ _ _ _ _ _ (show (World.drew _).heap[W.heap.size]? = _ from p4) Tryz.underlying32 rfl sizeNode6)) rfl ?_
          rw [HGG.out]
          exact ⟨⟨none, 0, 0, none, 0, 0, rfl, IsN.of (Atts.nil _ _) (Kids.nil _ _)⟩, bdrewB (HF.out.old.grown g4 HF.out.old.size (fun b q => by injection q with q; omega)) 1⟩
        | true =>
          have ho : ∃ m, o = some m := by
            cases o with
            | none => have := HSB.out; cases this
            | some m => exact ⟨m, rfl⟩
          obtain ⟨m, rfl⟩ := ho
          have hnm := HN.out m rfl
          subst hnm
          have HGG := hid (hf2 n rfl)
          clear hf1 hf2
          obtain ⟨⟨xo, xn, xc, hx1⟩, yo, yn, yc, hy1⟩ := HS.out.is.forms
          subst hx1 hy1
          have hnod := HS.out.nod
          have n0 := Lib.cell_of_heap hnod 0
          have n1 := Lib.cell_of_heap hnod 1
          have n2 := Lib.cell_of_heap hnod 2
          have n3 := Lib.cell_of_heap hnod 3
          have n4 := Lib.cell_of_heap hnod 4
          have n5 := Lib.cell_of_heap hnod 5
          simp only [List.getElem?_toArray, List.getElem?_cons_succ, List.getElem?_cons_zero] at n0 n1 n2 n3 n4 n5
          have HF := HS
          have hres := HF.out.res
          have z0 := Lib.cell_of_heap hres 0
          have z1 := Lib.cell_of_heap hres 1
          have z2 := Lib.cell_of_heap hres 2
          have z3 := Lib.cell_of_heap hres 3
          have z4 := Lib.cell_of_heap hres 4
          have z5 := Lib.cell_of_heap hres 5
          have zf0 := Lib.frozen_of_heap hres 0
          have zf1 := Lib.frozen_of_heap hres 1
          have zf2 := Lib.frozen_of_heap hres 2
          have zf3 := Lib.frozen_of_heap hres 3
          have zf4 := Lib.frozen_of_heap hres 4
          have zf5 := Lib.frozen_of_heap hres 5
          simp only [List.getElem?_toArray, List.getElem?_cons_succ, List.getElem?_cons_zero] at z0 z1 z2 z3 z4 z5
          have HRES := hid hres
          clear hres hnod
          go_wp2
          obtain ⟨p4, g4⟩ := putSix HRES.out (.int .i64 n.place) (.string (text n.nm.1)) (.string (text n.nm.2)) (.slice xo xn xc) (.slice yo yn yc) (.string (text n.text))
          refine bodyPost_ret (results_three rfl _ _ _ _ rfl (run_loadVar_row _ _ _ _ _ _ _ p4 Tryz.underlying32 rfl sizeNode6)) rfl ?_
          rw [HGG.out]
          exact ⟨⟨xo, xn, xc, yo, yn, yc, rfl, HS.out.is.to (fun b _ q => by omega) (Keep.of_grown g4 (fun b q => by injection q with q; omega))⟩, HS.out.old.grown g4 HS.out.old.size (fun b q => by injection q with q; omega)⟩
    · have q : (e == 0) = false := by rw [beq_eq_false_iff_ne]; exact he
      have q2 : (e != 0) = true := by rw [bne_iff_ne]; exact he
      obtain ⟨p, k, hk, hap, hek, hg⟩ : ∃ p k, k ≠ 0 ∧ a = p ∧ e = (k : Nat) ∧ gg = (noNode, p, k) := by
        rcases HT.out with ⟨h, _⟩ | h
        · exact absurd h he
        · exact h
      subst hap
      have HGG := hid hg
      have HEK := hid hek
      have hkk : ((k : Int) == 0) = false := by rw [← hek]; exact q
      have hkn : ((k : Int) != 0) = true := by rw [← hek]; exact q2
      have HE0 := hid he
      rw [hek] at HS rb4
      clear hg q q2 he hgk HT hk
      cases sb with
      | false =>
        go_wp2_with fail
        refine (fail_any en 10 _ HS.out.rb).mono ?_
        rintro e9 w2 ⟨rfl, hr2, hk2⟩
        have HF := hid (HS.out.rbs hr2 hk2)
        have hk0 : ¬ ((k : Int) = 0) := by have := HE0.out; have := HEK.out; omega
        rw [show fstA a (k : Int) en = a from by unfold fstA; rw [if_neg hk0], show fstE (k : Int) 10 = k from by unfold fstE; rw [if_neg hk0]] at HF
        clear hr2 hk2 hk0 hek
        have hres := HF.out.res
        have z0 := Lib.cell_of_heap hres 0
        have z1 := Lib.cell_of_heap hres 1
        have z2 := Lib.cell_of_heap hres 2
        have z3 := Lib.cell_of_heap hres 3
        have z4 := Lib.cell_of_heap hres 4
        have z5 := Lib.cell_of_heap hres 5
        have zf0 := Lib.frozen_of_heap hres 0
        have zf1 := Lib.frozen_of_heap hres 1
        have zf2 := Lib.frozen_of_heap hres 2
        have zf3 := Lib.frozen_of_heap hres 3
        have zf4 := Lib.frozen_of_heap hres 4
        have zf5 := Lib.frozen_of_heap hres 5
        simp only [List.getElem?_toArray, List.getElem?_cons_succ, List.getElem?_cons_zero] at z0 z1 z2 z3 z4 z5
        have HRES := hid hres
        obtain ⟨rr0, rr1, rr2, rr3, rr4⟩ := HF.out.rb.cells
        have mixed : Tryz.prog.follows Departure.mixedOrders = true := by kernel_rfl
        clear hres
        go_wp2_with fail
        go_region_o
        go_wp2
        obtain ⟨p4, g4⟩ := putSix HRES.out (.int .i64 0) (.string ⟨#[]⟩) (.string ⟨#[]⟩) (.slice none 0 0) (.slice none 0 0) (.string ⟨#[]⟩)
        refine bodyPost_ret (results_three rfl _ _ _ _ rfl (run_loadVar_row _ _ _ _ _ _ _ (show (World.drew _).heap[W.heap.size]? = _ from p4) Tryz.underlying32 rfl sizeNode6)) rfl ?_
        rw [HGG.out]
        exact ⟨⟨none, 0, 0, none, 0, 0, rfl, IsN.of (Atts.nil _ _) (Kids.nil _ _)⟩, bdrewB (HF.out.old.grown g4 HF.out.old.size (fun b q => by injection q with q; omega)) 1⟩
      | true =>
        have HF := HS
        clear hek
        have hres := HF.out.res
        have z0 := Lib.cell_of_heap hres 0
        have z1 := Lib.cell_of_heap hres 1
        have z2 := Lib.cell_of_heap hres 2
        have z3 := Lib.cell_of_heap hres 3
        have z4 := Lib.cell_of_heap hres 4
        have z5 := Lib.cell_of_heap hres 5
        have zf0 := Lib.frozen_of_heap hres 0
        have zf1 := Lib.frozen_of_heap hres 1
        have zf2 := Lib.frozen_of_heap hres 2
        have zf3 := Lib.frozen_of_heap hres 3
        have zf4 := Lib.frozen_of_heap hres 4
        have zf5 := Lib.frozen_of_heap hres 5
        simp only [List.getElem?_toArray, List.getElem?_cons_succ, List.getElem?_cons_zero] at z0 z1 z2 z3 z4 z5
        have HRES := hid hres
        obtain ⟨rr0, rr1, rr2, rr3, rr4⟩ := HF.out.rb.cells
        have mixed : Tryz.prog.follows Departure.mixedOrders = true := by kernel_rfl
        clear hres
        go_wp2_with fail
        go_region_o
        go_wp2
        obtain ⟨p4, g4⟩ := putSix HRES.out (.int .i64 0) (.string ⟨#[]⟩) (.string ⟨#[]⟩) (.slice none 0 0) (.slice none 0 0) (.string ⟨#[]⟩)
        refine bodyPost_ret (results_three rfl _ _ _ _ rfl (run_loadVar_row _ _ _ _ _ _ _ (show (World.drew _).heap[W.heap.size]? = _ from p4) Tryz.underlying32 rfl sizeNode6)) rfl ?_
        rw [HGG.out]
        exact ⟨⟨none, 0, 0, none, 0, 0, rfl, IsN.of (Atts.nil _ _) (Kids.nil _ _)⟩, bdrewB (HF.out.old.grown g4 HF.out.old.size (fun b q => by injection q with q; omega)) 1⟩
end Go.Proofs.YthodmdfbahkflaaGreatDoor.Tree
