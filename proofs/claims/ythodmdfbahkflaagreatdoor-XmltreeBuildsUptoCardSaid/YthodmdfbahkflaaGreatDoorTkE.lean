/- Layer 4: contract of attribute. | Layer 4: contract of attributes. | Layer 4: contract of add. | Layer 4: contract of text. | Layer 4: contracts of declares, declaration, comment. | Layer 4: contracts of closing and raw. | Layer 4: contract of opening. | Layer 4: contract of next. | Layer 4: contract of Tokens. -/
import Derived.Test.YthodmdfbahkflaaGreatDoorTkB
import Derived.Test.YthodmdfbahkflaaGreatDoorTkD
import Derived.Test.YthodmdfbahkflaaGreatDoorTkC
import Derived.Test.YthodmdfbahkflaaGreatDoorTkA
import Derived.Deep.AppendLies
import Derived.Lib.SlBytesConst
import Derived.Test.YthodmdfbahkflaaGreatDoorPk2
set_option linter.unusedVariables false
set_option linter.unusedSimpArgs false
namespace Go.Proofs.YthodmdfbahkflaaGreatDoor.Tok
open Go Go.Proofs.YthodmdfbahkflaaGreatDoor Go.Proofs.YthodmdfbahkflaaGreatDoor.Utf Go.Proofs.YthodmdfbahkflaaGreatDoor.Names Go.Proofs.YthodmdfbahkflaaGreatDoor.Ent Go.RowKit
set_option maxRecDepth 100000

/-- An attribute as a value. -/
def prV (k : Int) (nm vl : List UInt8) : Value := .agg #[.int .i64 k, .string (text nm), .string (text vl)]
/-- What attribute answers. -/
def GotA (W : World) (r mb : Nat) (v : Value) (l : List UInt8) (k : Nat) (t : Value) (seen : List (List UInt8)) (o : Res (List UInt8 × List UInt8)) (e : Ending) (w' : World) : Prop :=
  match o with
  | .ok x n => e = .returned (.tuple #[prV k x.1 x.2, .int .i64 0]) ∧ Rd W r v l (k + n) t w' ∧ SeenMap w' mb (x.1 :: seen)
  | .bad p x => e = .returned (.tuple #[prV 0 [] [], .int .i64 x]) ∧ Rd W r v l (k + p) t w'
theorem GotA.ok {W : World} {r mb : Nat} {v : Value} {l : List UInt8} {k : Nat} {t : Value} {seen : List (List UInt8)} {o : Res (List UInt8 × List UInt8)} {x : List UInt8 × List UInt8} {n j : Nat} {e : Ending} {w' : World} (h : o = .ok x n) (h1 : e = .returned (.tuple #[prV k x.1 x.2, .int .i64 0])) (h2 : Rd W r v l j t w') (h3 : j = k + n) (h4 : SeenMap w' mb (x.1 :: seen)) : GotA W r mb v l k t seen o e w' := by
  subst h; subst h3; exact ⟨h1, h2, h4⟩
theorem GotA.bad {W : World} {r mb : Nat} {v : Value} {l : List UInt8} {k : Nat} {t : Value} {seen : List (List UInt8)} {o : Res (List UInt8 × List UInt8)} {p x j : Nat} {e : Ending} {w' : World} (h : o = .bad p x) (h1 : e = .returned (.tuple #[prV 0 [] [], .int .i64 x])) (h2 : Rd W r v l j t w') (h3 : j = k + p) : GotA W r mb v l k t seen o e w' := by
  subst h; subst h3; exact ⟨h1, h2⟩

theorem sizePr : (Tryz.prog.info? 73).map (·.size) = some 3 := by kernel_rfl
theorem results_pair {fn : Func} {p u : Tmp} {ty : TypeId} (h : fn.results = #[.cell p ty, .tmp u]) {P : Program} (tmps : Array Value) (w : World) (g : Nat) (cs : Array Value)
    (hp : tmps.getD p undef = .pointer (some ⟨g, 0, none⟩)) (hrun : (loadVar ty ⟨g, 0, none⟩).run P w = .ok (.agg cs) w) :
    (results fn tmps).run P w = .ok (.tuple #[.agg cs, tmps.getD u undef]) w := by
  rw [results_cell_tmp h, hp]
  simp [asAddr, hrun, Result.andThen]
/-- Three stores into one block. -/
theorem put3 {w : World} {b : Nat} {a1 a2 a3 : Value} {ty : TypeId} (h : w.heap[b]? = some (.cells #[a1, a2, a3] ty (0, 0))) (x y z : Value) :
    (((w.setCell ⟨b, 0, none⟩ x).setCell ⟨b, 1, none⟩ y).setCell ⟨b, 2, none⟩ z).heap[b]? = some (.cells #[x, y, z] ty (0, 0)) ∧ w.grownBy (((w.setCell ⟨b, 0, none⟩ x).setCell ⟨b, 1, none⟩ y).setCell ⟨b, 2, none⟩ z) (some b) := by
  refine ⟨by simp [World.setCell, Array.getElem?_modify, h], ?_⟩
  exact Kept.trans (Kept.trans (Kept.put b 0 w x) (Kept.put b 1 _ y)) (Kept.put b 2 _ z)
theorem pair_end {r mb : Nat} {w w1 w2 : World} {o : Obj} (K : Kept2 r mb (w.alloc o) w1) (g : w1.grownBy w2 (some w.heap.size)) : Kept2 r mb w w2 := by
  have hz : (w.alloc o).heap.size = w.heap.size + 1 := by simp
  have hs := K.size
  refine ⟨g.os.trans (K.os.trans rfl), g.tape.trans (K.tape.trans rfl), g.output.trans (K.output.trans rfl), Nat.le_trans (by omega) g.size, fun k hk h1 h2 => ?_⟩
  rw [g.block k (by omega) (fun e => by injection e with e; omega), K.block k (by omega) h1 h2]
  exact heap_alloc_old w o hk

theorem equalR_no {m : List UInt8} (h : pre [61] (m.drop (blanks m)) = false) : equalR m = .bad (blanks m) (short (m.drop (blanks m))) := by
  unfold equalR
  split
  · rename_i e; rw [e] at h; simp [pre, List.isPrefixOf] at h
  · rfl
theorem equalR_yes {m r : List UInt8} (h : m.drop (blanks m) = 61 :: r) : equalR m = Res.from (blanks m + 1 + blanks r) (fun v _ => .ok v 0) (valueR (r.drop (blanks r))) := by
  unfold equalR
  rw [h]
  rfl

section
variable {W w : World} {r k mb : Nat} {v t : Value} {l : List UInt8} {seen : List (List UInt8)}
set_option maxHeartbeats 4000000

theorem attribute_any (h : Rd W r v l k t w) (hs : SeenMap w mb seen) (hmb : mb ≠ r) (hlow : W.heap.size ≤ mb) (hn : seen.length ≤ 1000000) :
    Calls Tryz.prog 102 #[.pointer (some ⟨r, 0, none⟩), .map (some mb)] w fun e w' => GotA W r mb v l k t seen (attrT seen (l.drop k)) e w' ∧ Kept2 r mb w w' := by
  have hlen := h.len
  have htop := h.top
  have hmlt := hs.lt
  have hlt := h.lt
  have hold := h.old.size
  have h0 : Rd W r v l k t (w.alloc (.cells #[.int .i64 0, .string ⟨#[]⟩, .string ⟨#[]⟩] 73)) := h.later (ba (b0 w) _)
  have s0 : SeenMap (w.alloc (.cells #[.int .i64 0, .string ⟨#[]⟩, .string ⟨#[]⟩] 73)) mb seen := hs.later (ba (b0 w) _)
  have p0 : (w.alloc (.cells #[.int .i64 0, .string ⟨#[]⟩, .string ⟨#[]⟩] 73)).heap[w.heap.size]? = some (.cells #[.int .i64 0, .string ⟨#[]⟩, .string ⟨#[]⟩] 73) := heap_alloc_new w _
  have c1 := h0.c1
  have N := name_any h0
  have P0 := hid p0
  clear p0
  obtain ⟨m, hm⟩ : ∃ m, l.drop k = m := ⟨_, rfl⟩
  have hdr : ∀ n, l.drop (k + n) = m.drop n := by subst hm; intro n; rw [List.drop_drop]
  have hml : m.length + k = l.length := by rw [← hm, List.length_drop]; omega
  rw [hm] at N ⊢
  have HD := hid hdr
  clear hm hdr
  cases hnm : nameR m with
  | bad p x =>
    have E := hid (show attrT seen m = .bad p x by unfold attrT; rw [hnm])
    have hx := (nameR_bad hnm).2
    rw [hnm] at N
    have NN := hid N
    have hx2 : ((x : Int) == 0) = false := by rw [beq_eq_false_iff_ne]; omega
    clear N hnm h hs h0 s0
    go_enter Tryz.func102, Tryz.ntmps102
    go_wp2_with fail
    refine NN.out.mono ?_
    rintro e w1 ⟨⟨rfl, h1⟩, k1⟩
    have k2 : Kept2 r mb _ w1 := Kept2.of k1
    have p1 := (k1.block w.heap.size (by simp) (fun e => by injection e with e; omega)).trans P0.out
    have d0 : w1.cell? ⟨w.heap.size, 0, none⟩ = some (.int .i64 0) := by rw [Lib.cell_of_heap p1]; rfl
    have d1 : w1.cell? ⟨w.heap.size, 1, none⟩ = some (.string ⟨#[]⟩) := by rw [Lib.cell_of_heap p1]; rfl
    have d2 : w1.cell? ⟨w.heap.size, 2, none⟩ = some (.string ⟨#[]⟩) := by rw [Lib.cell_of_heap p1]; rfl
    have f0 := Lib.frozen_of_heap p1 0
    have f1 := Lib.frozen_of_heap p1 1
    have f2 := Lib.frozen_of_heap p1 2
    have H1 := hid h1
    have K1 := hid k2
    have P1 := hid p1
    clear h1 k2 p1
    clear k1
    go_wp2
    obtain ⟨p3, g3⟩ := put3 P1.out (.int .i64 0) (.string ⟨#[]⟩) (.string ⟨#[]⟩)
    refine bodyPost_ret (results_pair rfl _ _ _ _ rfl (run_loadVar_row _ _ _ _ _ _ _ p3 Tryz.underlying73 rfl sizePr)) rfl ?_
    exact ⟨GotA.bad E.out rfl (H1.out.grown g3 (by omega) hold) rfl, pair_end K1.out g3⟩
  | ok nm n =>
    rw [hnm] at N
    have NN := hid N
    obtain ⟨hnm1, hn1, hn2, _⟩ := nameR_is hnm
    have hnl : nm.length ≤ 281474976710656 := by rw [hnm1, List.length_take]; omega
    cases hct : seen.contains nm with
    | true =>
      have E := hid (show attrT seen m = .bad 0 8 by unfold attrT; rw [hnm]; dsimp only; rw [if_pos hct])
      have S0 := hid s0
      have HC := hid hct
      have HNL := hid hnl
      clear N hnm h hs h0 s0 hct hnm1 hnl
      go_enter Tryz.func102, Tryz.ntmps102
      go_wp2_with fail
      refine NN.out.mono ?_
      rintro e w1 ⟨⟨rfl, h1⟩, k1⟩
      have hlk := (S0.out.kept k1 (fun e => by injection e with e; exact hmb e)).look nm HNL.out
      rw [HC.out] at hlk
      have k2 : Kept2 r mb _ w1 := Kept2.of k1
      have e1 := h1.f1
      have e2 := h1.c1
      have p1 := (k1.block w.heap.size (by simp) (fun e => by injection e with e; omega)).trans P0.out
      have d0 : w1.cell? ⟨w.heap.size, 0, none⟩ = some (.int .i64 0) := by rw [Lib.cell_of_heap p1]; rfl
      have d1 : w1.cell? ⟨w.heap.size, 1, none⟩ = some (.string ⟨#[]⟩) := by rw [Lib.cell_of_heap p1]; rfl
      have d2 : w1.cell? ⟨w.heap.size, 2, none⟩ = some (.string ⟨#[]⟩) := by rw [Lib.cell_of_heap p1]; rfl
      have f0 := Lib.frozen_of_heap p1 0
      have f1 := Lib.frozen_of_heap p1 1
      have f2 := Lib.frozen_of_heap p1 2
      have H1 := hid h1
      have K1 := hid k2
      have P1 := hid p1
      clear h1 k2 p1
      clear k1
      unfold strV
      go_wp2
      have h2 := H1.out.move k (k : Int) rfl hlen
      have p2 : (w1.setCell ⟨r, 1, none⟩ (.int .i64 (k : Int))).heap[w.heap.size]? = _ := ((Kept.put r 1 w1 (.int .i64 (k : Int))).block w.heap.size (by have := K1.out.size; simp at this; omega) (fun e => by injection e with e; omega)).trans P1.out
      obtain ⟨p3, g3⟩ := put3 p2 (.int .i64 0) (.string ⟨#[]⟩) (.string ⟨#[]⟩)
      refine bodyPost_ret (results_pair rfl _ _ _ _ rfl (run_loadVar_row _ _ _ _ _ _ _ p3 Tryz.underlying73 rfl sizePr)) rfl ?_
      exact ⟨GotA.bad E.out rfl (h2.grown g3 (by omega) hold) rfl, pair_end (K1.out.trans (Kept2.of (Kept.put r 1 w1 _))) g3⟩
    | false =>
      have hct2 : ¬ seen.contains nm = true := by rw [hct]; simp
      obtain ⟨m1, hm1⟩ : ∃ m1, m.drop n = m1 := ⟨_, rfl⟩
      have HDn : Hid (∀ j, l.drop (k + n + j) = m1.drop j) := by
        refine hid fun j => ?_
        rw [Nat.add_assoc, HD.out, ← hm1, List.drop_drop]
      have hm1l : m1.length + n = m.length := by rw [← hm1, List.length_drop]; omega
      have B1 := fun X (hX : Rd W r v l (k + n) t X) => blanks_any hX
      have hb1 := blanks_fit m1
      simp only [HD.out n, hm1] at B1
      have BB1 := hid B1
      have A1 := fun X (hX : Rd W r v l (k + n + blanks m1) t X) => ask_any hX [61] (by decide) ⟨#[61]⟩ rfl
      simp only [HDn.out] at A1
      have ZC := hid (show ∀ X, SeenMap X mb seen → ∀ (D : DataW Unit) (q : Nat), True from fun _ _ _ _ => trivial)
      have S0 := hid s0
      have HC := hid hct
      have HNL := hid hnl
      have hkey : keyOf Tryz.prog 9 (.string (text nm)) = some (.string nm) := by
        have := WideMaps.keyOf_string_mk (P := Tryz.prog) under9 (s := text nm) (by rw [text_size]; unfold maxLen; omega)
        rw [_root_.Go.Proofs.YthodmdfbahkflaaGreatDoor.text_data] at this
        exact this
      have HKEY := hid hkey
      cases hp61 : pre [61] (m1.drop (blanks m1)) with
      | false =>
        simp only [hp61, Bool.false_eq_true, if_false] at A1
        have AA1 := hid A1
        have E := hid (show attrT seen m = .bad (n + blanks m1) (short (m1.drop (blanks m1))) by
          unfold attrT; rw [hnm]; dsimp only; rw [if_neg hct2, hm1, equalR_no hp61])
        have hx2 : ((short (m1.drop (blanks m1)) : Int) == 0) = false := by rw [beq_eq_false_iff_ne]; have := short_ne (m1.drop (blanks m1)); omega
        generalize short (m1.drop (blanks m1)) = x at *
        clear N hnm h hs h0 s0 hct hct2 hnm1 hnl hm1 B1 A1 hkey hp61
        go_enter Tryz.func102, Tryz.ntmps102
        go_wp2_with fail
        refine NN.out.mono ?_
        rintro e w1 ⟨⟨rfl, h1⟩, k1⟩
        have s1 := S0.out.kept k1 (fun e => by injection e with e; exact hmb e)
        have hlk := s1.look nm HNL.out
        rw [HC.out] at hlk
        obtain ⟨D, q, hq, hown, hI, hD⟩ := s1
        have SI := hid hI
        have SD := hid hD
        have lt1 : w.heap.size < w1.heap.size := by have := k1.size; simp at this; omega
        have LT1 := hid lt1
        have H1 := hid h1
        have P1 := hid ((k1.block w.heap.size (by simp) (fun e => by injection e with e; omega)).trans P0.out)
        have K1 := hid (Kept2.of k1 : Kept2 r mb _ w1)
        clear k1 h1 hI hD lt1
        unfold strV
        go_wp2_with (refine wpList_mapUpdate_own _ rfl _ _ _ 156 rfl 9 4 (Maps.string_keyed under9) Names.underM (plainElem (H := Unit) Tryz.prog 4) _ _ _ rfl hown (by unfold maxLen; omega) _ _ _ rfl rfl HKEY.out (.lit (.bool true)) [] (plainElem_bool underO true) ?_; clear hown hlk; intro w2 hown hg2; have H2 := hid (H1.out.grown hg2 hmb hlow); have S2 := hid (SeenMap.put SI.out SD.out hq nm hown); have K2 := hid (K1.out.trans (Kept2.off hg2)); have P2 := hid ((hg2.block w.heap.size LT1.out (fun e => by injection e with e; omega)).trans P1.out); have LT2 := hid (Nat.lt_of_lt_of_le LT1.out hg2.size); clear hg2 hown)
        go_wp2_with fail
        refine (BB1.out _ H2.out).mono ?_
        rintro e w3 ⟨rfl, h3, k3⟩
        have H3 := hid h3
        have K3 := hid (K2.out.trans (Kept2.of k3))
        have P3 := hid ((k3.block w.heap.size LT2.out (fun e => by injection e with e; omega)).trans P2.out)
        have LT3 := hid (Nat.lt_of_lt_of_le LT2.out k3.size)
        clear h3 k3
        go_wp2_with fail
        refine (AA1.out _ H3.out).mono ?_
        rintro e w4 ⟨rfl, h4, k4⟩
        have P4 := hid ((k4.block w.heap.size LT3.out (fun e => by injection e with e; omega)).trans P3.out)
        have p1 := P4.out
        have h1 := h4
        have k2 := K3.out.trans (Kept2.of k4)
        clear h4 k4
        have d0 : w4.cell? ⟨w.heap.size, 0, none⟩ = some (.int .i64 0) := by rw [Lib.cell_of_heap p1]; rfl
        have d1 : w4.cell? ⟨w.heap.size, 1, none⟩ = some (.string ⟨#[]⟩) := by rw [Lib.cell_of_heap p1]; rfl
        have d2 : w4.cell? ⟨w.heap.size, 2, none⟩ = some (.string ⟨#[]⟩) := by rw [Lib.cell_of_heap p1]; rfl
        have f0 := Lib.frozen_of_heap p1 0
        have f1 := Lib.frozen_of_heap p1 1
        have f2 := Lib.frozen_of_heap p1 2
        have H1 := hid h1
        have K1 := hid k2
        have P1 := hid p1
        clear h1 k2 p1
        go_wp2
        obtain ⟨p3, g3⟩ := put3 P1.out (.int .i64 0) (.string ⟨#[]⟩) (.string ⟨#[]⟩)
        refine bodyPost_ret (results_pair rfl _ _ _ _ rfl (run_loadVar_row _ _ _ _ _ _ _ p3 Tryz.underlying73 rfl sizePr)) rfl ?_
        exact ⟨GotA.bad E.out rfl (H1.out.grown g3 (by omega) hold) (by omega), pair_end K1.out g3⟩
      | true =>
        simp only [hp61, if_true] at A1
        have AA1 := hid A1
        obtain ⟨m2, hm2⟩ := (pre_one 61 _).1 hp61
        have HDm : Hid (∀ j, l.drop (k + n + blanks m1 + 1 + j) = m2.drop j) := by
          refine hid fun j => ?_
          rw [show k + n + blanks m1 + 1 + j = k + n + (blanks m1 + 1 + j) from by omega, HDn.out, ← List.drop_drop, ← List.drop_drop, hm2]
          rfl
        have B2 := fun X (hX : Rd W r v l (k + n + blanks m1 + 1) t X) => blanks_any hX
        have e0 : l.drop (k + n + blanks m1 + 1) = m2 := by have := HDm.out 0; simpa using this
        simp only [e0] at B2
        have BB2 := hid B2
        have V2 := fun X (hX : Rd W r v l (k + n + blanks m1 + 1 + blanks m2) t X) => value_any hX
        simp only [HDm.out] at V2
        have hE : attrT seen m = match valueR (m2.drop (blanks m2)) with | .ok vl j => .ok (nm, vl) (n + (blanks m1 + 1 + blanks m2 + j)) | .bad p x => .bad (n + (blanks m1 + 1 + blanks m2 + p)) x := by
          unfold attrT; rw [hnm]; dsimp only; rw [if_neg hct2, hm1, equalR_yes hm2]
          cases valueR (m2.drop (blanks m2)) <;> rfl
        cases hvr : valueR (m2.drop (blanks m2)) with
        | bad p x =>
          have hx := (valueR_bad hvr).2
          have hx2 : ((x : Int) == 0) = false := by rw [beq_eq_false_iff_ne]; omega
          rw [hvr] at hE
          simp only [hvr] at V2
          have VV2 := hid V2
          have E := hid hE
          clear N hnm h hs h0 s0 hct hct2 hnm1 hnl hm1 B1 A1 hkey hp61 hm2 B2 e0 V2 hE hvr
          go_enter Tryz.func102, Tryz.ntmps102
          go_wp2_with fail
          refine NN.out.mono ?_
          rintro e w1 ⟨⟨rfl, h1⟩, k1⟩
          have s1 := S0.out.kept k1 (fun e => by injection e with e; exact hmb e)
          have hlk := s1.look nm HNL.out
          rw [HC.out] at hlk
          obtain ⟨D, q, hq, hown, hI, hD⟩ := s1
          have SI := hid hI
          have SD := hid hD
          have lt1 : w.heap.size < w1.heap.size := by have := k1.size; simp at this; omega
          have LT1 := hid lt1
          have H1 := hid h1
          have P1 := hid ((k1.block w.heap.size (by simp) (fun e => by injection e with e; omega)).trans P0.out)
          have K1 := hid (Kept2.of k1 : Kept2 r mb _ w1)
          clear k1 h1 hI hD lt1
          unfold strV
          go_wp2_with (refine wpList_mapUpdate_own _ rfl _ _ _ 156 rfl 9 4 (Maps.string_keyed under9) Names.underM (plainElem (H := Unit) Tryz.prog 4) _ _ _ rfl hown (by unfold maxLen; omega) _ _ _ rfl rfl HKEY.out (.lit (.bool true)) [] (plainElem_bool underO true) ?_; clear hown hlk; intro w2 hown hg2; have H2 := hid (H1.out.grown hg2 hmb hlow); have S2 := hid (SeenMap.put SI.out SD.out hq nm hown); have K2 := hid (K1.out.trans (Kept2.off hg2)); have P2 := hid ((hg2.block w.heap.size LT1.out (fun e => by injection e with e; omega)).trans P1.out); have LT2 := hid (Nat.lt_of_lt_of_le LT1.out hg2.size); clear hg2 hown)
          go_wp2_with fail
          refine (BB1.out _ H2.out).mono ?_
          rintro e w3 ⟨rfl, h3, k3⟩
          have H3 := hid h3
          have K3 := hid (K2.out.trans (Kept2.of k3))
          have P3 := hid ((k3.block w.heap.size LT2.out (fun e => by injection e with e; omega)).trans P2.out)
          have LT3 := hid (Nat.lt_of_lt_of_le LT2.out k3.size)
          have S3 := hid (S2.out.kept k3 (fun e => by injection e with e; exact hmb e))
          clear h3 k3
          go_wp2_with fail
          refine (AA1.out _ H3.out).mono ?_
          rintro e w4 ⟨rfl, h4, k4⟩
          have H4 := hid h4
          have K4 := hid (K3.out.trans (Kept2.of k4))
          have P4 := hid ((k4.block w.heap.size LT3.out (fun e => by injection e with e; omega)).trans P3.out)
          have LT4 := hid (Nat.lt_of_lt_of_le LT3.out k4.size)
          have S4 := hid (S3.out.kept k4 (fun e => by injection e with e; exact hmb e))
          clear h4 k4
          go_wp2_with fail
          refine (BB2.out _ H4.out).mono ?_
          rintro e w6 ⟨rfl, h6, k6⟩
          have H6 := hid h6
          have K6 := hid (K4.out.trans (Kept2.of k6))
          have P6 := hid ((k6.block w.heap.size LT4.out (fun e => by injection e with e; omega)).trans P4.out)
          have LT6 := hid (Nat.lt_of_lt_of_le LT4.out k6.size)
          have S6 := hid (S4.out.kept k6 (fun e => by injection e with e; exact hmb e))
          clear h6 k6
          go_wp2_with fail
          refine (VV2.out _ H6.out).mono ?_
          rintro e w7 ⟨⟨rfl, h7⟩, k7⟩
          have h1 := h7
          have p1 := (k7.block w.heap.size LT6.out (fun e => by injection e with e; omega)).trans P6.out
          have k2 := K6.out.trans (Kept2.of k7)
          clear h7 k7
          have d0 : w7.cell? ⟨w.heap.size, 0, none⟩ = some (.int .i64 0) := by rw [Lib.cell_of_heap p1]; rfl
          have d1 : w7.cell? ⟨w.heap.size, 1, none⟩ = some (.string ⟨#[]⟩) := by rw [Lib.cell_of_heap p1]; rfl
          have d2 : w7.cell? ⟨w.heap.size, 2, none⟩ = some (.string ⟨#[]⟩) := by rw [Lib.cell_of_heap p1]; rfl
          have f0 := Lib.frozen_of_heap p1 0
          have f1 := Lib.frozen_of_heap p1 1
          have f2 := Lib.frozen_of_heap p1 2
          have H1 := hid h1
          have K1 := hid k2
          have P1 := hid p1
          clear h1 k2 p1
          unfold strV
          go_wp2
          obtain ⟨p3, g3⟩ := put3 P1.out (.int .i64 0) (.string ⟨#[]⟩) (.string ⟨#[]⟩)
          refine bodyPost_ret (results_pair rfl _ _ _ _ rfl (run_loadVar_row _ _ _ _ _ _ _ p3 Tryz.underlying73 rfl sizePr)) rfl ?_
          exact ⟨GotA.bad E.out rfl (H1.out.grown g3 (by omega) hold) (by omega), pair_end K1.out g3⟩
        | ok vl j =>
          rw [hvr] at hE
          simp only [hvr] at V2
          have VV2 := hid V2
          have E := hid hE
          clear N hnm h hs h0 s0 hct hct2 hnm1 hnl hm1 B1 A1 hkey hp61 hm2 B2 e0 V2 hE hvr
          go_enter Tryz.func102, Tryz.ntmps102
          go_wp2_with fail
          refine NN.out.mono ?_
          rintro e w1 ⟨⟨rfl, h1⟩, k1⟩
          have s1 := S0.out.kept k1 (fun e => by injection e with e; exact hmb e)
          have hlk := s1.look nm HNL.out
          rw [HC.out] at hlk
          obtain ⟨D, q, hq, hown, hI, hD⟩ := s1
          have SI := hid hI
          have SD := hid hD
          have lt1 : w.heap.size < w1.heap.size := by have := k1.size; simp at this; omega
          have LT1 := hid lt1
          have H1 := hid h1
          have P1 := hid ((k1.block w.heap.size (by simp) (fun e => by injection e with e; omega)).trans P0.out)
          have K1 := hid (Kept2.of k1 : Kept2 r mb _ w1)
          clear k1 h1 hI hD lt1
          unfold strV
          go_wp2_with (refine wpList_mapUpdate_own _ rfl _ _ _ 156 rfl 9 4 (Maps.string_keyed under9) Names.underM (plainElem (H := Unit) Tryz.prog 4) _ _ _ rfl hown (by unfold maxLen; omega) _ _ _ rfl rfl HKEY.out (.lit (.bool true)) [] (plainElem_bool underO true) ?_; clear hown hlk; intro w2 hown hg2; have H2 := hid (H1.out.grown hg2 hmb hlow); have S2 := hid (SeenMap.put SI.out SD.out hq nm hown); have K2 := hid (K1.out.trans (Kept2.off hg2)); have P2 := hid ((hg2.block w.heap.size LT1.out (fun e => by injection e with e; omega)).trans P1.out); have LT2 := hid (Nat.lt_of_lt_of_le LT1.out hg2.size); clear hg2 hown)
          go_wp2_with fail
          refine (BB1.out _ H2.out).mono ?_
          rintro e w3 ⟨rfl, h3, k3⟩
          have H3 := hid h3
          have K3 := hid (K2.out.trans (Kept2.of k3))
          have P3 := hid ((k3.block w.heap.size LT2.out (fun e => by injection e with e; omega)).trans P2.out)
          have LT3 := hid (Nat.lt_of_lt_of_le LT2.out k3.size)
          have S3 := hid (S2.out.kept k3 (fun e => by injection e with e; exact hmb e))
          clear h3 k3
          go_wp2_with fail
          refine (AA1.out _ H3.out).mono ?_
          rintro e w4 ⟨rfl, h4, k4⟩
          have H4 := hid h4
          have K4 := hid (K3.out.trans (Kept2.of k4))
          have P4 := hid ((k4.block w.heap.size LT3.out (fun e => by injection e with e; omega)).trans P3.out)
          have LT4 := hid (Nat.lt_of_lt_of_le LT3.out k4.size)
          have S4 := hid (S3.out.kept k4 (fun e => by injection e with e; exact hmb e))
          clear h4 k4
          go_wp2_with fail
          refine (BB2.out _ H4.out).mono ?_
          rintro e w6 ⟨rfl, h6, k6⟩
          have H6 := hid h6
          have K6 := hid (K4.out.trans (Kept2.of k6))
          have P6 := hid ((k6.block w.heap.size LT4.out (fun e => by injection e with e; omega)).trans P4.out)
          have LT6 := hid (Nat.lt_of_lt_of_le LT4.out k6.size)
          have S6 := hid (S4.out.kept k6 (fun e => by injection e with e; exact hmb e))
          clear h6 k6
          go_wp2_with fail
          refine (VV2.out _ H6.out).mono ?_
          rintro e w7 ⟨⟨rfl, h7⟩, k7⟩
          have h1 := h7
          have p1 := (k7.block w.heap.size LT6.out (fun e => by injection e with e; omega)).trans P6.out
          have k2 := K6.out.trans (Kept2.of k7)
          have S7 := hid (S6.out.kept k7 (fun e => by injection e with e; exact hmb e))
          clear h7 k7
          have d0 : w7.cell? ⟨w.heap.size, 0, none⟩ = some (.int .i64 0) := by rw [Lib.cell_of_heap p1]; rfl
          have d1 : w7.cell? ⟨w.heap.size, 1, none⟩ = some (.string ⟨#[]⟩) := by rw [Lib.cell_of_heap p1]; rfl
          have d2 : w7.cell? ⟨w.heap.size, 2, none⟩ = some (.string ⟨#[]⟩) := by rw [Lib.cell_of_heap p1]; rfl
          have f0 := Lib.frozen_of_heap p1 0
          have f1 := Lib.frozen_of_heap p1 1
          have f2 := Lib.frozen_of_heap p1 2
          have H1 := hid h1
          have K1 := hid k2
          have P1 := hid p1
          clear h1 k2 p1
          unfold strV
          go_wp2
          obtain ⟨p3, g3⟩ := put3 P1.out (.int .i64 (k : Int)) (.string (text nm)) (.string (text vl))
          refine bodyPost_ret (results_pair rfl _ _ _ _ rfl (run_loadVar_row _ _ _ _ _ _ _ p3 Tryz.underlying73 rfl sizePr)) rfl ?_
          exact ⟨GotA.ok E.out rfl (H1.out.grown g3 (by omega) hold) (by omega) (S7.out.kept g3 (fun e => by injection e with e; omega)), pair_end K1.out g3⟩
end
end Go.Proofs.YthodmdfbahkflaaGreatDoor.Tok
namespace Go.Proofs.YthodmdfbahkflaaGreatDoor.Tok
open Go Go.Proofs.YthodmdfbahkflaaGreatDoor Go.Proofs.YthodmdfbahkflaaGreatDoor.Utf Go.Proofs.YthodmdfbahkflaaGreatDoor.Names Go.Proofs.YthodmdfbahkflaaGreatDoor.Ent Go.RowKit
set_option maxRecDepth 100000

/-- What is ahead, and what the rest comes to. -/
def joinP (xs : List Pr) (n : Nat) : Res (List Pr) → Res (List Pr)
  | .bad p e => .bad (n + p) e
  | .ok ys j => .ok (xs ++ ys.map (Pr.shift n)) (n + j)
theorem prShift_shift (a b : Nat) (p : Pr) : Pr.shift a (Pr.shift b p) = Pr.shift (a + b) p := by
  unfold Pr.shift
  simp only [Pr.mk.injEq, and_true]
  push_cast
  omega
theorem joinP_joinP (xs ys : List Pr) (a b : Nat) (o : Res (List Pr)) : joinP xs a (joinP ys b o) = joinP (xs ++ ys.map (Pr.shift a)) (a + b) o := by
  cases o with
  | bad p e => simp [joinP, Nat.add_assoc]
  | ok zs j =>
    unfold joinP
    simp only [Res.ok.injEq]
    refine ⟨?_, by omega⟩
    rw [List.map_append, List.map_map, List.append_assoc]
    congr 2
    exact List.map_congr_left fun p _ => prShift_shift a b p
theorem joinP_nil (o : Res (List Pr)) : joinP [] 0 o = o := by
  cases o with
  | bad p e => simp [joinP]
  | ok zs j =>
    unfold joinP
    simp only [Res.ok.injEq, List.nil_append]
    refine ⟨?_, by omega⟩
    conv => rhs; rw [← List.map_id zs]
    exact List.map_congr_left fun p _ => by cases p; simp [Pr.shift]
theorem attrT_nil (seen : List (List UInt8)) : attrT seen [] = .bad 0 10 := rfl
theorem pre_head (a c : UInt8) (r : List UInt8) : pre [a] (c :: r) = true ↔ c = a := by
  rw [pre_one]
  constructor
  · rintro ⟨s, h⟩; injection h
  · rintro rfl; exact ⟨r, rfl⟩
/-- A round of attributes. -/
theorem attrsF_eq (g : Nat) (seen : List (List UInt8)) (l : List UInt8) : attrsF (g + 1) seen l =
    if pre [62] (l.drop (blanks l)) = true ∨ pre [47] (l.drop (blanks l)) = true then .ok [] (blanks l) else if blanks l = 0 then .bad 0 (short (l.drop (blanks l))) else
      match attrT seen (l.drop (blanks l)) with
      | .bad p e => .bad (blanks l + p) e
      | .ok x j => joinP [⟨blanks l, x.1, x.2⟩] (blanks l + j) (attrsF g (x.1 :: seen) ((l.drop (blanks l)).drop j)) := by
  conv => lhs; unfold attrsF
  generalize hb : blanks l = b
  generalize l.drop b = y
  cases y with
  | nil =>
    rw [if_neg (by simp [pre, List.isPrefixOf]), attrT_nil]
    by_cases e : b = 0
    · subst e; rfl
    · rw [if_neg e]; rfl
  | cons c r =>
    have e1 : pre [62] (c :: r) = true ↔ c = 62 := pre_head 62 c r
    have e2 : pre [47] (c :: r) = true ↔ c = 47 := pre_head 47 c r
    have e3 : (pre [62] (c :: r) = true ∨ pre [47] (c :: r) = true) ↔ (c = 62 ∨ c = 47) := by rw [e1, e2]
    dsimp only
    by_cases hc : c = 62 ∨ c = 47
    · rw [if_pos hc, if_pos (e3.2 hc)]
    · rw [if_neg hc, if_neg (fun h => hc (e3.1 h))]
      by_cases e : b = 0
      · rw [if_pos e, if_pos e]; rfl
      · rw [if_neg e, if_neg e]
        cases attrT seen (c :: r) with
        | bad p e => rfl
        | ok x j =>
          obtain ⟨nm, vl⟩ := x
          dsimp only
          cases attrsF g (nm :: seen) ((c :: r).drop j) <;> rfl

theorem infoP : (Tryz.prog.info? 73).map (fun i => (i.zero, i.size, i.bytes)) = some (some (.agg #[.int .i64 0, .string ⟨#[]⟩, .string ⟨#[]⟩]), 3, 40) := by kernel_rfl
theorem underPs : Tryz.prog.underlying 43 = some (.slice 73) := Tryz.underlying43

section
variable {W w w' : World} {r k b B : Nat} {v t a : Value} {l : List UInt8} {et ep e : TypeId} {sz n : Nat} {xs : List Value}
theorem owns_kept2 (h : w.ownsRow B e sz a n xs) (hk : Kept2 r b w w') (hr : r < B) (hb : b < B) : w'.ownsRow B e sz a n xs := by
  have hlt := h.lt
  obtain ⟨h1, h2⟩ := h
  refine ⟨h1, ?_⟩
  rcases h2 with h2 | ⟨g, cap, cur, hv, hg, hh, rest⟩
  · exact .inl h2
  · have hl := hlt g (by rw [hv]; rfl)
    exact .inr ⟨g, cap, cur, hv, hg, by rw [hk.block g hl.2 (by omega) (by omega)]; exact hh, rest⟩
theorem OwnP.kept2 {ps : List Pr} (h : OwnP B ep w a ps) (hk : Kept2 r b w w') (hr : r < B) (hb : b < B) : OwnP B ep w' a ps := owns_kept2 h hk hr hb
theorem OwnT.kept2 {ts : List Tok} (h : OwnT B et ep w a ts) (hk : Kept2 r b w w') (hr : r < B) (hb : b < B) : OwnT B et ep w' a ts := by
  obtain ⟨q, h1, h2, h3⟩ := h
  exact ⟨q, h1, owns_kept2 h2 hk hr hb, fun x hx => (h3 x hx).kept2 hk hr hb⟩
theorem OwnP.keep {ps : List Pr} (h : OwnP B ep w a ps) (hk : Kept r w w') (hr : r < B) : OwnP B ep w' a ps := h.kept2 (r := r) (b := r) (Kept2.of hk) hr hr
theorem OwnT.keep {ts : List Tok} (h : OwnT B et ep w a ts) (hk : Kept r w w') (hr : r < B) : OwnT B et ep w' a ts := h.kept2 (r := r) (b := r) (Kept2.of hk) hr hr
theorem kept_grown {row : Option Nat} {w0 : World} (h : Kept r w0 w) (hg : w.grownBy w' row) (hr : ∀ q, row = some q → w0.heap.size ≤ q) : Kept r w0 w' :=
  ⟨hg.os.trans h.os, hg.tape.trans h.tape, hg.output.trans h.output, Nat.le_trans h.size hg.size, fun k hk hn => (hg.block k (Nat.lt_of_lt_of_le hk h.size) (fun e => by have := hr k e.symm; omega)).trans (h.block k hk hn)⟩
theorem Rd.grownRow {row : Option Nat} (h : Rd W r v l k t w) (hg : w.grownBy w' row) (hr : ∀ q, row = some q → q ≠ r ∧ W.heap.size ≤ q) : Rd W r v l k t w' :=
  ⟨(hg.block r h.lt (fun e => (hr r e.symm).1 rfl)).trans h.cur, h.low, h.old.trans ⟨hg.os, hg.tape, hg.output, hg.size, fun k hk => hg.block k (Nat.lt_of_lt_of_le hk h.old.size) (fun e => by have := (hr k e.symm).2; omega)⟩, h.byt, h.len, h.top, h.fit⟩
end
theorem Rd.same {W w : World} {r k n : Nat} {v t : Value} {l : List UInt8} (h : Rd W r v l k t w) (e : k = n) : Rd W r v l n t w := e ▸ h
theorem kept_two {r b : Nat} {w a c : World} (h : Kept r w a) (h2 : Kept2 r b a c) (hb : w.heap.size ≤ b) : Kept r w c :=
  ⟨h2.os.trans h.os, h2.tape.trans h.tape, h2.output.trans h.output, Nat.le_trans h.size h2.size, fun k hk hn =>
    (h2.block k (Nat.lt_of_lt_of_le hk h.size) (fun e => hn (by rw [e])) (by omega)).trans (h.block k hk hn)⟩
theorem attrT_pos {seen : List (List UInt8)} {l : List UInt8} {x : List UInt8 × List UInt8} {n : Nat} (h : attrT seen l = .ok x n) : 1 ≤ n ∧ n ≤ l.length := by
  have := attrT_lt h []
  exact ⟨this.2.2.1, this.2.1⟩
/-- What attributes answers. -/
def GotL (W : World) (r : Nat) (v : Value) (l : List UInt8) (k : Nat) (t : Value) (B : Nat) (o : Res (List Pr)) (e : Ending) (w' : World) : Prop :=
  match o with
  | .ok xs n => ∃ a, e = .returned (.tuple #[a, .int .i64 0]) ∧ Rd W r v l (k + n) t w' ∧ OwnP B 73 w' a (xs.map (Pr.shift k))
  | .bad p x => e = .returned (.tuple #[.slice none 0 0, .int .i64 x]) ∧ Rd W r v l (k + p) t w'
theorem GotL.ok {W : World} {r : Nat} {v : Value} {l : List UInt8} {k : Nat} {t : Value} {B : Nat} {o : Res (List Pr)} {xs : List Pr} {n j : Nat} {e : Ending} {w' : World} (a : Value) (h : o = .ok xs n) (h1 : e = .returned (.tuple #[a, .int .i64 0])) (h2 : Rd W r v l j t w') (h3 : j = k + n) (h4 : OwnP B 73 w' a (xs.map (Pr.shift k))) : GotL W r v l k t B o e w' := by
  subst h; subst h3; exact ⟨a, h1, h2, h4⟩
theorem GotL.bad {W : World} {r : Nat} {v : Value} {l : List UInt8} {k : Nat} {t : Value} {B : Nat} {o : Res (List Pr)} {p x j : Nat} {e : Ending} {w' : World} (h : o = .bad p x) (h1 : e = .returned (.tuple #[.slice none 0 0, .int .i64 x])) (h2 : Rd W r v l j t w') (h3 : j = k + p) : GotL W r v l k t B o e w' := by
  subst h; subst h3; exact ⟨h1, h2⟩

section
variable {W w : World} {r k : Nat} {v t : Value} {l : List UInt8}
set_option maxHeartbeats 4000000

theorem attributes_any (h : Rd W r v l k t w) :
    Calls Tryz.prog 79 #[.pointer (some ⟨r, 0, none⟩)] w fun e w' => GotL W r v l k t w.heap.size (attrsF ((l.drop k).length + 1) [] (l.drop k)) e w' ∧ Kept r w w' := by
  have hlen := h.len
  have htop := h.top
  have hlt := h.lt
  have hold := h.old.size
  have hmm := @run_makeMap Tryz.prog
  obtain ⟨i0, hi, hz0, hz1, hz2⟩ := info_parts infoP
  obtain ⟨m, hm⟩ : ∃ m, l.drop k = m := ⟨_, rfl⟩
  have hdr : ∀ n, l.drop (k + n) = m.drop n := by subst hm; intro n; rw [List.drop_drop]
  have hml : m.length + k = l.length := by rw [← hm, List.length_drop]; omega
  rw [hm]
  obtain ⟨A, hA⟩ : ∃ A, attrsF (m.length + 1) [] m = A := ⟨_, rfl⟩
  rw [hA]
  have HA := hid hA
  have HD := hid hdr
  have h0 : Rd W r v l k t (w.alloc (.map #[] 0)) := h.later (ba (b0 w) _)
  have H0 := hid h0
  have HI := hid hi
  clear hm hdr h h0 hi hA
  go_enter Tryz.func79, Tryz.ntmps79
  go_wp2_with fail
  go_loopg [4] (m.length + 1) (fun g lv wr => ∃ (n : Nat) (seen : List (List UInt8)) (xs : List Pr), n ≤ m.length ∧ m.length + 1 ≤ g + n ∧ Hid (A = joinP xs n (attrsF g seen (m.drop n))) ∧ xs.length ≤ n ∧ seen.length ≤ n ∧
    Rd W r v l (k + n) t wr ∧ SeenMap wr w.heap.size seen ∧ OwnP (w.heap.size + 1) 73 wr lv (xs.map (Pr.shift k)) ∧ Kept r w wr)
  case atStart => exact ⟨0, [], [], by omega, by omega, hid (HA.out.symm.trans (joinP_nil _).symm), by simp, by simp, H0.out, SeenMap.made w, OwnP.nil _ _ _, Kept.of (ba (b0 w) _)⟩
  case round =>
    obtain ⟨n, seen, xs, hn, hg, HE, hxs, hseen, hrd, hsm, hown, hkp⟩ := hrel
    cases gk with
    | zero => omega
    | succ g =>
    obtain ⟨q, hq⟩ : ∃ q, m.drop n = q := ⟨_, rfl⟩
    have hql : q.length + n = m.length := by rw [← hq, List.length_drop]; omega
    have E0 := HE.out
    rw [hq, attrsF_eq] at E0
    have hbq := blanks_fit q
    have B1 := blanks_any hrd
    rw [HD.out, hq] at B1
    obtain ⟨b, hb⟩ : ∃ b, blanks q = b := ⟨_, rfl⟩
    rw [hb] at E0 B1 hbq
    obtain ⟨y, hy⟩ : ∃ y, q.drop b = y := ⟨_, rfl⟩
    rw [hy] at E0
    have hyl : y.length + b = q.length := by rw [← hy, List.length_drop]; omega
    have hky : l.drop (k + n + b) = y := by rw [Nat.add_assoc, HD.out, ← List.drop_drop, hq, hy]
    have hyj : ∀ j, y.drop j = m.drop (n + (b + j)) := by intro j; rw [← hy, ← hq, List.drop_drop, List.drop_drop]
    have BB1 := hid B1
    have G62 := hid (fun X (hX : Rd W r v l (k + n + b) t X) => by
      have := begins_any hX [62] (by decide) ⟨#[62]⟩ rfl
      rw [hky] at this
      exact this : ∀ X, Rd W r v l (k + n + b) t X → Calls Tryz.prog 43 #[.pointer (some ⟨r, 0, none⟩), .string ⟨#[62]⟩] X fun e w' => e = .returned (.bool (pre [62] y)) ∧ Below X.heap.size X w')
    have G47 := hid (fun X (hX : Rd W r v l (k + n + b) t X) => by
      have := begins_any hX [47] (by decide) ⟨#[47]⟩ rfl
      rw [hky] at this
      exact this : ∀ X, Rd W r v l (k + n + b) t X → Calls Tryz.prog 43 #[.pointer (some ⟨r, 0, none⟩), .string ⟨#[47]⟩] X fun e w' => e = .returned (.bool (pre [47] y)) ∧ Below X.heap.size X w')
    have HOWN := hid hown
    have HSM := hid hsm
    have HK := hid hkp
    have HYJ := hid hyj
    have HKY := hid hky
    clear hown hsm hkp hrd B1 hky hyj HE hq hb hy
    cases h62 : pre [62] y with
    | true =>
      rw [if_pos (.inl h62)] at E0
      have E := hid E0
      rw [h62] at G62
      clear h62 E0 G47
      go_wp2_with fail
      refine BB1.out.mono ?_
      rintro e w2 ⟨rfl, h2, k2⟩
      have H2 := hid h2
      have K2 := hid (HK.out.trans k2)
      have O2 := hid (HOWN.out.keep k2 (by omega))
      have S2 := hid (HSM.out.kept k2 (fun e => by injection e with e; omega))
      clear h2 k2
      go_wp2_with fail
      refine (G62.out _ H2.out).mono ?_
      rintro e w3 ⟨rfl, hb3⟩
      go_wp2
      go_ret2
      refine ⟨GotL.ok u4 E.out rfl (H2.out.later hb3) (by omega) ?_, K2.out.trans (Kept.of hb3)⟩
      simp only [List.map_nil, List.append_nil]
      exact (O2.out.later hb3).base (by omega)
    | false =>
      rw [h62] at G62
      cases h47 : pre [47] y with
      | true =>
        rw [if_pos (.inr h47)] at E0
        have E := hid E0
        rw [h47] at G47
        clear h62 h47 E0
        go_wp2_with fail
        refine BB1.out.mono ?_
        rintro e w2 ⟨rfl, h2, k2⟩
        have H2 := hid h2
        have K2 := hid (HK.out.trans k2)
        have O2 := hid (HOWN.out.keep k2 (by omega))
        have S2 := hid (HSM.out.kept k2 (fun e => by injection e with e; omega))
        clear h2 k2
        go_wp2_with fail
        refine (G62.out _ H2.out).mono ?_
        rintro e w3 ⟨rfl, hb3⟩
        have H3 := hid (H2.out.later hb3)
        have K3 := hid (K2.out.trans (Kept.of hb3))
        have O3 := hid (O2.out.later hb3)
        clear hb3
        go_wp2_with fail
        refine (G47.out _ H3.out).mono ?_
        rintro e w4 ⟨rfl, hb4⟩
        go_wp2
        go_ret2
        refine ⟨GotL.ok u4 E.out rfl (H3.out.later hb4) (by omega) ?_, K3.out.trans (Kept.of hb4)⟩
        simp only [List.map_nil, List.append_nil]
        exact (O3.out.later hb4).base (by omega)
      | false =>
        rw [h47] at G47
        rw [if_neg (by rw [h62, h47]; simp)] at E0
        clear h62 h47
        by_cases hb0 : b = 0
        · rw [if_pos hb0] at E0
          have E := hid E0
          have hd0 : decide (0 < b) = false := by rw [decide_eq_false]; omega
          rw [hd0] at BB1
          have M := hid (fun X (hX : Rd W r v l (k + n + b) t X) => by
            have := missing_any hX
            rw [HKY.out] at this
            exact this : ∀ X, Rd W r v l (k + n + b) t X → Calls Tryz.prog 98 #[.pointer (some ⟨r, 0, none⟩)] X fun e w' => e = .returned (.int .i64 (short y)) ∧ ∃ q, w' = X.drewN q)
          have HB0 := hid hb0
          clear E0 hd0 hb0
          generalize short y = z at *
          go_wp2_with fail
          refine BB1.out.mono ?_
          rintro e w2 ⟨rfl, h2, k2⟩
          have H2 := hid h2
          have K2 := hid (HK.out.trans k2)
          have O2 := hid (HOWN.out.keep k2 (by omega))
          have S2 := hid (HSM.out.kept k2 (fun e => by injection e with e; omega))
          clear h2 k2
          go_wp2_with fail
          refine (G62.out _ H2.out).mono ?_
          rintro e w3 ⟨rfl, hb3⟩
          have H3 := hid (H2.out.later hb3)
          have K3 := hid (K2.out.trans (Kept.of hb3))
          clear hb3
          go_wp2_with fail
          refine (G47.out _ H3.out).mono ?_
          rintro e w4 ⟨rfl, hb4⟩
          have H4 := hid (H3.out.later hb4)
          have K4 := hid (K3.out.trans (Kept.of hb4))
          clear hb4
          go_wp2_with fail
          refine (M.out _ H4.out).mono ?_
          rintro e w5 ⟨rfl, hq5⟩
          have hb5 := below_n hq5
          clear hq5
          go_wp2
          go_ret2
          exact ⟨GotL.bad E.out rfl (H4.out.later hb5) (by have := HB0.out; omega), K4.out.trans (Kept.of hb5)⟩
        · rw [if_neg hb0] at E0
          have hd0 : decide (0 < b) = true := by rw [decide_eq_true]; omega
          rw [hd0] at BB1
          have HB0 := hid hb0
          clear hd0 hb0
          have AT := fun X (hX : Rd W r v l (k + n + b) t X) (sX : SeenMap X w.heap.size seen) => attribute_any hX sX (by omega) hold (by omega)
          simp only [HKY.out] at AT
          cases hat : attrT seen y with
          | bad p x =>
            rw [hat] at E0
            simp only [hat] at AT
            have E := hid E0
            have hx2 : ((x : Int) == 0) = false := by rw [beq_eq_false_iff_ne]; have := (attrT_bad hat).2; omega
            have AA := hid AT
            clear E0 AT hat
            go_wp2_with fail
            refine BB1.out.mono ?_
            rintro e w2 ⟨rfl, h2, k2⟩
            have H2 := hid h2
            have K2 := hid (HK.out.trans k2)
            have O2 := hid (HOWN.out.keep k2 (by omega))
            have S2 := hid (HSM.out.kept k2 (fun e => by injection e with e; omega))
            clear h2 k2
            go_wp2_with fail
            refine (G62.out _ H2.out).mono ?_
            rintro e w3 ⟨rfl, hb3⟩
            have H3 := hid (H2.out.later hb3)
            have K3 := hid (K2.out.trans (Kept.of hb3))
            have S3 := hid (S2.out.later hb3)
            clear hb3
            go_wp2_with fail
            refine (G47.out _ H3.out).mono ?_
            rintro e w4 ⟨rfl, hb4⟩
            have H4 := hid (H3.out.later hb4)
            have K4 := hid (K3.out.trans (Kept.of hb4))
            have S4 := hid (S3.out.later hb4)
            clear hb4
            go_wp2_with fail
            refine (AA.out _ H4.out S4.out).mono ?_
            rintro e w5 ⟨⟨rfl, h5⟩, k5⟩
            have H5 := hid h5
            have K5 := hid k5
            clear h5 k5
            unfold prV
            go_wp2
            go_ret2
            exact ⟨GotL.bad E.out rfl (H5.out.later (ba (b0 w5) _)) (by omega), (kept_two K4.out K5.out (Nat.le_refl _)).trans (Kept.of (ba (b0 w5) _))⟩
          | ok x j =>
            rw [hat] at E0
            simp only [hat] at AT
            obtain ⟨nm, vl⟩ := x
            dsimp only at E0 AT
            rw [joinP_joinP, HYJ.out] at E0
            obtain ⟨Q, hQ⟩ : ∃ Q : Int, ((k + n + b : Nat) : Int) = Q := ⟨_, rfl⟩
            have AA : Hid (∀ X, Rd W r v l (k + n + b) t X → SeenMap X w.heap.size seen → Calls Tryz.prog 102 #[.pointer (some ⟨r, 0, none⟩), .map (some w.heap.size)] X fun e w' =>
                (e = .returned (.tuple #[.agg #[.int .i64 Q, .string (text nm), .string (text vl)], .int .i64 0]) ∧ Rd W r v l (k + n + b + j) t w' ∧ SeenMap w' w.heap.size (nm :: seen)) ∧ Kept2 r w.heap.size X w') :=
              hid fun X hX sX => (AT X hX sX).mono fun e w' ⟨⟨h1, h2, h3⟩, h4⟩ => ⟨⟨by rw [h1, ← hQ]; rfl, h2, h3⟩, h4⟩
            have E := hid E0
            have HQ := hid hQ
            have hj := attrT_pos hat
            clear E0 AT hat hQ
            go_wp2_with fail
            refine BB1.out.mono ?_
            rintro e w2 ⟨rfl, h2, k2⟩
            have H2 := hid h2
            have K2 := hid (HK.out.trans k2)
            have O2 := hid (HOWN.out.keep k2 (by omega))
            have S2 := hid (HSM.out.kept k2 (fun e => by injection e with e; omega))
            clear h2 k2
            go_wp2_with fail
            refine (G62.out _ H2.out).mono ?_
            rintro e w3 ⟨rfl, hb3⟩
            have H3 := hid (H2.out.later hb3)
            have K3 := hid (K2.out.trans (Kept.of hb3))
            have S3 := hid (S2.out.later hb3)
            have O3 := hid (O2.out.later hb3)
            clear hb3
            go_wp2_with fail
            refine (G47.out _ H3.out).mono ?_
            rintro e w4 ⟨rfl, hb4⟩
            have H4 := hid (H3.out.later hb4)
            have K4 := hid (K3.out.trans (Kept.of hb4))
            have S4 := hid (S3.out.later hb4)
            have O4 := hid (O3.out.later hb4)
            clear hb4
            go_wp2_with fail
            refine (AA.out _ H4.out S4.out).mono ?_
            rintro e w5 ⟨⟨rfl, h5, s5⟩, k5⟩
            have O5 := hid (O4.out.kept2 k5 (by omega) (by omega))
            have H5 := hid h5
            have S5 := hid s5
            have K5 := hid (kept_two K4.out k5 (Nat.le_refl _))
            clear h5 k5 s5
            have B6 := ba (ba (b0 w5) (.cells #[.int .i64 Q, .string (text nm), .string (text vl)] 73)) (.cells #[.int .i64 Q, .string (text nm), .string (text vl)] 73)
            have hrow := Row.ofBuild (sz := 3) (w5.alloc (.cells #[.int .i64 Q, .string (text nm), .string (text vl)] 73)) #[.int .i64 Q, .string (text nm), .string (text vl)] 73 1 rfl (by omega)
            rw [show (w5.alloc (.cells #[.int .i64 Q, .string (text nm), .string (text vl)] 73)).heap.size = w5.heap.size + 1 from by simp] at hrow
            have HROW := hid hrow
            have O6 := hid (O5.out.later B6)
            have H6 := hid (H5.out.later B6)
            have S6 := hid (S5.out.later B6)
            have K6 := hid (K5.out.trans (Kept.of B6))
            have hlen6 : (xs.map (Pr.shift k)).length ≤ 1000000 := by rw [List.length_map]; omega
            have HB6 := hid B6
            clear B6 hrow
            go_wp2_with (at_builtin; refine wpList_append_row rfl _ _ 43 rfl (w.heap.size + 1) 73 i0 _ 3 40 underPs HI.out hz0 hz1 hz2 rfl (by decide) _ _ _ rfl O6.out _ _ _ rfl HROW.out ?c0 ?c1 ?c2 ?c3 ?_)
            case c0 =>
              intro u hu
              simp only [List.mem_cons, List.mem_nil_iff, or_false] at hu
              rcases hu with rfl | rfl | rfl <;> rfl
            case c1 => omega
            case c2 => unfold maxLen; omega
            case c3 => have := HB6.out.size; have := K5.out.size; simp; omega
            intro v' w' hown' hgr
            have hl6 := O6.out.lt
            have hrw : ∀ q, u4.ownBlock = some q → q ≠ r ∧ W.heap.size ≤ q := fun q hq => by have := (hl6 q hq).1; omega
            have O7 : Hid (OwnP (w.heap.size + 1) 73 w' v' ((xs ++ [⟨(b : Int), nm, vl⟩].map (Pr.shift n)).map (Pr.shift k))) := by
              refine hid ?_
              rw [List.map_append]
              refine OwnP.snoc (p := Pr.shift k (Pr.shift n ⟨(b : Int), nm, vl⟩)) ?_
              have : prCells (Pr.shift k (Pr.shift n ⟨(b : Int), nm, vl⟩)) = [.int .i64 Q, .string (text nm), .string (text vl)] := by
                rw [← HQ.out]
                unfold prCells Pr.shift
                simp only
                push_cast
                rw [Int.add_assoc]
              rw [this, List.length_map]
              exact hown'
            have H7 := hid (H6.out.grownRow hgr hrw)
            have S7 := hid (S6.out.kept hgr (fun e => by have := (hl6 _ e.symm).1; omega))
            have K7 := hid (kept_grown K6.out hgr (fun q hq => by have := (hl6 q hq).1; omega))
            clear hown' hgr hl6 hrw
            go_wp2
            go_roundg g
            case measure => omega
            case rel => exact ⟨n + (b + j), nm :: seen, xs ++ [⟨(b : Int), nm, vl⟩].map (Pr.shift n), by have := H7.out.len; omega, by omega, E, by rw [List.length_append]; simp; omega, by simp; omega, H7.out.same (by omega), S7.out, O7.out, K7.out⟩
end
end Go.Proofs.YthodmdfbahkflaaGreatDoor.Tok
namespace Go.Proofs.YthodmdfbahkflaaGreatDoor.Tok
open Go Go.Proofs.YthodmdfbahkflaaGreatDoor Go.Proofs.YthodmdfbahkflaaGreatDoor.Utf Go.Proofs.YthodmdfbahkflaaGreatDoor.Names Go.Proofs.YthodmdfbahkflaaGreatDoor.Ent Go.RowKit
set_option maxRecDepth 100000

theorem infoT : (Tryz.prog.info? 45).map (fun i => (i.zero, i.size, i.bytes)) = some (some (.agg #[.int .i64 0, .int .i64 0, .string ⟨#[]⟩, .slice none 0 0]), 4, 56) := by kernel_rfl
theorem underTs : Tryz.prog.underlying 22 = some (.slice 45) := Tryz.underlying22
theorem new_cells (w : World) (cs : Array Value) (e : TypeId) (B : Nat) (hB : B = w.heap.size) : ∀ j u, cs.toList[j]? = some u → (w.alloc (.cells cs e)).cell? ((⟨B, 0, none⟩ : Addr).add j) = some u := by
  intro j u hj
  subst hB
  have hn := heap_alloc_new w (.cells cs e)
  rw [Addr.add_lit]
  simp only [World.cell?, hn]
  simpa using hj

section
variable {W w : World} {r k : Nat} {v t a : Value} {l : List UInt8} {ts : List Tok}
set_option maxHeartbeats 4000000

theorem add_any (h : Rd W r v l k t w) (ho : OwnT (r + 1) 45 73 w t ts) (tk : Tok) (ha : OwnP (r + 1) 73 w a tk.attrs) (hn : ts.length ≤ 1000000) :
    Calls Tryz.prog 76 #[.pointer (some ⟨r, 0, none⟩), .agg #[.int .i64 tk.kind, .int .i64 tk.place, .string (text tk.s), a]] w fun e w' => e = .returned (.tuple #[]) ∧
      ∃ t', Rd W r v l k t' w' ∧ OwnT (r + 1) 45 73 w' t' (ts ++ [tk]) := by
  obtain ⟨i0, hi, hz0, hz1, hz2⟩ := info_parts infoT
  have hlt := h.lt
  have hlow := h.low
  have one := ha.one_cell
  generalize hK : tk.kind = K at *
  generalize hP : tk.place = Q at *
  generalize hS : tk.s = s at *
  have ht : tokCells (tk, a) = [.int .i64 K, .int .i64 Q, .string (text s), a] := by rw [← hK, ← hP, ← hS]; rfl
  have hone := tokCells_one tk a one
  rw [ht] at hone
  have B1 := ba (b0 w) (.cells #[.int .i64 K, .int .i64 Q, .string (text s), a] 45)
  have B2 := ba B1 (.cells #[.int .i64 K, .int .i64 Q, .string (text s), a] 45)
  have h1 := h.later B1
  have h2 := h.later B2
  have o2 := ho.later B2
  have a2 := ha.later B2
  obtain ⟨xs, hown, hsn⟩ := o2.snoc (by decide) a2
  rw [ht] at hsn
  have c2 := h1.c2
  have f2 := h1.f2
  have c2' := h2.c2
  have hl2 := hown.lt
  have H2 := hid h2
  have HS := hid hsn
  have HL := hid hl2
  have HO := hid hown
  have HI := hid hi
  clear h h1 h2 ho ha o2 a2 hown hsn hl2 hi B1 B2 one ht hK hP hS
  go_enter Tryz.func76, Tryz.ntmps76
  go_wp2_with fail
  go_region_law (
    refine step_append_lies _ rfl (.tmp 8) (.tmp 10) 22 rfl (r + 1) 45 i0 _ 4 56 underTs HI.out hz0 hz1 hz2 rfl (by decide) t ts.length xs (by simp [Act.eval, Act.put]) HO.out ⟨w.heap.size + 1, 0, none⟩ 1 1 [.int .i64 K, .int .i64 Q, .string (text s), a] (by simp [Act.eval, Act.put]) rfl ?c1 hone (by decide) ?c2 ?c3 ?c4 _ rfl ?_
    case c1 => exact new_cells _ _ _ _ (by simp)
    case c2 => unfold maxLen; omega
    case c3 => omega
    case c4 => simp; omega
    intro g cap w' hown' hgr hg1 hg2
    have hgr' : ((w.alloc (.cells #[.int .i64 K, .int .i64 Q, .string (text s), a] 45)).alloc (.cells #[.int .i64 K, .int .i64 Q, .string (text s), a] 45)).grownBy w' t.ownBlock := ⟨hgr.os, hgr.tape, hgr.output, hgr.size, hgr.block⟩
    have h3 := H2.out.grownRow hgr' (fun q hq => by have := (HL.out q hq).1; omega)
    have c3 := h3.c2
    have f3 := h3.f2
    have H3 := hid h3
    have O3 := hid (HS.out _ w' hown' hgr')
    clear h3 hown' hgr hgr' hg1 hg2)
  all_goals go_wp2
  all_goals go_end0
  all_goals exact ⟨rfl, _, H3.out.keep _, O3.out.keep (Kept.put _ _ _ _) (by omega)⟩
end
end Go.Proofs.YthodmdfbahkflaaGreatDoor.Tok
namespace Go.Proofs.YthodmdfbahkflaaGreatDoor.Tok
open Go Go.Proofs.YthodmdfbahkflaaGreatDoor Go.Proofs.YthodmdfbahkflaaGreatDoor.Utf Go.Proofs.YthodmdfbahkflaaGreatDoor.Names Go.Proofs.YthodmdfbahkflaaGreatDoor.Ent Go.RowKit
set_option maxRecDepth 100000

/-- What a reader's call answers that adds a token, or none. -/
def GotT (W : World) (r : Nat) (v : Value) (l : List UInt8) (k : Nat) (ts : List Tok) (o : Res (Option Tok)) (e : Ending) (w' : World) : Prop :=
  match o with
  | .ok x n => e = .returned (.int .i64 0) ∧ ∃ t', Rd W r v l (k + n) t' w' ∧ OwnT (r + 1) 45 73 w' t' (ts ++ x.toList.map (Tok.shift k))
  | .bad p x => e = .returned (.int .i64 x) ∧ ∃ t', Rd W r v l (k + p) t' w'
theorem GotT.ok {W : World} {r : Nat} {v : Value} {l : List UInt8} {k : Nat} {ts us : List Tok} {o : Res (Option Tok)} {x : Option Tok} {n j : Nat} {e : Ending} {w' : World} {t' : Value} (h : o = .ok x n) (h1 : e = .returned (.int .i64 0)) (h2 : Rd W r v l j t' w') (h3 : j = k + n) (h4 : OwnT (r + 1) 45 73 w' t' us) (h5 : us = ts ++ x.toList.map (Tok.shift k)) : GotT W r v l k ts o e w' := by
  subst h; subst h3; subst h5; exact ⟨h1, t', h2, h4⟩
theorem GotT.bad {W : World} {r : Nat} {v : Value} {l : List UInt8} {k : Nat} {ts : List Tok} {o : Res (Option Tok)} {p x j : Nat} {e : Ending} {w' : World} {t' : Value} (h : o = .bad p x) (h1 : e = .returned (.int .i64 x)) (h2 : Rd W r v l j t' w') (h3 : j = k + p) : GotT W r v l k ts o e w' := by
  subst h; subst h3; exact ⟨h1, t', h2⟩

section
variable {W w : World} {r k : Nat} {v t : Value} {l : List UInt8} {ts : List Tok}
set_option maxHeartbeats 4000000

theorem text_any (h : Rd W r v l k t w) (ho : OwnT (r + 1) 45 73 w t ts) (hn : ts.length ≤ 1000000) :
    Calls Tryz.prog 48 #[.pointer (some ⟨r, 0, none⟩)] w fun e w' => GotT W r v l k ts (textR (l.drop k)) e w' := by
  have hlen := h.len
  have htop := h.top
  have hlt := h.lt
  have c0 := h.c0
  have c1 := h.c1
  have E0 := textR_eq (l.drop k)
  dsimp only at E0
  obtain ⟨v', _, h2, _, hv'⟩ := h.byt.sub (P := Tryz.prog) k l.length hlen (Nat.le_refl _) 24 5 underB size8
  have hsl := h2 rfl
  rw [List.take_of_length_le (by simp)] at hv'
  obtain ⟨m, hm⟩ : ∃ m, l.drop k = m := ⟨_, rfl⟩
  have hml : m.length + k = l.length := by rw [← hm, List.length_drop]; omega
  rw [hm] at E0 hv' ⊢
  have B1 := ba (b0 w) (.cells #[.int .u8 60] 5 (1, 2))
  have hA := h.later B1
  have oA := ho.later B1
  have hu : Bytes (w.alloc (.cells #[.int .u8 60] 5 (1, 2))) (.slice (some ⟨w.heap.size, 0, none⟩) 1 1) [60] := Row.ofBuild _ _ _ 1 rfl (by omega) (1, 2)
  have hcc : (convert 24 24 (.slice (some ⟨w.heap.size, 0, none⟩) 1 1)).run Tryz.prog (w.alloc (.cells #[.int .u8 60] 5)) = .ok (.slice (some ⟨w.heap.size, 0, none⟩) 1 1) (w.alloc (.cells #[.int .u8 60] 5 (1, 2))) := Lib.run_convert_bytes_const w _ 5 #[.int .u8 60] 1 1 underB under8
  have C := hid (Cut_row (hv'.below hA.old (Nat.le_refl _)) hu hA.fitw.2 (by omega))
  have hxl := aheadOf_le [60] m
  have HV := hid hv'
  generalize hx : aheadOf [60] m = x at *
  have SC := hid (fun X (hX : MaxL X) => SCut_row x [93, 93, 62] X hX (by omega))
  have hsl2 := aheadOf_le [93, 93, 62] x
  have hsj : ∀ j, find [93, 93, 62] x = some j → (aheadOf [93, 93, 62] x).length = j := fun j hj => by
    have := find_room hj
    rw [aheadOf_some hj, List.length_take]; omega
  have hsn : find [93, 93, 62] x = none → (aheadOf [93, 93, 62] x).length = x.length := fun hj => by rw [aheadOf_none hj]
  generalize hs : aheadOf [93, 93, 62] x = s at *
  have t0 := fun X (hX : FitM X) => Text_any s (by omega) X hX.1.1 hX.1.2
  have hgl := tell_le false s
  have hgr := tell_right (v := false) (l := s)
  unfold tellV at t0
  generalize tell false s = g at *
  obtain ⟨told, n, z⟩ := g
  dsimp only at t0 E0 hgl hgr
  have TT := hid t0
  have HA := hid hA
  have OA := hid oA
  have hkn : k + n ≤ l.length := by omega
  clear h ho h2 hm hA oA hu hx hs t0 hv' B1
  by_cases hz : z = 0
  · subst hz
    rw [if_neg (by simp)] at E0
    have hn2 := (hgr rfl).1
    cases hf : find [93, 93, 62] x with
    | some j =>
      rw [hf] at E0 SC
      have E := hid E0
      have hj := hsj j hf
      clear E0 hf hsj hsn hgr
      simp only [Option.isSome_some] at SC
      go_enter Tryz.func48, Tryz.ntmps48
      go_wp2_with fail
      refine C.out.mono ?_
      rintro e w1 ⟨⟨v1, v2, rfl, hv1⟩, hq⟩
      have hb1 := below_n hq
      have hv2 := hv1 W HV.out
      have H1 := hid (HA.out.later hb1)
      have O1 := hid (OA.out.later hb1)
      have hcv := (hv2.below H1.out.old (Nat.le_refl _)).conv (P := Tryz.prog) 24 9 5 underB under8 under9
      clear hq hb1 hv1 hv2
      go_wp2_with fail
      refine (SC.out _ H1.out.fitw.2).mono ?_
      rintro e w2 ⟨⟨s2, rfl⟩, hq⟩
      have hb2 := below_n hq
      have H2 := hid (H1.out.later hb2)
      have O2 := hid (O1.out.later hb2)
      clear hq hb2 hcv
      go_wp2_with fail
      refine (TT.out _ H2.out.fitw).mono ?_
      rintro e w4 ⟨rfl, hb4⟩
      have h4 := H2.out.later hb4
      have c4 := h4.c1
      have f4 := h4.f1
      have H4 := hid h4
      have O4 := hid (O2.out.later hb4)
      clear h4 hb4
      go_wp2
      go_ret
      exact GotT.bad E.out rfl (H4.out.move (k + n) _ (by omega) hkn) (by omega)
    | none =>
      rw [hf] at E0 SC
      have E := hid E0
      have hj := hsn hf
      have AD := fun X t' (hX : Rd W r v l (k + n) t' X) (oX : OwnT (r + 1) 45 73 X t' ts) => add_any hX oX ⟨3, (k : Int), told, []⟩ (OwnP.nil (r + 1) 73 X) hn
      dsimp only at AD
      have ADD := hid AD
      clear E0 hf hsj hsn hgr AD
      simp only [Option.isSome_none] at SC
      go_enter Tryz.func48, Tryz.ntmps48
      go_wp2_with fail
      refine C.out.mono ?_
      rintro e w1 ⟨⟨v1, v2, rfl, hv1⟩, hq⟩
      have hb1 := below_n hq
      have hv2 := hv1 W HV.out
      have H1 := hid (HA.out.later hb1)
      have O1 := hid (OA.out.later hb1)
      have hcv := (hv2.below H1.out.old (Nat.le_refl _)).conv (P := Tryz.prog) 24 9 5 underB under8 under9
      clear hq hb1 hv1 hv2
      go_wp2_with fail
      refine (SC.out _ H1.out.fitw.2).mono ?_
      rintro e w2 ⟨⟨s2, rfl⟩, hq⟩
      have hb2 := below_n hq
      have H2 := hid (H1.out.later hb2)
      have O2 := hid (O1.out.later hb2)
      clear hq hb2 hcv
      go_wp2_with fail
      refine (TT.out _ H2.out.fitw).mono ?_
      rintro e w4 ⟨rfl, hb4⟩
      have h4 := H2.out.later hb4
      have c4 := h4.c1
      have f4 := h4.f1
      have H4 := hid h4
      have O4 := hid (O2.out.later hb4)
      clear h4 hb4
      go_wp2_with fail
      refine (ADD.out _ t (H4.out.move (k + n) _ (by omega) hkn) (O4.out.keep (Kept.put _ _ _ _) (by omega))).mono ?_
      rintro e w5 ⟨rfl, t5, h5, o5⟩
      have H5 := hid h5
      have O5 := hid o5
      clear h5 o5
      go_wp2
      go_ret
      exact GotT.ok E.out rfl H5.out (by omega) O5.out (by simp [Tok.shift])
  · rw [if_pos hz] at E0
    have E := hid E0
    have hz2 : ((z : Int) == 0) = false := by rw [beq_eq_false_iff_ne]; omega
    clear E0 hsj hsn hgr hz
    go_enter Tryz.func48, Tryz.ntmps48
    go_wp2_with fail
    refine C.out.mono ?_
    rintro e w1 ⟨⟨v1, v2, rfl, hv1⟩, hq⟩
    have hb1 := below_n hq
    have hv2 := hv1 W HV.out
    have H1 := hid (HA.out.later hb1)
    have O1 := hid (OA.out.later hb1)
    have hcv := (hv2.below H1.out.old (Nat.le_refl _)).conv (P := Tryz.prog) 24 9 5 underB under8 under9
    clear hq hb1 hv1 hv2
    go_wp2_with fail
    refine (SC.out _ H1.out.fitw.2).mono ?_
    rintro e w2 ⟨⟨s2, rfl⟩, hq⟩
    have hb2 := below_n hq
    have H2 := hid (H1.out.later hb2)
    have O2 := hid (O1.out.later hb2)
    clear hq hb2 hcv
    go_wp2_with fail
    refine (TT.out _ H2.out.fitw).mono ?_
    rintro e w4 ⟨rfl, hb4⟩
    have h4 := H2.out.later hb4
    have c4 := h4.c1
    have f4 := h4.f1
    have H4 := hid h4
    have O4 := hid (O2.out.later hb4)
    clear h4 hb4
    go_wp2
    go_ret
    exact GotT.bad E.out rfl (H4.out.move (k + n) _ (by omega) hkn) rfl
end
end Go.Proofs.YthodmdfbahkflaaGreatDoor.Tok
namespace Go.Proofs.YthodmdfbahkflaaGreatDoor.Tok
open Go Go.Proofs.YthodmdfbahkflaaGreatDoor Go.Proofs.YthodmdfbahkflaaGreatDoor.Utf Go.Proofs.YthodmdfbahkflaaGreatDoor.Names Go.Proofs.YthodmdfbahkflaaGreatDoor.Ent Go.RowKit
set_option maxRecDepth 100000

/-- What a reader's call answers that goes on or ends with an error, and where it is then. -/
def Ran {α : Type} (W : World) (r : Nat) (v : Value) (l : List UInt8) (k : Nat) (t : Value) (o : Res α) (e : Ending) (w' : World) : Prop :=
  match o with
  | .ok _ n => e = .returned (.int .i64 0) ∧ Rd W r v l (k + n) t w'
  | .bad p x => e = .returned (.int .i64 x) ∧ Rd W r v l (k + p) t w'
theorem Ran.ok {α : Type} {W : World} {r : Nat} {v : Value} {l : List UInt8} {k : Nat} {t : Value} {o : Res α} {x : α} {n j : Nat} {e : Ending} {w' : World} (h : o = .ok x n) (h1 : e = .returned (.int .i64 0)) (h2 : Rd W r v l j t w') (h3 : j = k + n) : Ran W r v l k t o e w' := by
  subst h; subst h3; exact ⟨h1, h2⟩
theorem Ran.bad {α : Type} {W : World} {r : Nat} {v : Value} {l : List UInt8} {k : Nat} {t : Value} {o : Res α} {p x j : Nat} {e : Ending} {w' : World} (h : o = .bad p x) (h1 : e = .returned (.int .i64 x)) (h2 : Rd W r v l j t w') (h3 : j = k + p) : Ran W r v l k t o e w' := by
  subst h; subst h3; exact ⟨h1, h2⟩

section
variable {W w : World} {r k : Nat} {v t : Value} {l : List UInt8}
set_option maxHeartbeats 2000000

theorem declares_any (h : Rd W r v l k t w) :
    Calls Tryz.prog 41 #[.pointer (some ⟨r, 0, none⟩)] w fun e w' => e = .returned (.bool (decide (k = 0) && decl (l.drop k))) ∧ Below w.heap.size w w' := by
  have c0 := h.c0
  have c1 := h.c1
  by_cases hk : k = 0
  · subst hk
    rw [decide_eq_true rfl, Bool.true_and, List.drop_zero]
    have B0 := begins_any h [60, 63, 120, 109, 108] (by decide) ⟨#[60, 63, 120, 109, 108]⟩ rfl
    rw [List.drop_zero] at B0
    have c1' : w.cell? ⟨r, 1, none⟩ = some (.int .i64 0) := c1
    have H := hid h
    cases hp : pre [60, 63, 120, 109, 108] l with
    | false =>
      have E : Hid (decl l = false) := by refine hid ?_; unfold decl; rw [hp]; rfl
      rw [hp] at B0
      have BB := hid B0
      clear h B0 hp c1
      go_enter Tryz.func41, Tryz.ntmps41
      go_wp2_with (first | (go_at_call 43; refine BB.out.mono ?_; rintro e w1 ⟨rfl, hb1⟩))
      go_ret
      exact ⟨by rw [E.out]; rfl, hb1⟩
    | true =>
      rw [hp] at B0
      have BB := hid B0
      have hsz := h.size
      have hlen5 := pre_len hp
      by_cases h5 : 5 < l.length
      · obtain ⟨bb, o, hia, hcl⟩ := h.byt.at (P := Tryz.prog) 5 h5 24 5 underB size8
        have E : Hid (decl l = Utf.space (l[5].toNat : Int)) := by
          refine hid ?_
          unfold decl
          rw [hp, List.drop_eq_getElem_cons h5]
          rfl
        have hia' : ∀ (q : IntKind) (X : World), (Instr.indexAt 24 v (.int q 5)).run Tryz.prog X = .ok (.pointer (some ⟨bb, o, none⟩)) X := hia
        have S0 := hid (fun X => (Space_any (l[5].toNat : Int) X))
        have h256 : l[5].toNat < 256 := UInt8.toNat_lt _
        have hlt : (5 : Int) < (l.length : Int) := by omega
        have HC := hid (fun X (hX : Below W.heap.size W X) => (by rw [hX.cell (p := ⟨bb, o, none⟩) (World.block_lt_of_cell? _ _ hcl)]; exact hcl : X.cell? ⟨bb, o, none⟩ = some (.int .u8 l[5].toNat)))
        generalize l[5].toNat = b at *
        clear h B0 hp c1 hcl hia hlen5
        go_enter Tryz.func41, Tryz.ntmps41
        go_wp2_with (first
          | (go_at_call 43; refine BB.out.mono ?_; rintro e w1 ⟨rfl, hb1⟩; have h1 := H.out.later hb1; have d0 := h1.c0; have d2 := HC.out w1 h1.old)
          | (go_at_call 70; refine (S0.out _).mono ?_; rintro e w2 ⟨rfl, rfl⟩))
        go_ret
        exact ⟨by rw [E.out]; rfl, hb1⟩
      · have E : Hid (decl l = false) := by
          refine hid ?_
          unfold decl
          rw [List.drop_of_length_le (by omega)]
          simp
        have hlt : ¬ (5 : Int) < (l.length : Int) := by omega
        clear h B0 hp c1
        go_enter Tryz.func41, Tryz.ntmps41
        go_wp2_with (first
          | (go_at_call 43; refine BB.out.mono ?_; rintro e w1 ⟨rfl, hb1⟩; have h1 := H.out.later hb1; have d0 := h1.c0))
        go_ret
        exact ⟨by rw [E.out]; rfl, hb1⟩
  · have hq : ((k : Int) == 0) = false := by rw [beq_eq_false_iff_ne]; omega
    rw [decide_eq_false hk, Bool.false_and]
    clear h hk
    go_enter Tryz.func41, Tryz.ntmps41
    go_wp2
    go_ret
    exact ⟨rfl, b0 _⟩

theorem declaration_any (h : Rd W r v l k t w) (hd : decl (l.drop k) = true) :
    Calls Tryz.prog 42 #[.pointer (some ⟨r, 0, none⟩)] w fun e w' => Ran W r v l k t (declR (l.drop k)) e w' ∧ Kept r w w' := by
  have U := upTo_any h [63, 62] (by decide) ⟨#[63, 62]⟩ rfl
  have he := decl_end hd
  have hlen := h.len
  obtain ⟨m, hm⟩ : ∃ m, l.drop k = m := ⟨_, rfl⟩
  rw [hm] at U he hd ⊢
  cases hf : find [63, 62] (m.drop 5) with
  | none =>
    have E := hid (show declR m = .bad m.length 10 by unfold declR; rw [hf])
    rw [hf] at he
    rw [he] at U
    have UU := hid U
    clear U he hf h hm hd
    go_enter Tryz.func42, Tryz.ntmps42
    go_wp2_with fail
    refine UU.out.mono ?_
    rintro e w1 ⟨rfl, h1, k1⟩
    have H1 := hid h1
    have K1 := hid k1
    clear h1 k1
    go_wp2
    go_ret
    exact ⟨Ran.bad E.out rfl H1.out rfl, K1.out⟩
  | some i =>
    have E := hid (show declR m = .ok none (5 + i + 2) by unfold declR; rw [hf])
    rw [hf] at he
    rw [he] at U
    have UU := hid U
    clear U he hf h hm hd
    go_enter Tryz.func42, Tryz.ntmps42
    go_wp2_with fail
    refine UU.out.mono ?_
    rintro e w1 ⟨rfl, h1, k1⟩
    have H1 := hid h1
    have K1 := hid k1
    clear h1 k1
    go_wp2
    go_ret
    exact ⟨Ran.ok (j := k + (i + 5 + 2)) E.out rfl H1.out (by omega), K1.out⟩

/-- Behind what is known to stand there. -/
theorem take_yes (h : Rd W r v l k t w) (p : List UInt8) (hp : p.length ≤ 1000) (a : ByteArray) (ha : a = text p) (hq : pre p (l.drop k) = true) :
    Calls Tryz.prog 73 #[.pointer (some ⟨r, 0, none⟩), .string a] w fun e w' => e = .returned (.bool true) ∧ Rd W r v l (k + p.length) t w' ∧ Kept r w w' := by
  have := take_any h p hp a ha
  rw [hq, if_pos rfl] at this
  exact this

theorem comment_any (h : Rd W r v l k t w) (hd : pre [60, 33, 45, 45] (l.drop k) = true) :
    Calls Tryz.prog 44 #[.pointer (some ⟨r, 0, none⟩)] w fun e w' => Ran W r v l k t (commentR (l.drop k)) e w' ∧ Kept r w w' := by
  have T0 := take_yes h [60, 33, 45, 45] (by decide) ⟨#[60, 33, 45, 45]⟩ rfl hd
  have hlen := h.len
  have htop := h.top
  have hr := pre_room hd hlen
  obtain ⟨m, hm⟩ : ∃ m, l.drop k = m := ⟨_, rfl⟩
  have hml : m.length + k = l.length := by rw [← hm, List.length_drop]; omega
  have hdr : ∀ n, l.drop (k + n) = m.drop n := by subst hm; intro n; rw [List.drop_drop]
  have U := fun X (hX : Rd W r v l (k + 4) t X) => upTo_any hX [45, 45] (by decide) ⟨#[45, 45]⟩ rfl
  simp only [hdr] at U
  have HD := hid hdr
  rw [hm]
  have TT := hid T0
  clear T0 hd hm hdr h
  simp only [List.length_cons, List.length_nil] at hr
  cases hf : find [45, 45] (m.drop 4) with
  | none =>
    have E := hid (show commentR m = .bad m.length 10 by unfold commentR; rw [hf])
    simp only [hf] at U
    have hd4 : (m.drop 4).length = m.length - 4 := List.length_drop
    have UU := hid U
    have ED := hid hd4
    clear U hf hd4
    go_enter Tryz.func44, Tryz.ntmps44
    go_wp2_with fail
    refine TT.out.mono ?_
    rintro e w1 ⟨rfl, h1, k1⟩
    have H1 := hid h1
    have K1 := hid k1
    clear h1 k1
    go_wp2_with fail
    refine (UU.out _ H1.out).mono ?_
    rintro e w2 ⟨rfl, h2, k2⟩
    have H2 := hid h2
    have K2 := hid (K1.out.trans k2)
    clear h2 k2
    go_wp2
    go_ret
    exact ⟨Ran.bad E.out rfl H2.out (by have := ED.out; omega), K2.out⟩
  | some i =>
    simp only [hf] at U
    have hfr := find_room hf
    simp only [List.length_cons, List.length_nil, List.length_drop] at hfr
    have UU := hid U
    have A := fun X (hX : Rd W r v l (k + 4 + (i + 2)) t X) => ask_any hX [62] (by decide) ⟨#[62]⟩ rfl
    have edr : l.drop (k + 4 + (i + 2)) = m.drop (4 + i + 2) := by rw [show k + 4 + (i + 2) = k + (4 + i + 2) from by omega]; exact HD.out _
    simp only [edr] at A
    have hcm : commentR m = match m.drop (4 + i + 2) with | 62 :: _ => .ok none (4 + i + 3) | [] => .bad m.length 10 | _ => .bad (4 + i) 5 := by unfold commentR; rw [hf]; rfl
    have hdl : (m.drop (4 + i + 2)).length = m.length - (4 + i + 2) := List.length_drop
    clear U hf edr
    cases hx : m.drop (4 + i + 2) with
    | nil =>
      rw [hx] at hcm A hdl
      simp only [List.length_nil] at hdl
      have hdl2 : m.length ≤ 4 + i + 2 := by omega
      clear hdl
      have A' := fun X hX => A X hX
      simp only [show pre [62] ([] : List UInt8) = false from rfl, Bool.false_eq_true, if_false, show short [] = 10 from rfl] at A'
      have AA := hid A'
      have E := hid hcm
      clear A A' hcm hx
      go_enter Tryz.func44, Tryz.ntmps44
      go_wp2_with fail
      refine TT.out.mono ?_
      rintro e w1 ⟨rfl, h1, k1⟩
      have H1 := hid h1
      have K1 := hid k1
      clear h1 k1
      go_wp2_with fail
      refine (UU.out _ H1.out).mono ?_
      rintro e w2 ⟨rfl, h2, k2⟩
      have H2 := hid h2
      have K2 := hid (K1.out.trans k2)
      clear h2 k2
      go_wp2_with fail
      refine (AA.out _ H2.out).mono ?_
      rintro e w3 ⟨rfl, h3, k3⟩
      have H3 := hid h3
      have K3 := hid (K2.out.trans k3)
      clear h3 k3
      go_wp2
      go_ret
      exact ⟨Ran.bad E.out rfl H3.out (by omega), K3.out⟩
    | cons c s =>
      by_cases hc : c = 62
      · subst hc
        rw [hx] at hcm A
        have A' := fun X hX => A X hX
        simp only [show pre [62] (62 :: s) = true from by simp [pre, List.isPrefixOf], if_true] at A'
        have AA := hid A'
        have E := hid hcm
        clear A A' hcm hx
        go_enter Tryz.func44, Tryz.ntmps44
        go_wp2_with fail
        refine TT.out.mono ?_
        rintro e w1 ⟨rfl, h1, k1⟩
        have H1 := hid h1
        have K1 := hid k1
        clear h1 k1
        go_wp2_with fail
        refine (UU.out _ H1.out).mono ?_
        rintro e w2 ⟨rfl, h2, k2⟩
        have H2 := hid h2
        have K2 := hid (K1.out.trans k2)
        clear h2 k2
        go_wp2_with fail
        refine (AA.out _ H2.out).mono ?_
        rintro e w3 ⟨rfl, h3, k3⟩
        have H3 := hid h3
        have K3 := hid (K2.out.trans k3)
        clear h3 k3
        go_wp2
        go_ret
        exact ⟨Ran.ok (j := k + 4 + (i + 2) + 1) E.out rfl H3.out (by omega), K3.out⟩
      · rw [hx] at hcm A
        have A' := fun X hX => A X hX
        have hpf : pre [62] (c :: s) = false := by simp [pre, List.isPrefixOf]; exact fun e => hc e.symm
        simp only [hpf, Bool.false_eq_true, if_false, show short (c :: s) = 5 from by unfold short; rw [if_neg (by simp)]] at A'
        have AA := hid A'
        have E := hid (show commentR m = .bad (4 + i) 5 by
          rw [hcm]
          split
          · rename_i e; injection e with e _; exact absurd e hc
          · rename_i e; cases e
          · rfl)
        clear A A' hcm hx hpf
        go_enter Tryz.func44, Tryz.ntmps44
        go_wp2_with fail
        refine TT.out.mono ?_
        rintro e w1 ⟨rfl, h1, k1⟩
        have H1 := hid h1
        have K1 := hid k1
        clear h1 k1
        go_wp2_with fail
        refine (UU.out _ H1.out).mono ?_
        rintro e w2 ⟨rfl, h2, k2⟩
        have H2 := hid h2
        have K2 := hid (K1.out.trans k2)
        clear h2 k2
        go_wp2_with fail
        refine (AA.out _ H2.out).mono ?_
        rintro e w3 ⟨rfl, h3, k3⟩
        have c3 := h3.c1
        have f3 := h3.f1
        have H3 := hid h3
        have K3 := hid (K2.out.trans k3)
        clear h3 k3
        go_wp2
        go_ret
        exact ⟨Ran.bad (j := k + (4 + i)) E.out rfl (H3.out.move _ _ (by omega) (by omega)) rfl, K3.out.trans (Kept.put _ _ _ _)⟩
end
end Go.Proofs.YthodmdfbahkflaaGreatDoor.Tok
namespace Go.Proofs.YthodmdfbahkflaaGreatDoor.Tok
open Go Go.Proofs.YthodmdfbahkflaaGreatDoor Go.Proofs.YthodmdfbahkflaaGreatDoor.Utf Go.Proofs.YthodmdfbahkflaaGreatDoor.Names Go.Proofs.YthodmdfbahkflaaGreatDoor.Ent Go.RowKit
set_option maxRecDepth 100000

theorem closeR_eq (r : List UInt8) : closeR r = match nameR r with
    | .bad p e => .bad p e
    | .ok nm k => if pre [62] ((r.drop k).drop (blanks (r.drop k))) = true then .ok ⟨1, 0, nm, []⟩ (k + blanks (r.drop k) + 1) else .bad (k + blanks (r.drop k)) (short ((r.drop k).drop (blanks (r.drop k)))) := by
  unfold closeR
  cases nameR r with
  | bad p e => rfl
  | ok nm k =>
    dsimp only
    generalize (r.drop k).drop (blanks (r.drop k)) = y
    cases y with
    | nil => rw [if_neg (by simp [pre, List.isPrefixOf])]
    | cons c s =>
      by_cases h : c = 62
      · subst h; rw [if_pos ((pre_head 62 62 s).2 rfl)]; rfl
      · rw [if_neg (fun e => h ((pre_head 62 c s).1 e))]
        split
        · rename_i e; injection e with e _; exact absurd e h
        · rfl
theorem rep_len : ∀ (n : Nat) (s : List UInt8), s.length = n → (Lib.replaceAll s [13, 10] [10]).length ≤ s.length := by
  intro n
  induction n using Nat.strongRecOn with
  | _ n ih =>
    intro s hs
    cases s with
    | nil => rw [rep_nil _ _ (by simp) (by decide)]; simp
    | cons c r =>
      cases hp : pre [13, 10] (c :: r) with
      | true =>
        rw [rep_hit (by simp) (by decide) hp]
        have hl := pre_len hp
        have := ih ((c :: r).drop 2).length (by simp at hs hl ⊢; omega) _ rfl
        simp at this hl ⊢
        omega
      | false =>
        rw [rep_miss (by simp) (by decide) hp]
        have := ih r.length (by simp at hs; omega) _ rfl
        simp; omega
theorem Rep_any (l old new : List UInt8) (hl : l.length ≤ 1000000) (ho : 1 ≤ old.length) (hn : new.length = 1) (a b : ByteArray) (ha : a = text old) (hb : b = text new) (w : World) (hm : MaxL w) :
    Calls Tryz.prog 75 #[.string (text l), .string a, .string b] w fun e w' => e = .returned (.string (text (Lib.replaceAll l old new))) ∧ Below w.heap.size w w' := by
  subst ha hb
  obtain ⟨m, hm⟩ := hm
  have h1 : 1 ≤ (text old).size := by rw [text_size]; exact ho
  have hc := Lib.countB_mul_le (text old) h1 (text l).size (text l) (Nat.le_refl _)
  have hc2 : Lib.countB (text l) (text old) ≤ Lib.countB (text l) (text old) * (text old).size := Nat.le_mul_of_pos_right _ h1
  have s1 := text_size l
  have s2 : (text new).size = 1 := by rw [text_size, hn]
  have := Tryz.strings_ReplaceAll (text l) (text old) (text new) m w (by omega) hm h1 (by rw [s2, Nat.mul_one]; omega)
  rw [_root_.Go.Proofs.YthodmdfbahkflaaGreatDoor.text_data, _root_.Go.Proofs.YthodmdfbahkflaaGreatDoor.text_data, _root_.Go.Proofs.YthodmdfbahkflaaGreatDoor.text_data] at this
  exact this

section
variable {W w : World} {r k : Nat} {v t : Value} {l : List UInt8} {ts : List Tok}
set_option maxHeartbeats 4000000

theorem closing_any (h : Rd W r v l k t w) (ho : OwnT (r + 1) 45 73 w t ts) (hn : ts.length ≤ 1000000) (hp : pre [60, 47] (l.drop k) = true) :
    Calls Tryz.prog 46 #[.pointer (some ⟨r, 0, none⟩)] w fun e w' => GotT W r v l k ts (Res.up 2 some (closeR ((l.drop k).drop 2))) e w' := by
  have hlen := h.len
  have htop := h.top
  have hlt := h.lt
  have hold := h.old.size
  have c1 := h.c1
  have hroom := pre_room hp hlen
  have B0 := ba (b0 w) (.cells #[.int .i64 1, .int .i64 k, .string ⟨#[]⟩, .slice none 0 0] 45)
  have h0 := h.later B0
  have p0 : (w.alloc (.cells #[.int .i64 1, .int .i64 k, .string ⟨#[]⟩, .slice none 0 0] 45)).heap[w.heap.size]? = some (.cells #[.int .i64 1, .int .i64 k, .string ⟨#[]⟩, .slice none 0 0] 45) := heap_alloc_new w _
  have T0 := take_yes h0 [60, 47] (by decide) ⟨#[60, 47]⟩ rfl hp
  obtain ⟨m, hm⟩ : ∃ m, l.drop (k + 2) = m := ⟨_, rfl⟩
  have hm' : (l.drop k).drop 2 = m := by rw [List.drop_drop]; exact hm
  have hml : m.length + (k + 2) = l.length := by rw [← hm, List.length_drop]; simp at hroom; omega
  have hdr : ∀ n, l.drop (k + 2 + n) = m.drop n := by intro n; rw [← hm, List.drop_drop]
  rw [hm', closeR_eq]
  have N0 := fun X (hX : Rd W r v l (k + 2) t X) => name_any hX
  simp only [hm] at N0
  have K0 := hid (Kept.of (r := r) B0)
  have P0 := hid p0
  have LT0 : Hid (w.heap.size < (w.alloc (.cells #[.int .i64 1, .int .i64 k, .string ⟨#[]⟩, .slice none 0 0] 45)).heap.size) := hid (by simp)
  have HO := hid ho
  have TT := hid T0
  have HD := hid hdr
  clear h h0 p0 T0 ho hp hm hm' hdr B0 hroom
  cases hnm : nameR m with
  | bad p x =>
    have hx2 : ((x : Int) == 0) = false := by rw [beq_eq_false_iff_ne]; have := (nameR_bad hnm).2; omega
    rw [hnm] at N0
    have NN := hid N0
    have E : Hid (Res.up 2 some (Res.bad p x : Res Tok) = .bad (2 + p) x) := hid rfl
    clear N0 hnm
    go_enter Tryz.func46, Tryz.ntmps46
    go_wp2_with fail
    refine TT.out.mono ?_
    rintro e w1 ⟨rfl, h1, k1⟩
    have H1 := hid h1
    have K1 := hid (K0.out.trans k1)
    have P1 := hid ((k1.block w.heap.size LT0.out (fun e => by injection e with e; omega)).trans P0.out)
    have LT1 := hid (Nat.lt_of_lt_of_le LT0.out k1.size)
    clear h1 k1
    go_wp2_with fail
    refine (NN.out _ H1.out).mono ?_
    rintro e w2 ⟨⟨rfl, h2⟩, k2⟩
    have H2 := hid h2
    clear h2 k2
    go_wp2
    go_ret
    exact GotT.bad E.out rfl H2.out (by omega)
  | ok nm n =>
    rw [hnm] at N0
    have NN := hid N0
    obtain ⟨hnm1, hn1, hn2, _⟩ := nameR_is hnm
    have B1 := fun X (hX : Rd W r v l (k + 2 + n) t X) => blanks_any hX
    simp only [HD.out] at B1
    obtain ⟨b, hb⟩ : ∃ b, blanks (m.drop n) = b := ⟨_, rfl⟩
    have hbl := blanks_fit (m.drop n)
    rw [List.length_drop] at hbl
    simp only [hb] at B1 hbl ⊢
    have A1 := fun X (hX : Rd W r v l (k + 2 + n + b) t X) => ask_any hX [62] (by decide) ⟨#[62]⟩ rfl
    have e2 : l.drop (k + 2 + n + b) = (m.drop n).drop b := by rw [show k + 2 + n + b = k + 2 + (n + b) from by omega, HD.out, List.drop_drop]
    simp only [e2] at A1
    have BB := hid B1
    clear N0 hnm hb e2 B1 hnm1
    generalize (m.drop n).drop b = y at *
    cases h62 : pre [62] y with
    | false =>
      simp only [h62, Bool.false_eq_true, if_false] at A1
      have AA := hid A1
      have hx2 : ((short y : Int) == 0) = false := by rw [beq_eq_false_iff_ne]; have := short_ne y; omega
      generalize short y = x at *
      rw [if_neg (by simp)]
      have E : Hid (Res.up 2 some (Res.bad (n + b) x : Res Tok) = .bad (2 + (n + b)) x) := hid rfl
      clear A1 h62
      go_enter Tryz.func46, Tryz.ntmps46
      go_wp2_with fail
      refine TT.out.mono ?_
      rintro e w1 ⟨rfl, h1, k1⟩
      have H1 := hid h1
      have K1 := hid (K0.out.trans k1)
      have P1 := hid ((k1.block w.heap.size LT0.out (fun e => by injection e with e; omega)).trans P0.out)
      have LT1 := hid (Nat.lt_of_lt_of_le LT0.out k1.size)
      clear h1 k1
      go_wp2_with fail
      refine (NN.out _ H1.out).mono ?_
      rintro e w2 ⟨⟨rfl, h2⟩, k2⟩
      have H2 := hid h2
      clear h2 k2
      unfold strV
      go_wp2_with fail
      refine (BB.out _ H2.out).mono ?_
      rintro e w3 ⟨rfl, h3, k3⟩
      have H3 := hid h3
      clear h3 k3
      go_wp2_with fail
      refine (AA.out _ H3.out).mono ?_
      rintro e w4 ⟨rfl, h4, k4⟩
      have H4 := hid h4
      clear h4 k4
      go_wp2
      go_ret
      exact GotT.bad E.out rfl H4.out (by omega)
    | true =>
      simp only [h62, if_true] at A1
      have AA := hid A1
      rw [if_pos rfl]
      have E : Hid (Res.up 2 some (Res.ok ⟨1, 0, nm, []⟩ (n + b + 1) : Res Tok) = .ok (some ⟨1, 0, nm, []⟩) (2 + (n + b + 1))) := hid rfl
      have AD := fun X (hX : Rd W r v l (k + 2 + n + b + 1) t X) (oX : OwnT (r + 1) 45 73 X t ts) => add_any hX oX ⟨1, (k : Int), nm, []⟩ (OwnP.nil (r + 1) 73 X) hn
      dsimp only at AD
      have ADD := hid AD
      clear A1 h62 AD
      go_enter Tryz.func46, Tryz.ntmps46
      go_wp2_with fail
      refine TT.out.mono ?_
      rintro e w1 ⟨rfl, h1, k1⟩
      have H1 := hid h1
      have K1 := hid (K0.out.trans k1)
      have P1 := hid ((k1.block w.heap.size LT0.out (fun e => by injection e with e; omega)).trans P0.out)
      have LT1 := hid (Nat.lt_of_lt_of_le LT0.out k1.size)
      clear h1 k1
      go_wp2_with fail
      refine (NN.out _ H1.out).mono ?_
      rintro e w2 ⟨⟨rfl, h2⟩, k2⟩
      have H2 := hid h2
      have K2 := hid (K1.out.trans k2)
      have P2 := hid ((k2.block w.heap.size LT1.out (fun e => by injection e with e; omega)).trans P1.out)
      have LT2 := hid (Nat.lt_of_lt_of_le LT1.out k2.size)
      clear h2 k2
      unfold strV
      go_wp2_with fail
      refine (BB.out _ H2.out).mono ?_
      rintro e w3 ⟨rfl, h3, k3⟩
      have H3 := hid h3
      have K3 := hid (K2.out.trans k3)
      have P3 := hid ((k3.block w.heap.size LT2.out (fun e => by injection e with e; omega)).trans P2.out)
      have LT3 := hid (Nat.lt_of_lt_of_le LT2.out k3.size)
      clear h3 k3
      go_wp2_with fail
      refine (AA.out _ H3.out).mono ?_
      rintro e w4 ⟨rfl, h4, k4⟩
      have p4 := (k4.block w.heap.size LT3.out (fun e => by injection e with e; omega)).trans P3.out
      have H4 := hid h4
      have K4 := hid (K3.out.trans k4)
      have d0 : w4.cell? ⟨w.heap.size, 0, none⟩ = some (.int .i64 1) := by rw [Lib.cell_of_heap p4]; rfl
      have d1 : w4.cell? ⟨w.heap.size, 1, none⟩ = some (.int .i64 k) := by rw [Lib.cell_of_heap p4]; rfl
      have d2 : w4.cell? ⟨w.heap.size, 2, none⟩ = some (.string ⟨#[]⟩) := by rw [Lib.cell_of_heap p4]; rfl
      have d3 : w4.cell? ⟨w.heap.size, 3, none⟩ = some (.slice none 0 0) := by rw [Lib.cell_of_heap p4]; rfl
      have f2 := Lib.frozen_of_heap p4 2
      have g4 : w4.grownBy (w4.setCell ⟨w.heap.size, 2, none⟩ (.string (text nm))) (some w.heap.size) := Kept.put _ _ _ _
      have H5 := hid (H4.out.grown g4 (by omega) hold)
      have O5 := hid (HO.out.keep (kept_grown K4.out g4 (fun q hq => by injection hq with hq; omega)) (by omega))
      clear h4 k4 p4 g4
      go_wp2_with fail
      refine (ADD.out _ H5.out O5.out).mono ?_
      rintro e w6 ⟨rfl, t6, h6, o6⟩
      have H6 := hid h6
      have O6 := hid o6
      clear h6 o6
      go_wp2
      go_ret
      exact GotT.ok E.out rfl H6.out (by omega) O6.out (by simp [Tok.shift])

theorem raw_any (h : Rd W r v l k t w) (ho : OwnT (r + 1) 45 73 w t ts) (hn : ts.length ≤ 1000000) (hp : pre [60, 33, 91, 67, 68, 65, 84, 65, 91] (l.drop k) = true) :
    Calls Tryz.prog 45 #[.pointer (some ⟨r, 0, none⟩)] w fun e w' => GotT W r v l k ts (rawR (l.drop k)) e w' := by
  have hlen := h.len
  have htop := h.top
  have hlt := h.lt
  have hold := h.old.size
  have c1 := h.c1
  have hroom := pre_room hp hlen
  have B0 := ba (b0 w) (.cells #[.int .i64 3, .int .i64 k, .string ⟨#[]⟩, .slice none 0 0] 45)
  have h0 := h.later B0
  have p0 : (w.alloc (.cells #[.int .i64 3, .int .i64 k, .string ⟨#[]⟩, .slice none 0 0] 45)).heap[w.heap.size]? = some (.cells #[.int .i64 3, .int .i64 k, .string ⟨#[]⟩, .slice none 0 0] 45) := heap_alloc_new w _
  have T0 := take_yes h0 [60, 33, 91, 67, 68, 65, 84, 65, 91] (by decide) ⟨#[60, 33, 91, 67, 68, 65, 84, 65, 91]⟩ rfl hp
  obtain ⟨m, hm⟩ : ∃ m, l.drop (k + 9) = m := ⟨_, rfl⟩
  have hm' : (l.drop k).drop 9 = m := by rw [List.drop_drop]; exact hm
  have hml : m.length + (k + 9) = l.length := by rw [← hm, List.length_drop]; simp at hroom; omega
  have hkl : (l.drop k).length + k = l.length := by rw [List.length_drop]; omega
  have U0 := fun X (hX : Rd W r v l (k + 9) t X) => upTo_any hX [93, 93, 62] (by decide) ⟨#[93, 93, 62]⟩ rfl
  simp only [hm] at U0
  have hR : rawR (l.drop k) = match find [93, 93, 62] m with | none => .bad (l.drop k).length 10 | some i => .ok (if lines (m.take i) = [] then none else some ⟨3, 0, lines (m.take i), []⟩) (9 + i + 3) := by
    unfold rawR; rw [hm']; rfl
  generalize (l.drop k).length = L at *
  have K0 := hid (Kept.of (r := r) B0)
  have P0 := hid p0
  have LT0 : Hid (w.heap.size < (w.alloc (.cells #[.int .i64 3, .int .i64 k, .string ⟨#[]⟩, .slice none 0 0] 45)).heap.size) := hid (by simp)
  have HO := hid ho
  have TT := hid T0
  clear h h0 p0 T0 ho hp hm hm' B0 hroom
  cases hf : find [93, 93, 62] m with
  | none =>
    simp only [hf] at U0
    have UU := hid U0
    have E := hid (hR.trans (by rw [hf]) : rawR (l.drop k) = .bad L 10)
    clear U0 hf hR
    go_enter Tryz.func45, Tryz.ntmps45
    go_wp2_with fail
    refine TT.out.mono ?_
    rintro e w1 ⟨rfl, h1, k1⟩
    have H1 := hid h1
    have K1 := hid (K0.out.trans k1)
    have P1 := hid ((k1.block w.heap.size LT0.out (fun e => by injection e with e; omega)).trans P0.out)
    have LT1 := hid (Nat.lt_of_lt_of_le LT0.out k1.size)
    clear h1 k1
    go_wp2_with fail
    refine (UU.out _ H1.out).mono ?_
    rintro e w2 ⟨rfl, h2, k2⟩
    have H2 := hid h2
    clear h2 k2
    go_wp2
    go_ret
    exact GotT.bad E.out rfl H2.out (by omega)
  | some i =>
    have hi := find_room hf
    have hah := aheadOf_some hf
    simp only [hf, hah] at U0
    have UU := hid U0
    simp only [List.length_cons, List.length_nil] at hi
    have hxl : (m.take i).length = i := by rw [List.length_take]; omega
    have E0 := hR.trans (by rw [hf] : _ = Res.ok (if lines (m.take i) = [] then none else some ⟨3, 0, lines (m.take i), []⟩) (9 + i + 3))
    clear U0 hf hah hR
    generalize m.take i = x at *
    by_cases hx : x = []
    · subst hx
      have hne : ((text ([] : List UInt8)).toList != []) = false := by rw [Names.text_list]; rfl
      have hne3 : ((text ([] : List UInt8)).toList == []) = true := by rw [Names.text_list]; rfl
      have E := hid (E0.trans (by rfl) : rawR (l.drop k) = .ok none (9 + i + 3))
      clear E0
      go_enter Tryz.func45, Tryz.ntmps45
      go_wp2_with fail
      refine TT.out.mono ?_
      rintro e w1 ⟨rfl, h1, k1⟩
      have H1 := hid h1
      have K1 := hid (K0.out.trans k1)
      have P1 := hid ((k1.block w.heap.size LT0.out (fun e => by injection e with e; omega)).trans P0.out)
      have LT1 := hid (Nat.lt_of_lt_of_le LT0.out k1.size)
      clear h1 k1
      go_wp2_with fail
      refine (UU.out _ H1.out).mono ?_
      rintro e w2 ⟨rfl, h2, k2⟩
      have H2 := hid h2
      have K2 := hid (K1.out.trans k2)
      clear h2 k2
      go_wp2
      go_ret
      exact GotT.ok (us := ts) (j := k + 9 + (i + 3)) E.out rfl H2.out (by omega) (HO.out.keep K2.out (by omega)) (by simp)
    · have hln : ¬ lines x = [] := fun e => hx ((lines_nil x).1 e)
      have hne : ((text x).toList == []) = false := by rw [Names.text_list]; simpa using hx
      have hne2 : ((text x).toList != []) = true := by rw [Names.text_list]; simpa using hx
      rw [if_neg hln] at E0
      have E := hid E0
      clear E0
      have hrl := rep_len _ x rfl
      have R1 := hid (fun X (hX : MaxL X) => Rep_any x [13, 10] [10] (by omega) (by decide) (by decide) ⟨#[13, 10]⟩ ⟨#[10]⟩ rfl rfl X hX)
      have R2 := fun X (hX : MaxL X) => Rep_any (Lib.replaceAll x [13, 10] [10]) [13] [10] (by omega) (by decide) (by decide) ⟨#[13]⟩ ⟨#[10]⟩ rfl rfl X hX
      simp only [lines_eq] at R2
      have RR2 := hid R2
      have AD := fun X (hX : Rd W r v l (k + 9 + (i + 3)) t X) (oX : OwnT (r + 1) 45 73 X t ts) => add_any hX oX ⟨3, (k : Int), lines x, []⟩ (OwnP.nil (r + 1) 73 X) hn
      dsimp only at AD
      have ADD := hid AD
      clear R2 AD hln hx hrl
      generalize Lib.replaceAll x [13, 10] [10] = x1 at *
      generalize lines x = y at *
      go_enter Tryz.func45, Tryz.ntmps45
      go_wp2_with fail
      refine TT.out.mono ?_
      rintro e w1 ⟨rfl, h1, k1⟩
      have H1 := hid h1
      have K1 := hid (K0.out.trans k1)
      have P1 := hid ((k1.block w.heap.size LT0.out (fun e => by injection e with e; omega)).trans P0.out)
      have LT1 := hid (Nat.lt_of_lt_of_le LT0.out k1.size)
      clear h1 k1
      go_wp2_with fail
      refine (UU.out _ H1.out).mono ?_
      rintro e w2 ⟨rfl, h2, k2⟩
      have H2 := hid h2
      have K2 := hid (K1.out.trans k2)
      have P2 := hid ((k2.block w.heap.size LT1.out (fun e => by injection e with e; omega)).trans P1.out)
      have LT2 := hid (Nat.lt_of_lt_of_le LT1.out k2.size)
      clear h2 k2
      go_wp2_with fail
      refine (R1.out _ H2.out.fitw.2).mono ?_
      rintro e w3 ⟨rfl, hb3⟩
      have H3 := hid (H2.out.later hb3)
      have K3 := hid (K2.out.trans (Kept.of hb3))
      have P3 := hid ((hb3.block w.heap.size LT2.out).trans P2.out)
      have LT3 := hid (Nat.lt_of_lt_of_le LT2.out hb3.size)
      clear hb3
      go_wp2_with fail
      refine (RR2.out _ H3.out.fitw.2).mono ?_
      rintro e w4 ⟨rfl, hb4⟩
      have p4 := (hb4.block w.heap.size LT3.out).trans P3.out
      have H4 := hid (H3.out.later hb4)
      have K4 := hid (K3.out.trans (Kept.of hb4))
      have d0 : w4.cell? ⟨w.heap.size, 0, none⟩ = some (.int .i64 3) := by rw [Lib.cell_of_heap p4]; rfl
      have d1 : w4.cell? ⟨w.heap.size, 1, none⟩ = some (.int .i64 k) := by rw [Lib.cell_of_heap p4]; rfl
      have d2 : w4.cell? ⟨w.heap.size, 2, none⟩ = some (.string ⟨#[]⟩) := by rw [Lib.cell_of_heap p4]; rfl
      have d3 : w4.cell? ⟨w.heap.size, 3, none⟩ = some (.slice none 0 0) := by rw [Lib.cell_of_heap p4]; rfl
      have f2 := Lib.frozen_of_heap p4 2
      have g4 : w4.grownBy (w4.setCell ⟨w.heap.size, 2, none⟩ (.string (text y))) (some w.heap.size) := Kept.put _ _ _ _
      have H5 := hid (H4.out.grown g4 (by omega) hold)
      have O5 := hid (HO.out.keep (kept_grown K4.out g4 (fun q hq => by injection hq with hq; omega)) (by omega))
      clear hb4 p4 g4
      go_wp2_with fail
      refine (ADD.out _ H5.out O5.out).mono ?_
      rintro e w6 ⟨rfl, t6, h6, o6⟩
      have H6 := hid h6
      have O6 := hid o6
      clear h6 o6
      go_wp2
      go_ret
      exact GotT.ok E.out rfl H6.out (by omega) O6.out (by simp [Tok.shift])
end
end Go.Proofs.YthodmdfbahkflaaGreatDoor.Tok
namespace Go.Proofs.YthodmdfbahkflaaGreatDoor.Tok
open Go Go.Proofs.YthodmdfbahkflaaGreatDoor Go.Proofs.YthodmdfbahkflaaGreatDoor.Utf Go.Proofs.YthodmdfbahkflaaGreatDoor.Names Go.Proofs.YthodmdfbahkflaaGreatDoor.Ent Go.RowKit
set_option maxRecDepth 100000

theorem attrsF_fuel : ∀ (f g : Nat) (seen : List (List UInt8)) (l : List UInt8), l.length < f → l.length < g → attrsF f seen l = attrsF g seen l
  | 0, _, _, _, h, _ => absurd h (by omega)
  | _, 0, _, _, _, h => absurd h (by omega)
  | f + 1, g + 1, seen, l, h1, h2 => by
    rw [attrsF_eq, attrsF_eq]
    have hb := blanks_fit l
    split
    · rfl
    · split
      · rfl
      · cases hat : attrT seen (l.drop (blanks l)) with
        | bad p e => rfl
        | ok x j =>
          have hj := attrT_pos hat
          rw [List.length_drop] at hj
          dsimp only
          rw [attrsF_fuel f g (x.1 :: seen) ((l.drop (blanks l)).drop j) (by simp; omega) (by simp; omega)]
theorem tagR_eq (r : List UInt8) : tagR r = match nameR r with
    | .bad p e => .bad p e
    | .ok nm n => match attrsF ((r.drop n).length + 1) [] (r.drop n) with
      | .bad p e => .bad (n + p) e
      | .ok xs j =>
        if pre [47] (r.drop (n + j)) = true then (if pre [62] ((r.drop (n + j)).drop 1) = true then .ok ⟨2, 0, nm, xs.map (Pr.shift n)⟩ (n + j + 2) else .bad (n + j + 1) (short ((r.drop (n + j)).drop 1)))
        else if pre [62] (r.drop (n + j)) = true then .ok ⟨0, 0, nm, xs.map (Pr.shift n)⟩ (n + j + 1) else .bad (n + j) (short (r.drop (n + j))) := by
  unfold tagR
  cases nameR r with
  | bad p e => rfl
  | ok nm n =>
    dsimp only
    rw [attrsF_fuel (r.length + 1) ((r.drop n).length + 1) [] (r.drop n) (by simp; omega) (by omega)]
    cases attrsF ((r.drop n).length + 1) [] (r.drop n) with
    | bad p e => rfl
    | ok xs j =>
      dsimp only
      generalize r.drop (n + j) = y
      cases y with
      | nil => rw [if_neg (by simp [pre, List.isPrefixOf]), if_neg (by simp [pre, List.isPrefixOf])]
      | cons c s =>
        by_cases h : c = 47
        · subst h
          rw [if_pos ((pre_head 47 47 s).2 rfl)]
          rw [List.drop_succ_cons, List.drop_zero]
          cases s with
          | nil => rw [if_neg (by simp [pre, List.isPrefixOf])]; rfl
          | cons d u =>
            by_cases h2 : d = 62
            · subst h2; rw [if_pos ((pre_head 62 62 u).2 rfl)]; rfl
            · rw [if_neg (fun e => h2 ((pre_head 62 d u).1 e))]
              split
              · rename_i e; injection e with e _; cases e
              · rename_i e; injection e with _ e; injection e with e _; exact absurd e h2
              · rename_i e; injection e with _ e; rw [← e]
              · rename_i q; exact (q _ rfl).elim
        · rw [if_neg (fun e => h ((pre_head 47 c s).1 e))]
          by_cases h2 : c = 62
          · subst h2; rw [if_pos ((pre_head 62 62 s).2 rfl)]; rfl
          · rw [if_neg (fun e => h2 ((pre_head 62 c s).1 e))]
            split
            · rename_i e; injection e with e _; exact absurd e h2
            · rename_i e; injection e with e _; exact absurd e h
            · rename_i e; injection e with e _; exact absurd e h
            · rfl

theorem four_put0 {w : World} {b : Nat} {x0 x1 x2 x3 : Value} {ty : TypeId} (p : w.heap[b]? = some (.cells #[x0, x1, x2, x3] ty (0, 0))) (u : Value) : (w.setCell ⟨b, 0, none⟩ u).heap[b]? = some (.cells #[u, x1, x2, x3] ty (0, 0)) := by
  simp [World.setCell, Array.getElem?_modify, p]
theorem four_put2 {w : World} {b : Nat} {x0 x1 x2 x3 : Value} {ty : TypeId} (p : w.heap[b]? = some (.cells #[x0, x1, x2, x3] ty (0, 0))) (u : Value) : (w.setCell ⟨b, 2, none⟩ u).heap[b]? = some (.cells #[x0, x1, u, x3] ty (0, 0)) := by
  simp [World.setCell, Array.getElem?_modify, p]
theorem four_put3 {w : World} {b : Nat} {x0 x1 x2 x3 : Value} {ty : TypeId} (p : w.heap[b]? = some (.cells #[x0, x1, x2, x3] ty (0, 0))) (u : Value) : (w.setCell ⟨b, 3, none⟩ u).heap[b]? = some (.cells #[x0, x1, x2, u] ty (0, 0)) := by
  simp [World.setCell, Array.getElem?_modify, p]
theorem OwnP.form {B : Nat} {ep : TypeId} {w : World} {a : Value} {ps : List Pr} (h : OwnP B ep w a ps) : ∃ ao n c, a = .slice ao n c := by
  rcases h.2 with ⟨rfl, _⟩ | ⟨g, cap, cur, rfl, _⟩
  · exact ⟨_, _, _, rfl⟩
  · exact ⟨_, _, _, rfl⟩
theorem size_put {w : World} (a : Addr) (u : Value) : (w.setCell a u).heap.size = w.heap.size := by simp [World.setCell]

section
variable {W w : World} {r k : Nat} {v t : Value} {l : List UInt8} {ts : List Tok}
set_option maxHeartbeats 8000000

theorem opening_any (h : Rd W r v l k t w) (ho : OwnT (r + 1) 45 73 w t ts) (hn : ts.length ≤ 1000000) (hp : pre [60] (l.drop k) = true) :
    Calls Tryz.prog 47 #[.pointer (some ⟨r, 0, none⟩)] w fun e w' => GotT W r v l k ts (Res.up 1 (fun t => some { t with attrs := t.attrs.map (Pr.shift 1) }) (tagR ((l.drop k).drop 1))) e w' := by
  have hlen := h.len
  have htop := h.top
  have hlt := h.lt
  have hold := h.old.size
  have c1 := h.c1
  have hroom := pre_room hp hlen
  have B0 := ba (b0 w) (.cells #[.int .i64 0, .int .i64 k, .string ⟨#[]⟩, .slice none 0 0] 45)
  have h0 := h.later B0
  have p0 : (w.alloc (.cells #[.int .i64 0, .int .i64 k, .string ⟨#[]⟩, .slice none 0 0] 45)).heap[w.heap.size]? = some (.cells #[.int .i64 0, .int .i64 k, .string ⟨#[]⟩, .slice none 0 0] 45) := heap_alloc_new w _
  have T0 := take_yes h0 [60] (by decide) ⟨#[60]⟩ rfl hp
  obtain ⟨m, hm⟩ : ∃ m, l.drop (k + 1) = m := ⟨_, rfl⟩
  have hm' : (l.drop k).drop 1 = m := by rw [List.drop_drop]; exact hm
  have hml : m.length + (k + 1) = l.length := by rw [← hm, List.length_drop]; simp at hroom; omega
  have hdr : ∀ n, l.drop (k + 1 + n) = m.drop n := by intro n; rw [← hm, List.drop_drop]
  rw [hm', tagR_eq]
  have N0 := fun X (hX : Rd W r v l (k + 1) t X) => name_any hX
  simp only [hm] at N0
  have K0 := hid (Kept.of (r := r) B0)
  have P0 := hid p0
  have LT0 : Hid (w.heap.size < (w.alloc (.cells #[.int .i64 0, .int .i64 k, .string ⟨#[]⟩, .slice none 0 0] 45)).heap.size) := hid (by simp)
  have HO := hid ho
  have TT := hid T0
  have HD := hid hdr
  clear h h0 p0 T0 ho hp hm hm' hdr B0 hroom
  cases hnm : nameR m with
  | bad p x =>
    have hx2 : ((x : Int) == 0) = false := by rw [beq_eq_false_iff_ne]; have := (nameR_bad hnm).2; omega
    rw [hnm] at N0
    have NN := hid N0
    have E : Hid (Res.up 1 (fun t : Tok => some { t with attrs := t.attrs.map (Pr.shift 1) }) (Res.bad p x : Res Tok) = .bad (1 + p) x) := hid rfl
    clear N0 hnm
    go_enter Tryz.func47, Tryz.ntmps47
    go_wp2_with fail
    refine TT.out.mono ?_
    rintro e w1 ⟨rfl, h1, k1⟩
    have H1 := hid h1
    have K1 := hid (K0.out.trans k1)
    have P1 := hid ((k1.block w.heap.size LT0.out (fun e => by injection e with e; omega)).trans P0.out)
    have LT1 := hid (Nat.lt_of_lt_of_le LT0.out k1.size)
    clear h1 k1
    go_wp2_with fail
    refine (NN.out _ H1.out).mono ?_
    rintro e w2 ⟨⟨rfl, h2⟩, k2⟩
    have H2 := hid h2
    clear h2 k2
    go_wp2
    go_ret
    exact GotT.bad E.out rfl H2.out (by omega)
  | ok nm n =>
    rw [hnm] at N0
    have NN := hid N0
    obtain ⟨hnm1, hn1, hn2, _⟩ := nameR_is hnm
    have A0 := fun X (hX : Rd W r v l (k + 1 + n) t X) => attributes_any hX
    simp only [HD.out] at A0
    dsimp only
    clear hnm1 N0 hnm
    cases hat : attrsF ((m.drop n).length + 1) [] (m.drop n) with
    | bad p x =>
      have hx2 : ((x : Int) == 0) = false := by rw [beq_eq_false_iff_ne]; have := (attrsF_bad _ _ _ _ _ hat).2; omega
      simp only [hat] at A0
      have AA := hid A0
      have E : Hid (Res.up 1 (fun t : Tok => some { t with attrs := t.attrs.map (Pr.shift 1) }) (Res.bad (n + p) x : Res Tok) = .bad (1 + (n + p)) x) := hid rfl
      clear A0 hat
      go_enter Tryz.func47, Tryz.ntmps47
      go_wp2_with fail
      refine TT.out.mono ?_
      rintro e w1 ⟨rfl, h1, k1⟩
      have H1 := hid h1
      have K1 := hid (K0.out.trans k1)
      have P1 := hid ((k1.block w.heap.size LT0.out (fun e => by injection e with e; omega)).trans P0.out)
      have LT1 := hid (Nat.lt_of_lt_of_le LT0.out k1.size)
      clear h1 k1
      go_wp2_with fail
      refine (NN.out _ H1.out).mono ?_
      rintro e w2 ⟨⟨rfl, h2⟩, k2⟩
      have p2 := (k2.block w.heap.size LT1.out (fun e => by injection e with e; omega)).trans P1.out
      have e2 : w2.cell? ⟨w.heap.size, 2, none⟩ = some (.string ⟨#[]⟩) := by rw [Lib.cell_of_heap p2]; rfl
      have g2 := Lib.frozen_of_heap p2 2
      have gg2 : w2.grownBy (w2.setCell ⟨w.heap.size, 2, none⟩ (.string (text nm))) (some w.heap.size) := Kept.put _ _ _ _
      have LT2 := hid (Nat.lt_of_lt_of_le LT1.out k2.size)
      have H3 := hid (h2.grown gg2 (by omega) hold)
      have P3 := hid (four_put2 p2 (.string (text nm)))
      have K3 := hid (kept_grown (K1.out.trans k2) gg2 (fun q hq => by injection hq with hq; omega))
      clear h2 k2 p2 gg2
      unfold strV
      go_wp2_with fail
      refine (AA.out _ H3.out).mono ?_
      rintro e w4 ⟨⟨rfl, h4⟩, k4⟩
      have p4 := (k4.block w.heap.size (by rw [size_put]; exact LT2.out) (fun e => by injection e with e; omega)).trans P3.out
      have e3 : w4.cell? ⟨w.heap.size, 3, none⟩ = some (.slice none 0 0) := by rw [Lib.cell_of_heap p4]; rfl
      have g3 := Lib.frozen_of_heap p4 3
      have H4 := hid h4
      clear h4 k4 p4
      go_wp2
      go_ret
      have g5 : w4.grownBy (w4.setCell ⟨w.heap.size, 3, none⟩ (.slice none 0 0)) (some w.heap.size) := Kept.put _ _ _ _
      exact GotT.bad E.out rfl (H4.out.grown g5 (by omega) hold) (by omega)
    | ok xs j =>
      simp only [hat] at A0
      have AA := hid A0
      dsimp only
      have hdj : l.drop (k + 1 + n + j) = m.drop (n + j) := by rw [Nat.add_assoc, HD.out]
      have hdj1 : l.drop (k + 1 + n + j + 1) = (m.drop (n + j)).drop 1 := by rw [show k + 1 + n + j + 1 = k + 1 + (n + j + 1) from by omega, HD.out, List.drop_drop]
      have S0 := fun X (hX : Rd W r v l (k + 1 + n + j) t X) => take_any hX [47] (by decide) ⟨#[47]⟩ rfl
      simp only [hdj] at S0
      have G0 := fun X (hX : Rd W r v l (k + 1 + n + j) t X) => ask_any hX [62] (by decide) ⟨#[62]⟩ rfl
      simp only [hdj] at G0
      have G1 := fun X (hX : Rd W r v l (k + 1 + n + j + 1) t X) => ask_any hX [62] (by decide) ⟨#[62]⟩ rfl
      simp only [hdj1] at G1
      have hsh : ((xs.map (Pr.shift n)).map (Pr.shift 1)).map (Pr.shift k) = xs.map (Pr.shift (k + 1 + n)) := by
        rw [List.map_map, List.map_map]
        refine List.map_congr_left fun p _ => ?_
        simp only [Function.comp]
        rw [prShift_shift, prShift_shift, Nat.add_assoc]
      have HSH := hid hsh
      clear A0 hat hdj hdj1 hsh
      generalize m.drop (n + j) = y at *
      cases h47 : pre [47] y with
      | false =>
        simp only [h47, Bool.false_eq_true, if_false] at S0
        have SS := hid S0
        rw [if_neg (by simp)]
        cases h62 : pre [62] y with
        | false =>
          simp only [h62, Bool.false_eq_true, if_false] at G0
          have GG := hid G0
          have hx2 : ((short y : Int) == 0) = false := by rw [beq_eq_false_iff_ne]; have := short_ne y; omega
          generalize short y = x at *
          rw [if_neg (by simp)]
          have E : Hid (Res.up 1 (fun t : Tok => some { t with attrs := t.attrs.map (Pr.shift 1) }) (Res.bad (n + j) x : Res Tok) = .bad (1 + (n + j)) x) := hid rfl
          clear G0 G1 S0 h47 h62
          go_enter Tryz.func47, Tryz.ntmps47
          go_wp2_with fail
          refine TT.out.mono ?_
          rintro e w1 ⟨rfl, h1, k1⟩
          have H1 := hid h1
          have K1 := hid (K0.out.trans k1)
          have P1 := hid ((k1.block w.heap.size LT0.out (fun e => by injection e with e; omega)).trans P0.out)
          have LT1 := hid (Nat.lt_of_lt_of_le LT0.out k1.size)
          clear h1 k1
          go_wp2_with fail
          refine (NN.out _ H1.out).mono ?_
          rintro e w2 ⟨⟨rfl, h2⟩, k2⟩
          have p2 := (k2.block w.heap.size LT1.out (fun e => by injection e with e; omega)).trans P1.out
          have e2 : w2.cell? ⟨w.heap.size, 2, none⟩ = some (.string ⟨#[]⟩) := by rw [Lib.cell_of_heap p2]; rfl
          have g2 := Lib.frozen_of_heap p2 2
          have gg2 : w2.grownBy (w2.setCell ⟨w.heap.size, 2, none⟩ (.string (text nm))) (some w.heap.size) := Kept.put _ _ _ _
          have LT2 := hid (Nat.lt_of_lt_of_le LT1.out k2.size)
          have H3 := hid (h2.grown gg2 (by omega) hold)
          have P3 := hid (four_put2 p2 (.string (text nm)))
          have K3 := hid (kept_grown (K1.out.trans k2) gg2 (fun q hq => by injection hq with hq; omega))
          clear h2 k2 p2 gg2
          unfold strV
          go_wp2_with fail
          refine (AA.out _ H3.out).mono ?_
          rintro e w4 ⟨⟨a, rfl, h4, a4⟩, k4⟩
          obtain ⟨ao, an, ac, rfl⟩ := a4.form
          have p4 := (k4.block w.heap.size (by rw [size_put]; exact LT2.out) (fun e => by injection e with e; omega)).trans P3.out
          have e3 : w4.cell? ⟨w.heap.size, 3, none⟩ = some (.slice none 0 0) := by rw [Lib.cell_of_heap p4]; rfl
          have g3 := Lib.frozen_of_heap p4 3
          have gg4 : w4.grownBy (w4.setCell ⟨w.heap.size, 3, none⟩ (.slice ao an ac)) (some w.heap.size) := Kept.put _ _ _ _
          have H5 := hid (h4.grown gg4 (by omega) hold)
          have P5 := hid (four_put3 p4 (.slice ao an ac))
          have K5 := hid (kept_grown (K3.out.trans k4) gg4 (fun q hq => by injection hq with hq; omega))
          have LT5 : Hid (w.heap.size < (w4.setCell ⟨w.heap.size, 3, none⟩ (.slice ao an ac)).heap.size) := hid (by rw [size_put]; have := k4.size; rw [size_put] at this; have := LT2.out; omega)
          have A5 := hid (a4.keep (r := w.heap.size) gg4 (by rw [size_put]; exact LT2.out))
          clear h4 a4 k4 p4 gg4
          go_wp2_with fail
          refine (SS.out _ H5.out).mono ?_
          rintro e w6 ⟨rfl, h6, k6⟩
          have H6 := hid h6
          clear h6 k6
          go_wp2_with fail
          refine (GG.out _ H6.out).mono ?_
          rintro e w7 ⟨rfl, h7, k7⟩
          have H7 := hid h7
          clear h7 k7
          go_wp2
          go_ret
          exact GotT.bad E.out rfl H7.out (by omega)
        | true =>
          simp only [h62, if_true] at G0
          have GG := hid G0
          rw [if_pos rfl]
          have E : Hid (Res.up 1 (fun t : Tok => some { t with attrs := t.attrs.map (Pr.shift 1) }) (Res.ok ⟨0, 0, nm, xs.map (Pr.shift n)⟩ (n + j + 1) : Res Tok) = .ok (some ⟨0, 0, nm, (xs.map (Pr.shift n)).map (Pr.shift 1)⟩) (1 + (n + j + 1))) := hid rfl
          have AD := fun X a (hX : Rd W r v l (k + 1 + n + j + 1) t X) (oX : OwnT (r + 1) 45 73 X t ts) (aX : OwnP (r + 1) 73 X a (xs.map (Pr.shift (k + 1 + n)))) => add_any hX oX ⟨0, (k : Int), nm, xs.map (Pr.shift (k + 1 + n))⟩ aX hn
          dsimp only at AD
          have ADD := hid AD
          clear G0 G1 S0 h47 h62 AD
          go_enter Tryz.func47, Tryz.ntmps47
          go_wp2_with fail
          refine TT.out.mono ?_
          rintro e w1 ⟨rfl, h1, k1⟩
          have H1 := hid h1
          have K1 := hid (K0.out.trans k1)
          have P1 := hid ((k1.block w.heap.size LT0.out (fun e => by injection e with e; omega)).trans P0.out)
          have LT1 := hid (Nat.lt_of_lt_of_le LT0.out k1.size)
          clear h1 k1
          go_wp2_with fail
          refine (NN.out _ H1.out).mono ?_
          rintro e w2 ⟨⟨rfl, h2⟩, k2⟩
          have p2 := (k2.block w.heap.size LT1.out (fun e => by injection e with e; omega)).trans P1.out
          have e2 : w2.cell? ⟨w.heap.size, 2, none⟩ = some (.string ⟨#[]⟩) := by rw [Lib.cell_of_heap p2]; rfl
          have g2 := Lib.frozen_of_heap p2 2
          have gg2 : w2.grownBy (w2.setCell ⟨w.heap.size, 2, none⟩ (.string (text nm))) (some w.heap.size) := Kept.put _ _ _ _
          have LT2 := hid (Nat.lt_of_lt_of_le LT1.out k2.size)
          have H3 := hid (h2.grown gg2 (by omega) hold)
          have P3 := hid (four_put2 p2 (.string (text nm)))
          have K3 := hid (kept_grown (K1.out.trans k2) gg2 (fun q hq => by injection hq with hq; omega))
          clear h2 k2 p2 gg2
          unfold strV
          go_wp2_with fail
          refine (AA.out _ H3.out).mono ?_
          rintro e w4 ⟨⟨a, rfl, h4, a4⟩, k4⟩
          obtain ⟨ao, an, ac, rfl⟩ := a4.form
          have p4 := (k4.block w.heap.size (by rw [size_put]; exact LT2.out) (fun e => by injection e with e; omega)).trans P3.out
          have e3 : w4.cell? ⟨w.heap.size, 3, none⟩ = some (.slice none 0 0) := by rw [Lib.cell_of_heap p4]; rfl
          have g3 := Lib.frozen_of_heap p4 3
          have gg4 : w4.grownBy (w4.setCell ⟨w.heap.size, 3, none⟩ (.slice ao an ac)) (some w.heap.size) := Kept.put _ _ _ _
          have H5 := hid (h4.grown gg4 (by omega) hold)
          have P5 := hid (four_put3 p4 (.slice ao an ac))
          have K5 := hid (kept_grown (K3.out.trans k4) gg4 (fun q hq => by injection hq with hq; omega))
          have LT5 : Hid (w.heap.size < (w4.setCell ⟨w.heap.size, 3, none⟩ (.slice ao an ac)).heap.size) := hid (by rw [size_put]; have := k4.size; rw [size_put] at this; have := LT2.out; omega)
          have A5 := hid (a4.keep (r := w.heap.size) gg4 (by rw [size_put]; exact LT2.out))
          clear h4 a4 k4 p4 gg4
          go_wp2_with fail
          refine (SS.out _ H5.out).mono ?_
          rintro e w6 ⟨rfl, h6, k6⟩
          have H6 := hid h6
          have K6 := hid (K5.out.trans k6)
          have P6 := hid ((k6.block w.heap.size LT5.out (fun e => by injection e with e; omega)).trans P5.out)
          have LT6 := hid (Nat.lt_of_lt_of_le LT5.out k6.size)
          have A6 := hid (A5.out.keep k6 (by have := LT2.out; rw [size_put]; omega))
          clear h6 k6
          go_wp2_with fail
          refine (GG.out _ H6.out).mono ?_
          rintro e w7 ⟨rfl, h7, k7⟩
          have p7 := (k7.block w.heap.size LT6.out (fun e => by injection e with e; omega)).trans P6.out
          have H7 := hid h7
          have K7 := hid (K6.out.trans k7)
          have A7 := hid (A6.out.keep k7 (by have := LT2.out; rw [size_put]; omega))
          have q0 : w7.cell? ⟨w.heap.size, 0, none⟩ = some (.int .i64 0) := by rw [Lib.cell_of_heap p7]; rfl
          have q1 : w7.cell? ⟨w.heap.size, 1, none⟩ = some (.int .i64 k) := by rw [Lib.cell_of_heap p7]; rfl
          have q2 : w7.cell? ⟨w.heap.size, 2, none⟩ = some (.string (text nm)) := by rw [Lib.cell_of_heap p7]; rfl
          have q3 : w7.cell? ⟨w.heap.size, 3, none⟩ = some (.slice ao an ac) := by rw [Lib.cell_of_heap p7]; rfl
          have O7 := hid (HO.out.keep K7.out (by omega))
          clear h7 k7 p7
          go_wp2_with fail
          refine (ADD.out _ (.slice ao an ac) H7.out O7.out (A7.out.base (by rw [size_put]; have := LT2.out; omega))).mono ?_
          rintro e w8 ⟨rfl, t8, h8, o8⟩
          have H8 := hid h8
          have O8 := hid o8
          clear h8 o8
          go_wp2
          go_ret
          exact GotT.ok E.out rfl H8.out (by omega) O8.out (by simp only [Option.toList_some, List.map_cons, List.map_nil, Tok.shift]; rw [HSH.out]; simp)
      | true =>
        simp only [h47, if_true] at S0
        have SS := hid S0
        rw [if_pos rfl]
        cases h62 : pre [62] (y.drop 1) with
        | false =>
          simp only [h62, Bool.false_eq_true, if_false] at G1
          have GG := hid G1
          have hx2 : ((short (y.drop 1) : Int) == 0) = false := by rw [beq_eq_false_iff_ne]; have := short_ne (y.drop 1); omega
          generalize short (y.drop 1) = x at *
          rw [if_neg (by simp)]
          have E : Hid (Res.up 1 (fun t : Tok => some { t with attrs := t.attrs.map (Pr.shift 1) }) (Res.bad (n + j + 1) x : Res Tok) = .bad (1 + (n + j + 1)) x) := hid rfl
          clear G0 G1 S0 h47 h62
          go_enter Tryz.func47, Tryz.ntmps47
          go_wp2_with fail
          refine TT.out.mono ?_
          rintro e w1 ⟨rfl, h1, k1⟩
          have H1 := hid h1
          have K1 := hid (K0.out.trans k1)
          have P1 := hid ((k1.block w.heap.size LT0.out (fun e => by injection e with e; omega)).trans P0.out)
          have LT1 := hid (Nat.lt_of_lt_of_le LT0.out k1.size)
          clear h1 k1
          go_wp2_with fail
          refine (NN.out _ H1.out).mono ?_
          rintro e w2 ⟨⟨rfl, h2⟩, k2⟩
          have p2 := (k2.block w.heap.size LT1.out (fun e => by injection e with e; omega)).trans P1.out
          have e2 : w2.cell? ⟨w.heap.size, 2, none⟩ = some (.string ⟨#[]⟩) := by rw [Lib.cell_of_heap p2]; rfl
          have g2 := Lib.frozen_of_heap p2 2
          have gg2 : w2.grownBy (w2.setCell ⟨w.heap.size, 2, none⟩ (.string (text nm))) (some w.heap.size) := Kept.put _ _ _ _
          have LT2 := hid (Nat.lt_of_lt_of_le LT1.out k2.size)
          have H3 := hid (h2.grown gg2 (by omega) hold)
          have P3 := hid (four_put2 p2 (.string (text nm)))
          have K3 := hid (kept_grown (K1.out.trans k2) gg2 (fun q hq => by injection hq with hq; omega))
          clear h2 k2 p2 gg2
          unfold strV
          go_wp2_with fail
          refine (AA.out _ H3.out).mono ?_
          rintro e w4 ⟨⟨a, rfl, h4, a4⟩, k4⟩
          obtain ⟨ao, an, ac, rfl⟩ := a4.form
          have p4 := (k4.block w.heap.size (by rw [size_put]; exact LT2.out) (fun e => by injection e with e; omega)).trans P3.out
          have e3 : w4.cell? ⟨w.heap.size, 3, none⟩ = some (.slice none 0 0) := by rw [Lib.cell_of_heap p4]; rfl
          have g3 := Lib.frozen_of_heap p4 3
          have gg4 : w4.grownBy (w4.setCell ⟨w.heap.size, 3, none⟩ (.slice ao an ac)) (some w.heap.size) := Kept.put _ _ _ _
          have H5 := hid (h4.grown gg4 (by omega) hold)
          have P5 := hid (four_put3 p4 (.slice ao an ac))
          have K5 := hid (kept_grown (K3.out.trans k4) gg4 (fun q hq => by injection hq with hq; omega))
          have LT5 : Hid (w.heap.size < (w4.setCell ⟨w.heap.size, 3, none⟩ (.slice ao an ac)).heap.size) := hid (by rw [size_put]; have := k4.size; rw [size_put] at this; have := LT2.out; omega)
          have A5 := hid (a4.keep (r := w.heap.size) gg4 (by rw [size_put]; exact LT2.out))
          clear h4 a4 k4 p4 gg4
          go_wp2_with fail
          refine (SS.out _ H5.out).mono ?_
          rintro e w6 ⟨rfl, h6, k6⟩
          have p6 := (k6.block w.heap.size LT5.out (fun e => by injection e with e; omega)).trans P5.out
          have q0 : w6.cell? ⟨w.heap.size, 0, none⟩ = some (.int .i64 0) := by rw [Lib.cell_of_heap p6]; rfl
          have r0 := Lib.frozen_of_heap p6 0
          have g6 : w6.grownBy (w6.setCell ⟨w.heap.size, 0, none⟩ (.int .i64 2)) (some w.heap.size) := Kept.put _ _ _ _
          have H6 := hid (h6.grown g6 (by omega) hold)
          clear h6 k6 p6 g6
          go_wp2_with fail
          refine (GG.out _ H6.out).mono ?_
          rintro e w7 ⟨rfl, h7, k7⟩
          have H7 := hid h7
          clear h7 k7
          go_wp2
          go_ret
          exact GotT.bad E.out rfl H7.out (by omega)
        | true =>
          simp only [h62, if_true] at G1
          have GG := hid G1
          rw [if_pos rfl]
          have E : Hid (Res.up 1 (fun t : Tok => some { t with attrs := t.attrs.map (Pr.shift 1) }) (Res.ok ⟨2, 0, nm, xs.map (Pr.shift n)⟩ (n + j + 2) : Res Tok) = .ok (some ⟨2, 0, nm, (xs.map (Pr.shift n)).map (Pr.shift 1)⟩) (1 + (n + j + 2))) := hid rfl
          have AD := fun X a (hX : Rd W r v l (k + 1 + n + j + 1 + 1) t X) (oX : OwnT (r + 1) 45 73 X t ts) (aX : OwnP (r + 1) 73 X a (xs.map (Pr.shift (k + 1 + n)))) => add_any hX oX ⟨2, (k : Int), nm, xs.map (Pr.shift (k + 1 + n))⟩ aX hn
          dsimp only at AD
          have ADD := hid AD
          clear G0 G1 S0 h47 h62 AD
          go_enter Tryz.func47, Tryz.ntmps47
          go_wp2_with fail
          refine TT.out.mono ?_
          rintro e w1 ⟨rfl, h1, k1⟩
          have H1 := hid h1
          have K1 := hid (K0.out.trans k1)
          have P1 := hid ((k1.block w.heap.size LT0.out (fun e => by injection e with e; omega)).trans P0.out)
          have LT1 := hid (Nat.lt_of_lt_of_le LT0.out k1.size)
          clear h1 k1
          go_wp2_with fail
          refine (NN.out _ H1.out).mono ?_
          rintro e w2 ⟨⟨rfl, h2⟩, k2⟩
          have p2 := (k2.block w.heap.size LT1.out (fun e => by injection e with e; omega)).trans P1.out
          have e2 : w2.cell? ⟨w.heap.size, 2, none⟩ = some (.string ⟨#[]⟩) := by rw [Lib.cell_of_heap p2]; rfl
          have g2 := Lib.frozen_of_heap p2 2
          have gg2 : w2.grownBy (w2.setCell ⟨w.heap.size, 2, none⟩ (.string (text nm))) (some w.heap.size) := Kept.put _ _ _ _
          have LT2 := hid (Nat.lt_of_lt_of_le LT1.out k2.size)
          have H3 := hid (h2.grown gg2 (by omega) hold)
          have P3 := hid (four_put2 p2 (.string (text nm)))
          have K3 := hid (kept_grown (K1.out.trans k2) gg2 (fun q hq => by injection hq with hq; omega))
          clear h2 k2 p2 gg2
          unfold strV
          go_wp2_with fail
          refine (AA.out _ H3.out).mono ?_
          rintro e w4 ⟨⟨a, rfl, h4, a4⟩, k4⟩
          obtain ⟨ao, an, ac, rfl⟩ := a4.form
          have p4 := (k4.block w.heap.size (by rw [size_put]; exact LT2.out) (fun e => by injection e with e; omega)).trans P3.out
          have e3 : w4.cell? ⟨w.heap.size, 3, none⟩ = some (.slice none 0 0) := by rw [Lib.cell_of_heap p4]; rfl
          have g3 := Lib.frozen_of_heap p4 3
          have gg4 : w4.grownBy (w4.setCell ⟨w.heap.size, 3, none⟩ (.slice ao an ac)) (some w.heap.size) := Kept.put _ _ _ _
          have H5 := hid (h4.grown gg4 (by omega) hold)
          have P5 := hid (four_put3 p4 (.slice ao an ac))
          have K5 := hid (kept_grown (K3.out.trans k4) gg4 (fun q hq => by injection hq with hq; omega))
          have LT5 : Hid (w.heap.size < (w4.setCell ⟨w.heap.size, 3, none⟩ (.slice ao an ac)).heap.size) := hid (by rw [size_put]; have := k4.size; rw [size_put] at this; have := LT2.out; omega)
          have A5 := hid (a4.keep (r := w.heap.size) gg4 (by rw [size_put]; exact LT2.out))
          clear h4 a4 k4 p4 gg4
          go_wp2_with fail
          refine (SS.out _ H5.out).mono ?_
          rintro e w6 ⟨rfl, h6, k6⟩
          have p6 := (k6.block w.heap.size LT5.out (fun e => by injection e with e; omega)).trans P5.out
          have q0 : w6.cell? ⟨w.heap.size, 0, none⟩ = some (.int .i64 0) := by rw [Lib.cell_of_heap p6]; rfl
          have r0 := Lib.frozen_of_heap p6 0
          have g6 : w6.grownBy (w6.setCell ⟨w.heap.size, 0, none⟩ (.int .i64 2)) (some w.heap.size) := Kept.put _ _ _ _
          have H6 := hid (h6.grown g6 (by omega) hold)
          have K6 := hid (kept_grown (K5.out.trans k6) g6 (fun q hq => by injection hq with hq; omega))
          have P6 := hid (four_put0 p6 (.int .i64 2))
          have LT6 : Hid (w.heap.size < (w6.setCell ⟨w.heap.size, 0, none⟩ (.int .i64 2)).heap.size) := hid (by rw [size_put]; exact Nat.lt_of_lt_of_le LT5.out k6.size)
          have A6 := hid (((A5.out.keep k6 (by have := LT2.out; rw [size_put]; omega))).keep (r := w.heap.size) g6 (by have := LT2.out; rw [size_put]; omega))
          clear h6 k6 p6 g6
          go_wp2_with fail
          refine (GG.out _ H6.out).mono ?_
          rintro e w7 ⟨rfl, h7, k7⟩
          have p7 := (k7.block w.heap.size LT6.out (fun e => by injection e with e; omega)).trans P6.out
          have H7 := hid h7
          have K7 := hid (K6.out.trans k7)
          have A7 := hid (A6.out.keep k7 (by have := LT2.out; rw [size_put]; omega))
          have q0' : w7.cell? ⟨w.heap.size, 0, none⟩ = some (.int .i64 2) := by rw [Lib.cell_of_heap p7]; rfl
          have q1 : w7.cell? ⟨w.heap.size, 1, none⟩ = some (.int .i64 k) := by rw [Lib.cell_of_heap p7]; rfl
          have q2 : w7.cell? ⟨w.heap.size, 2, none⟩ = some (.string (text nm)) := by rw [Lib.cell_of_heap p7]; rfl
          have q3 : w7.cell? ⟨w.heap.size, 3, none⟩ = some (.slice ao an ac) := by rw [Lib.cell_of_heap p7]; rfl
          have O7 := hid (HO.out.keep K7.out (by omega))
          clear h7 k7 p7
          go_wp2_with fail
          refine (ADD.out _ (.slice ao an ac) H7.out O7.out (A7.out.base (by rw [size_put]; have := LT2.out; omega))).mono ?_
          rintro e w8 ⟨rfl, t8, h8, o8⟩
          have H8 := hid h8
          have O8 := hid o8
          clear h8 o8
          go_wp2
          go_ret
          exact GotT.ok E.out rfl H8.out (by omega) O8.out (by simp only [Option.toList_some, List.map_cons, List.map_nil, Tok.shift]; rw [HSH.out]; simp)
end
end Go.Proofs.YthodmdfbahkflaaGreatDoor.Tok
namespace Go.Proofs.YthodmdfbahkflaaGreatDoor.Tok
open Go Go.Proofs.YthodmdfbahkflaaGreatDoor Go.Proofs.YthodmdfbahkflaaGreatDoor.Utf Go.Proofs.YthodmdfbahkflaaGreatDoor.Names Go.Proofs.YthodmdfbahkflaaGreatDoor.Ent Go.RowKit
set_option maxRecDepth 100000

theorem declR_none {l : List UInt8} {x : Option Tok} {n : Nat} (h : declR l = .ok x n) : x = none := by
  unfold declR at h
  split at h
  · cases h
  · cases h; rfl
theorem commentR_none {l : List UInt8} {x : Option Tok} {n : Nat} (h : commentR l = .ok x n) : x = none := by
  unfold commentR at h
  split at h
  · cases h
  · split at h
    · cases h; rfl
    · cases h
    · cases h
theorem oneR_rest {f : Bool} {l : List UInt8} (h : ¬ (f = true ∧ decl l = true)) : oneR f l =
    if pre [60, 33, 45, 45] l = true then commentR l
    else if pre [60, 33, 91, 67, 68, 65, 84, 65, 91] l = true then rawR l
    else if pre [60, 33] l = true ∨ pre [60, 63] l = true then .bad 0 5
    else if pre [60, 47] l = true then Res.up 2 some (closeR (l.drop 2))
    else if pre [60] l = true then Res.up 1 (fun t => some { t with attrs := t.attrs.map (Pr.shift 1) }) (tagR (l.drop 1))
    else textR l := by
  unfold oneR
  rw [if_neg h]
theorem Ran.got {W w w' : World} {r k : Nat} {v t : Value} {l : List UInt8} {ts : List Tok} {o : Res (Option Tok)} {e : Ending} (h : Ran W r v l k t o e w') (hk : Kept r w w') (ho : OwnT (r + 1) 45 73 w t ts) (hx : ∀ x n, o = .ok x n → x = none) : GotT W r v l k ts o e w' := by
  cases o with
  | bad p x => exact ⟨h.1, _, h.2⟩
  | ok x n =>
    obtain rfl := hx x n rfl
    exact ⟨h.1, _, h.2, by simpa using ho.keep hk (by omega)⟩

theorem GotT.num {W : World} {r : Nat} {v : Value} {l : List UInt8} {k : Nat} {ts : List Tok} {o : Res (Option Tok)} {e : Ending} {w' : World} (h : GotT W r v l k ts o e w') : ∃ z : Int, e = .returned (.int .i64 z) := by
  cases o with
  | bad p x => exact ⟨_, h.1⟩
  | ok x n => exact ⟨_, h.1⟩
section
variable {W w : World} {r k : Nat} {v t : Value} {l : List UInt8} {ts : List Tok}
set_option maxHeartbeats 4000000

theorem next_any (h : Rd W r v l k t w) (ho : OwnT (r + 1) 45 73 w t ts) (hn : ts.length ≤ 1000000) :
    Calls Tryz.prog 29 #[.pointer (some ⟨r, 0, none⟩)] w fun e w' => GotT W r v l k ts (oneR (decide (k = 0)) (l.drop k)) e w' := by
  have D0 := declares_any h
  have H := hid h
  have HO := hid ho
  have BC := fun X (hX : Rd W r v l k t X) => begins_any hX [60, 33, 45, 45] (by decide) ⟨#[60, 33, 45, 45]⟩ rfl
  have BR := fun X (hX : Rd W r v l k t X) => begins_any hX [60, 33, 91, 67, 68, 65, 84, 65, 91] (by decide) ⟨#[60, 33, 91, 67, 68, 65, 84, 65, 91]⟩ rfl
  have BQ := fun X (hX : Rd W r v l k t X) => begins_any hX [60, 63] (by decide) ⟨#[60, 63]⟩ rfl
  have BX := fun X (hX : Rd W r v l k t X) => begins_any hX [60, 33] (by decide) ⟨#[60, 33]⟩ rfl
  have BS := fun X (hX : Rd W r v l k t X) => begins_any hX [60, 47] (by decide) ⟨#[60, 47]⟩ rfl
  have BO := fun X (hX : Rd W r v l k t X) => begins_any hX [60] (by decide) ⟨#[60]⟩ rfl
  by_cases hd : decide (k = 0) = true ∧ decl (l.drop k) = true
  · have E := hid (show oneR (decide (k = 0)) (l.drop k) = declR (l.drop k) by unfold oneR; rw [if_pos hd])
    have hdd : (decide (k = 0) && decl (l.drop k)) = true := by rw [hd.1, hd.2]; rfl
    rw [hdd] at D0
    have DD := hid D0
    have A := hid (fun X (hX : Rd W r v l k t X) => declaration_any hX hd.2)
    clear h ho D0 hd hdd
    go_enter Tryz.func29, Tryz.ntmps29
    go_wp2_with fail
    refine DD.out.mono ?_
    rintro e w1 ⟨rfl, hb1⟩
    have H1 := hid (H.out.later hb1)
    have O1 := hid (HO.out.later hb1)
    clear hb1
    go_wp2_with fail
    refine (A.out _ H1.out).mono ?_
    rintro e w2 ⟨hr, hk⟩
    have HG : Hid (GotT W r v l k ts (oneR (decide (k = 0)) (l.drop k)) e w2) := hid (by rw [E.out]; exact hr.got hk O1.out (fun x n => declR_none))
    obtain ⟨z, rfl⟩ := GotT.num HG.out
    clear hr hk
    go_wp2
    go_ret
    exact HG.out
  · have hdd : (decide (k = 0) && decl (l.drop k)) = false := by
      rw [← Bool.not_eq_true, Bool.and_eq_true]; exact hd
    rw [hdd] at D0
    have DD := hid D0
    have E0 := oneR_rest hd
    clear h ho D0 hd hdd
    generalize hone : oneR (decide (k = 0)) (l.drop k) = o at *
    cases hp : pre [60, 33, 45, 45] (l.drop k) with
    | true =>
      simp only [hp] at BC
      have GC := hid BC
      rw [if_pos hp] at E0
      have E := hid E0
      have A := hid (fun X (hX : Rd W r v l k t X) => comment_any hX hp)
      clear E0 hp BC BR BQ BX BS BO
      go_enter Tryz.func29, Tryz.ntmps29
      go_wp2_with fail
      refine DD.out.mono ?_
      rintro e w0 ⟨rfl, hb⟩
      have H0 := hid (H.out.later hb)
      have O0 := hid (HO.out.later hb)
      clear hb
      go_wp2_with fail
      refine (GC.out _ H0.out).mono ?_
      rintro e w1 ⟨rfl, hb⟩
      have H1 := hid (H0.out.later hb)
      have O1 := hid (O0.out.later hb)
      clear hb
      go_wp2_with fail
      refine (A.out _ H1.out).mono ?_
      rintro e wz ⟨hr, hk⟩
      have HG : Hid (GotT W r v l k ts o e wz) := hid (by rw [E.out]; exact hr.got hk O1.out (fun x n => commentR_none))
      clear hr hk

      obtain ⟨z, rfl⟩ := GotT.num HG.out
      go_wp2
      go_ret
      exact HG.out
    | false =>
      simp only [hp] at BC
      have GC := hid BC
      rw [if_neg (by rw [hp]; simp)] at E0
      clear hp BC
      cases hp : pre [60, 33, 91, 67, 68, 65, 84, 65, 91] (l.drop k) with
      | true =>
        simp only [hp] at BR
        have GR := hid BR
        rw [if_pos hp] at E0
        have E := hid E0
        have A := hid (fun X (hX : Rd W r v l k t X) (oX : OwnT (r + 1) 45 73 X t ts) => raw_any hX oX hn hp)
        clear E0 hp BR BQ BX BS BO
        go_enter Tryz.func29, Tryz.ntmps29
        go_wp2_with fail
        refine DD.out.mono ?_
        rintro e w0 ⟨rfl, hb⟩
        have H0 := hid (H.out.later hb)
        have O0 := hid (HO.out.later hb)
        clear hb
        go_wp2_with fail
        refine (GC.out _ H0.out).mono ?_
        rintro e w1 ⟨rfl, hb⟩
        have H1 := hid (H0.out.later hb)
        have O1 := hid (O0.out.later hb)
        clear hb
        go_wp2_with fail
        refine (GR.out _ H1.out).mono ?_
        rintro e w2 ⟨rfl, hb⟩
        have H2 := hid (H1.out.later hb)
        have O2 := hid (O1.out.later hb)
        clear hb
        go_wp2_with fail
        refine (A.out _ H2.out O2.out).mono ?_
        rintro e wz hr
        have HG : Hid (GotT W r v l k ts o e wz) := hid (by rw [E.out]; exact hr)
        clear hr

        obtain ⟨z, rfl⟩ := GotT.num HG.out
        go_wp2
        go_ret
        exact HG.out
      | false =>
        simp only [hp] at BR
        have GR := hid BR
        rw [if_neg (by rw [hp]; simp)] at E0
        clear hp BR
        cases hp : pre [60, 63] (l.drop k) with
        | true =>
          simp only [hp] at BQ
          have GQ := hid BQ
          rw [if_pos (.inr hp)] at E0
          have E := hid E0
          clear E0 hp BQ BX BS BO
          go_enter Tryz.func29, Tryz.ntmps29
          go_wp2_with fail
          refine DD.out.mono ?_
          rintro e w0 ⟨rfl, hb⟩
          have H0 := hid (H.out.later hb)
          have O0 := hid (HO.out.later hb)
          clear hb
          go_wp2_with fail
          refine (GC.out _ H0.out).mono ?_
          rintro e w1 ⟨rfl, hb⟩
          have H1 := hid (H0.out.later hb)
          have O1 := hid (O0.out.later hb)
          clear hb
          go_wp2_with fail
          refine (GR.out _ H1.out).mono ?_
          rintro e w2 ⟨rfl, hb⟩
          have H2 := hid (H1.out.later hb)
          have O2 := hid (O1.out.later hb)
          clear hb
          go_wp2_with fail
          refine (GQ.out _ H2.out).mono ?_
          rintro e w3 ⟨rfl, hb⟩
          have H3 := hid (H2.out.later hb)
          have O3 := hid (O2.out.later hb)
          clear hb
          go_wp2
          go_ret
          exact GotT.bad E.out rfl H3.out rfl
        | false =>
          simp only [hp] at BQ
          have GQ := hid BQ
          have hpQ := hp
          clear hp BQ
          cases hp : pre [60, 33] (l.drop k) with
          | true =>
            simp only [hp] at BX
            have GX := hid BX
            rw [if_pos (.inl hp)] at E0
            have E := hid E0
            clear E0 hp BX BS BO
            go_enter Tryz.func29, Tryz.ntmps29
            go_wp2_with fail
            refine DD.out.mono ?_
            rintro e w0 ⟨rfl, hb⟩
            have H0 := hid (H.out.later hb)
            have O0 := hid (HO.out.later hb)
            clear hb
            go_wp2_with fail
            refine (GC.out _ H0.out).mono ?_
            rintro e w1 ⟨rfl, hb⟩
            have H1 := hid (H0.out.later hb)
            have O1 := hid (O0.out.later hb)
            clear hb
            go_wp2_with fail
            refine (GR.out _ H1.out).mono ?_
            rintro e w2 ⟨rfl, hb⟩
            have H2 := hid (H1.out.later hb)
            have O2 := hid (O1.out.later hb)
            clear hb
            go_wp2_with fail
            refine (GQ.out _ H2.out).mono ?_
            rintro e w3 ⟨rfl, hb⟩
            have H3 := hid (H2.out.later hb)
            have O3 := hid (O2.out.later hb)
            clear hb
            go_wp2_with fail
            refine (GX.out _ H3.out).mono ?_
            rintro e w4 ⟨rfl, hb⟩
            have H4 := hid (H3.out.later hb)
            have O4 := hid (O3.out.later hb)
            clear hb
            go_wp2
            go_ret
            exact GotT.bad E.out rfl H4.out rfl
          | false =>
            simp only [hp] at BX
            have GX := hid BX
            rw [if_neg (by rw [hpQ, hp]; simp)] at E0
            clear hpQ
            clear hp BX
            cases hp : pre [60, 47] (l.drop k) with
            | true =>
              simp only [hp] at BS
              have GS := hid BS
              rw [if_pos hp] at E0
              have E := hid E0
              have A := hid (fun X (hX : Rd W r v l k t X) (oX : OwnT (r + 1) 45 73 X t ts) => closing_any hX oX hn hp)
              clear E0 hp BS BO
              go_enter Tryz.func29, Tryz.ntmps29
              go_wp2_with fail
              refine DD.out.mono ?_
              rintro e w0 ⟨rfl, hb⟩
              have H0 := hid (H.out.later hb)
              have O0 := hid (HO.out.later hb)
              clear hb
              go_wp2_with fail
              refine (GC.out _ H0.out).mono ?_
              rintro e w1 ⟨rfl, hb⟩
              have H1 := hid (H0.out.later hb)
              have O1 := hid (O0.out.later hb)
              clear hb
              go_wp2_with fail
              refine (GR.out _ H1.out).mono ?_
              rintro e w2 ⟨rfl, hb⟩
              have H2 := hid (H1.out.later hb)
              have O2 := hid (O1.out.later hb)
              clear hb
              go_wp2_with fail
              refine (GQ.out _ H2.out).mono ?_
              rintro e w3 ⟨rfl, hb⟩
              have H3 := hid (H2.out.later hb)
              have O3 := hid (O2.out.later hb)
              clear hb
              go_wp2_with fail
              refine (GX.out _ H3.out).mono ?_
              rintro e w4 ⟨rfl, hb⟩
              have H4 := hid (H3.out.later hb)
              have O4 := hid (O3.out.later hb)
              clear hb
              go_wp2_with fail
              refine (GS.out _ H4.out).mono ?_
              rintro e w5 ⟨rfl, hb⟩
              have H5 := hid (H4.out.later hb)
              have O5 := hid (O4.out.later hb)
              clear hb
              go_wp2_with fail
              refine (A.out _ H5.out O5.out).mono ?_
              rintro e wz hr
              have HG : Hid (GotT W r v l k ts o e wz) := hid (by rw [E.out]; exact hr)
              clear hr

              obtain ⟨z, rfl⟩ := GotT.num HG.out
              go_wp2
              go_ret
              exact HG.out
            | false =>
              simp only [hp] at BS
              have GS := hid BS
              rw [if_neg (by rw [hp]; simp)] at E0
              clear hp BS
              cases hp : pre [60] (l.drop k) with
              | true =>
                simp only [hp] at BO
                have GO := hid BO
                rw [if_pos hp] at E0
                have E := hid E0
                have A := hid (fun X (hX : Rd W r v l k t X) (oX : OwnT (r + 1) 45 73 X t ts) => opening_any hX oX hn hp)
                clear E0 hp BO 
                go_enter Tryz.func29, Tryz.ntmps29
                go_wp2_with fail
                refine DD.out.mono ?_
                rintro e w0 ⟨rfl, hb⟩
                have H0 := hid (H.out.later hb)
                have O0 := hid (HO.out.later hb)
                clear hb
                go_wp2_with fail
                refine (GC.out _ H0.out).mono ?_
                rintro e w1 ⟨rfl, hb⟩
                have H1 := hid (H0.out.later hb)
                have O1 := hid (O0.out.later hb)
                clear hb
                go_wp2_with fail
                refine (GR.out _ H1.out).mono ?_
                rintro e w2 ⟨rfl, hb⟩
                have H2 := hid (H1.out.later hb)
                have O2 := hid (O1.out.later hb)
                clear hb
                go_wp2_with fail
                refine (GQ.out _ H2.out).mono ?_
                rintro e w3 ⟨rfl, hb⟩
                have H3 := hid (H2.out.later hb)
                have O3 := hid (O2.out.later hb)
                clear hb
                go_wp2_with fail
                refine (GX.out _ H3.out).mono ?_
                rintro e w4 ⟨rfl, hb⟩
                have H4 := hid (H3.out.later hb)
                have O4 := hid (O3.out.later hb)
                clear hb
                go_wp2_with fail
                refine (GS.out _ H4.out).mono ?_
                rintro e w5 ⟨rfl, hb⟩
                have H5 := hid (H4.out.later hb)
                have O5 := hid (O4.out.later hb)
                clear hb
                go_wp2_with fail
                refine (GO.out _ H5.out).mono ?_
                rintro e w6 ⟨rfl, hb⟩
                have H6 := hid (H5.out.later hb)
                have O6 := hid (O5.out.later hb)
                clear hb
                go_wp2_with fail
                refine (A.out _ H6.out O6.out).mono ?_
                rintro e wz hr
                have HG : Hid (GotT W r v l k ts o e wz) := hid (by rw [E.out]; exact hr)
                clear hr

                obtain ⟨z, rfl⟩ := GotT.num HG.out
                go_wp2
                go_ret
                exact HG.out
              | false =>
                simp only [hp] at BO
                have GO := hid BO
                rw [if_neg (by rw [hp]; simp)] at E0
                clear hp BO
                have E := hid E0
                have A := hid (fun X (hX : Rd W r v l k t X) (oX : OwnT (r + 1) 45 73 X t ts) => text_any hX oX hn)
                clear E0 
                go_enter Tryz.func29, Tryz.ntmps29
                go_wp2_with fail
                refine DD.out.mono ?_
                rintro e w0 ⟨rfl, hb⟩
                have H0 := hid (H.out.later hb)
                have O0 := hid (HO.out.later hb)
                clear hb
                go_wp2_with fail
                refine (GC.out _ H0.out).mono ?_
                rintro e w1 ⟨rfl, hb⟩
                have H1 := hid (H0.out.later hb)
                have O1 := hid (O0.out.later hb)
                clear hb
                go_wp2_with fail
                refine (GR.out _ H1.out).mono ?_
                rintro e w2 ⟨rfl, hb⟩
                have H2 := hid (H1.out.later hb)
                have O2 := hid (O1.out.later hb)
                clear hb
                go_wp2_with fail
                refine (GQ.out _ H2.out).mono ?_
                rintro e w3 ⟨rfl, hb⟩
                have H3 := hid (H2.out.later hb)
                have O3 := hid (O2.out.later hb)
                clear hb
                go_wp2_with fail
                refine (GX.out _ H3.out).mono ?_
                rintro e w4 ⟨rfl, hb⟩
                have H4 := hid (H3.out.later hb)
                have O4 := hid (O3.out.later hb)
                clear hb
                go_wp2_with fail
                refine (GS.out _ H4.out).mono ?_
                rintro e w5 ⟨rfl, hb⟩
                have H5 := hid (H4.out.later hb)
                have O5 := hid (O4.out.later hb)
                clear hb
                go_wp2_with fail
                refine (GO.out _ H5.out).mono ?_
                rintro e w6 ⟨rfl, hb⟩
                have H6 := hid (H5.out.later hb)
                have O6 := hid (O5.out.later hb)
                clear hb
                go_wp2_with fail
                refine (A.out _ H6.out O6.out).mono ?_
                rintro e wz hr
                have HG : Hid (GotT W r v l k ts o e wz) := hid (by rw [E.out]; exact hr)
                clear hr

                obtain ⟨z, rfl⟩ := GotT.num HG.out
                go_wp2
                go_ret
                exact HG.out
end
end Go.Proofs.YthodmdfbahkflaaGreatDoor.Tok
namespace Go.Proofs.YthodmdfbahkflaaGreatDoor.Tok
open Go Go.Proofs.YthodmdfbahkflaaGreatDoor Go.Proofs.YthodmdfbahkflaaGreatDoor.Utf Go.Proofs.YthodmdfbahkflaaGreatDoor.Names Go.Proofs.YthodmdfbahkflaaGreatDoor.Ent Go.RowKit
set_option maxRecDepth 100000

theorem attrsF_len : ∀ (f : Nat) (seen : List (List UInt8)) (l : List UInt8) (xs : List Pr) (n : Nat), attrsF f seen l = .ok xs n → xs.length ≤ n
  | 0, _, _, _, _, h => by cases h
  | f + 1, seen, l, xs, n, h => by
    rw [attrsF_eq] at h
    split at h
    · cases h; simp
    · split at h
      · cases h
      · cases hat : attrT seen (l.drop (blanks l)) with
        | bad p e => rw [hat] at h; cases h
        | ok x j =>
          rw [hat] at h
          have hj := attrT_pos hat
          dsimp only at h
          cases hr : attrsF f (x.1 :: seen) ((l.drop (blanks l)).drop j) with
          | bad p e => rw [hr] at h; cases h
          | ok ys q =>
            have ih := attrsF_len f _ _ _ _ hr
            rw [hr] at h
            unfold joinP at h
            cases h
            simp
            omega
theorem oneR_attrs {first : Bool} {l : List UInt8} {x : Tok} {n : Nat} (h0 : l ≠ []) (h : oneR first l = .ok (some x) n) : x.attrs.length ≤ n := by
  by_cases hd : first = true ∧ decl l = true
  · unfold oneR at h
    rw [if_pos hd] at h
    cases declR_none h
  · rw [oneR_rest hd] at h
    split at h
    · cases commentR_none h
    · split at h
      · unfold rawR at h
        split at h
        · cases h
        · injection h with h _
          split at h
          · cases h
          · cases h; simp
      · split at h
        · cases h
        · split at h
          · cases hc : closeR (l.drop 2) with
            | bad p e => rw [hc] at h; cases h
            | ok y m =>
              rw [hc] at h
              have := (closeR_good hc).2.1
              unfold Res.up at h
              cases h
              rw [this]; simp
          · split at h
            · cases hc : tagR (l.drop 1) with
              | bad p e => rw [hc] at h; cases h
              | ok y m =>
                rw [hc] at h
                unfold Res.up at h
                cases h
                rw [tagR_eq] at hc
                simp only [List.length_map]
                cases hnm : nameR (l.drop 1) with
                | bad p e => rw [hnm] at hc; cases hc
                | ok nm q =>
                  rw [hnm] at hc
                  dsimp only at hc
                  cases hat : attrsF (((l.drop 1).drop q).length + 1) [] ((l.drop 1).drop q) with
                  | bad p e => rw [hat] at hc; cases hc
                  | ok xs j =>
                    have hl := attrsF_len _ _ _ _ _ hat
                    rw [hat] at hc
                    dsimp only at hc
                    split at hc
                    · split at hc
                      · cases hc; simp; omega
                      · cases hc
                    · split at hc
                      · cases hc; simp; omega
                      · cases hc
            · rw [textR_eq] at h
              dsimp only at h
              split at h
              · cases h
              · split at h
                · cases h
                · cases h; simp
def outOf (n : Nat) (A : Res (List Tok)) : List Tok × Nat × Nat := match A with | .ok ts _ => (ts, n, 0) | .bad p e => ([], p, e)
theorem join_nil (o : Res (List Tok)) : join [] 0 o = o := by
  cases o with
  | bad p e => simp [join]
  | ok us j =>
    unfold join
    simp only [Res.ok.injEq, List.nil_append]
    refine ⟨?_, by omega⟩
    conv => rhs; rw [← List.map_id us]
    refine List.map_congr_left fun t _ => ?_
    obtain ⟨a, b, c, d⟩ := t
    unfold Tok.shift
    simp only [id, Tok.mk.injEq, true_and]
    refine ⟨by simp, ?_⟩
    conv => rhs; rw [← List.map_id d]
    exact List.map_congr_left fun p _ => by cases p; simp [Pr.shift]
/-- Tokens that are owned, no more than so many, and their attributes. -/
theorem OwnT.toks' {B : Nat} {et ep : TypeId} {w : World} {v : Value} {l : List Tok} (h : OwnT B et ep w v l) (hn : l.length ≤ 1000000) (ha : ∀ x ∈ l, x.attrs.length ≤ 1000000) : Toks w v l := by
  obtain ⟨r, rfl, h2, h3⟩ := h
  rw [List.length_map] at hn
  refine ⟨r, rfl, Row.ofOwns h2 (by omega), fun x hx => (h3 x hx).prs ?_⟩
  have := ha x.1 (List.mem_map.2 ⟨x, hx, rfl⟩)
  omega

section
variable {W : World} {v : Value} {l : List UInt8}
set_option maxHeartbeats 4000000

theorem Tokens_any (hb : Bytes W v l) (hf : FitM W) (hl : l.length ≤ 1000000) :
    Calls Tryz.prog 15 #[v] W fun e w' => (∃ a, e = .returned (.tuple #[a, .int .i64 (tokens l).2.1, .int .i64 (tokens l).2.2]) ∧ Toks w' a (tokens l).1) ∧ Below W.heap.size W w' := by
  have hlen := fun X => hb.len (P := Tryz.prog) 24 3 5 underB X
  have hcmp : ¬ (16777216 : Int) < (l.length : Int) := by omega
  have hck := Check_any v l W hb
  have hble := hb.le
  have hcl := check_le l
  by_cases hc : check l = l.length
  · rw [checkE_ok hc] at hck
    have CC := hid hck
    obtain ⟨A, hA⟩ : ∃ A, toks true l = A := ⟨_, rfl⟩
    have hT : tokens l = outOf l.length A := by
      unfold tokens outOf
      rw [if_neg (by omega), if_neg (by omega), hA]
      cases A <;> rfl
    have HT := hid hT
    have HA := hid hA
    have HB := hid hb
    clear hck hc hT hA hb
    go_enter Tryz.func15, Tryz.ntmps15
    go_wp2_with fail
    refine CC.out.mono ?_
    rintro e w1 ⟨rfl, hb1⟩
    obtain ⟨bo, bn, bc, rfl⟩ : ∃ bo bn bc, v = .slice bo bn bc := by
      obtain ⟨⟨a, c, h, _⟩, _⟩ := HB.out
      exact ⟨_, _, _, h⟩
    have h0 : Rd W w1.heap.size (.slice bo bn bc) l 0 (.slice none 0 0) (w1.alloc (.cells #[.slice bo bn bc, .int .i64 0, .slice none 0 0] 82)) :=
      ⟨heap_alloc_new w1 _, hb1.size, ba hb1 _, HB.out, Nat.zero_le _, hl, hf⟩
    have H0 := hid h0
    have HB1 := hid hb1
    clear h0 hb1
    go_wp2_with fail
    go_loopg [24] l.length (fun g _ wr => ∃ (k : Nat) (t : Value) (ts : List Tok), l.length ≤ k + g ∧ Hid (A = join ts k (toks (decide (k = 0)) (l.drop k))) ∧ Rd W w1.heap.size (.slice bo bn bc) l k t wr ∧ OwnT (w1.heap.size + 1) 45 73 wr t ts ∧ ts.length ≤ k ∧ ∀ x ∈ ts, x.attrs.length ≤ 1000000)
    case atStart => exact ⟨0, _, [], by omega, hid (by rw [← HA.out]; exact (join_nil _).symm), H0.out, OwnT.nil _ _ _ _, by simp, by simp⟩
    case round =>
      obtain ⟨k, t, ts, hkg, HE, hrd, hown, htl, hat⟩ := hrel
      have HR := hid hrd
      have HO := hid hown
      have HAT := hid hat
      have hkl := hrd.len
      have DN := done_any hrd
      clear hat
      by_cases hk : k = l.length
      · rw [decide_eq_true hk] at DN
        have DD := hid DN
        have E : Hid (tokens l = (ts, l.length, 0)) := by
          refine hid ?_
          rw [HT.out, HE.out, hk, List.drop_length, toks_nil]
          simp [join, outOf]
        have HK := hid hk
        clear DN hk hrd hown
        go_wp2_with fail
        refine DD.out.mono ?_
        rintro e w2 ⟨rfl, hq⟩
        have hb2 := below_n hq
        have h2 := HR.out.later hb2
        have c1 := h2.c1
        have c2 := h2.c2
        have H2 := hid h2
        have O2 := hid (HO.out.later hb2)
        clear hq hb2 h2
        go_wp2_with fail
        go_quiet (fail)
        go_wp2
        go_ret3
        refine ⟨⟨t, ?_, ?_⟩, H2.out.old.trans (below_drewN (b0 w2) _ |>.mono H2.out.old.size)⟩
        · rw [E.out, ← HK.out]; rfl
        · rw [E.out]; exact (O2.out.later (below_drewN (b0 w2) _)).toks' (by omega) HAT.out
      · have hklt : k < l.length := by omega
        rw [decide_eq_false hk] at DN
        have DD := hid DN
        have hne : l.drop k ≠ [] := by intro c; have := congrArg List.length c; simp at this; omega
        have NX := fun X (hX : Rd W w1.heap.size (.slice bo bn bc) l k t X) (oX : OwnT (w1.heap.size + 1) 45 73 X t ts) => next_any hX oX (by omega)
        cases hone : oneR (decide (k = 0)) (l.drop k) with
        | bad p x =>
          have hx2 : ((x : Int) == 0) = false := by rw [beq_eq_false_iff_ne]; have := (oneR_bad hone).2; omega
          simp only [hone] at NX
          have NN := hid NX
          have E : Hid (tokens l = ([], k + p, x)) := by
            refine hid ?_
            rw [HT.out, HE.out, toks_bad hne hone]
            simp [join, outOf]
          clear DN hk hrd hown NX hne hone
          go_wp2_with fail
          refine DD.out.mono ?_
          rintro e w2 ⟨rfl, hq⟩
          have hb2 := below_n hq
          have H2 := hid (HR.out.later hb2)
          have O2 := hid (HO.out.later hb2)
          clear hq hb2
          go_wp2_with fail
          refine (NN.out _ H2.out O2.out).mono ?_
          rintro e w3 ⟨rfl, t3, h3⟩
          have c1 := h3.c1
          have H3 := hid h3
          clear h3
          go_wp2_with fail
          go_quiet (fail)
          go_wp2
          go_ret3
          refine ⟨⟨.slice none 0 0, ?_, ?_⟩, H3.out.old.trans (below_drewN (b0 w3) _ |>.mono H3.out.old.size)⟩
          · rw [E.out]; rfl
          · rw [E.out]; exact Toks.nil _
        | ok x n =>
          simp only [hone] at NX
          have NN := hid NX
          have h1 := (oneR_lt hne hone []).2
          have E : Hid (A = join (ts ++ x.toList.map (Tok.shift k)) (k + n) (toks (decide (k + n = 0)) (l.drop (k + n)))) := by
            refine hid ?_
            rw [HE.out, toks_step hne hone, join_join, List.drop_drop, decide_eq_false (by omega : ¬ k + n = 0)]
          have hat2 : ∀ y ∈ ts ++ x.toList.map (Tok.shift k), y.attrs.length ≤ 1000000 := by
            intro y hy
            rcases List.mem_append.1 hy with hy | hy
            · exact HAT.out y hy
            · obtain ⟨z, hz, rfl⟩ := List.mem_map.1 hy
              have hz' : x = some z := by simpa using hz
              subst hz'
              have := oneR_attrs hne hone
              rw [List.length_drop] at h1
              simp only [Tok.shift, List.length_map]
              omega
          have HAT2 := hid hat2
          have hxl : (ts ++ x.toList.map (Tok.shift k)).length ≤ k + n := by
            rw [List.length_append, List.length_map]
            have : x.toList.length ≤ 1 := by cases x <;> simp
            omega
          clear DN hk hrd hown NX hne hone hat2
          go_wp2_with fail
          refine DD.out.mono ?_
          rintro e w2 ⟨rfl, hq⟩
          have hb2 := below_n hq
          have H2 := hid (HR.out.later hb2)
          have O2 := hid (HO.out.later hb2)
          clear hq hb2
          go_wp2_with fail
          refine (NN.out _ H2.out O2.out).mono ?_
          rintro e w3 ⟨rfl, t3, h3, o3⟩
          have H3 := hid h3
          have O3 := hid o3
          clear h3 o3
          go_wp2
          go_roundg (gk - n)
          case measure => omega
          case rel => exact ⟨k + n, t3, _, by omega, E, H3.out, O3.out, hxl, HAT2.out⟩
  · rw [checkE_no hc] at hck
    have CC := hid hck
    have hT : tokens l = ([], check l, 4) := by
      unfold tokens
      rw [if_neg (by omega), if_pos (by omega)]
    have HT := hid hT
    clear hck hc hT hb
    go_enter Tryz.func15, Tryz.ntmps15
    go_wp2_with fail
    refine CC.out.mono ?_
    rintro e w1 ⟨rfl, hb1⟩
    go_wp2
    go_ret3
    exact ⟨⟨_, by rw [HT.out]; rfl, by rw [HT.out]; exact Toks.nil _⟩, hb1⟩
end
end Go.Proofs.YthodmdfbahkflaaGreatDoor.Tok
