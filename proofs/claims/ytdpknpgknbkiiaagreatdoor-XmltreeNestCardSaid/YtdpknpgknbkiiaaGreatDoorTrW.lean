/- Layer 5: contracts of slices.Equal, alike and Same, at trees that are the same. | Layer 5: contract of Same, at trees that are the same. | Plain mathematics of layer 5: which prefixes are used for the same namespaces plays no part. | Plain mathematics of layer 5: three documents with other prefixes. | Layer 5: the walk of the statement XmltreeSpaces. -/
import Derived.Test.YtdpknpgknbkiiaaGreatDoorTrB
import Derived.Test.YtdpknpgknbkiiaaGreatDoorTrA
import Derived.BigQuiet
import Derived.Deep.QuietTactic
import Derived.Deep.AppendLies
import Derived.Test.YtdpknpgknbkiiaaGreatDoorTrG
set_option linter.unusedVariables false
set_option linter.unusedSimpArgs false
namespace Go.Proofs.YtdpknpgknbkiiaaGreatDoor.Tree
open Go Go.Proofs.YtdpknpgknbkiiaaGreatDoor Go.Proofs.YtdpknpgknbkiiaaGreatDoor.Utf Go.Proofs.YtdpknpgknbkiiaaGreatDoor.Names Go.Proofs.YtdpknpgknbkiiaaGreatDoor.Ent Go.Proofs.YtdpknpgknbkiiaaGreatDoor.Tok Go.RowKit
set_option maxRecDepth 100000
theorem sizAt (W : World) : (sizeOf 74).run Tryz.prog W = .ok 3 W := Tryz.sizeOf74 W
/-- One attribute. -/
theorem Atts.at {P : Program} {w : World} {A : Nat → Prop} {v : Value} {l : List Att} (h : Atts w A v l) (i : Nat) (hi : i < l.length) (t e : TypeId) (ht : P.underlying t = some (.slice e)) (hs : ∀ W, (sizeOf e).run P W = .ok 3 W) :
    ∃ b o, (∀ k W, (Instr.indexAt t v (.int k i)).run P W = .ok (.pointer (some ⟨b, o, none⟩)) W) ∧
      w.cell? ⟨b, o, none⟩ = some (.string (text l[i].nm.1)) ∧ w.cell? ⟨b, o + 1, none⟩ = some (.string (text l[i].nm.2)) ∧ w.cell? ⟨b, o + 2, none⟩ = some (.string (text l[i].value)) := by
  obtain ⟨b, o, a1, a2⟩ := Row.at h.1 (by omega) i hi t e ht hs
  have g : ∀ j, j < 3 → (l.flatMap attCells)[i * 3 + j]? = (attCells l[i])[j]? := fun j hj => by
    rw [flat_get 3 attCells (fun _ => rfl) l i j hj, List.getElem?_eq_getElem hi]; rfl
  exact ⟨b, o, a1, by simpa using a2 0 _ (by omega) (by rw [g 0 (by omega)]; rfl), a2 1 _ (by omega) (by rw [g 1 (by omega)]; rfl), a2 2 _ (by omega) (by rw [g 2 (by omega)]; rfl)⟩
theorem Atts.len {P : Program} {w : World} {A : Nat → Prop} {v : Value} {l : List Att} (h : Atts w A v l) (t ty e : TypeId) (ht : P.underlying t = some (.slice e)) (W : World) : (Builtin.len_ #[t] ty #[v]).run P W = .ok (.int .i64 l.length) W := Row.len h.1 t ty e ht W
theorem Atts.few {w : World} {A : Nat → Prop} {v : Value} {l : List Att} (h : Atts w A v l) : l.length ≤ 281474976710656 := by
  obtain ⟨⟨⟨a, c, _, _, _, h0, _⟩, _⟩, _⟩ := h
  omega
set_option maxHeartbeats 4000000 in
theorem EqAtts_any {w : World} {A B : Nat → Prop} {v u : Value} {l : List Att} (h : Atts w A v l) (k : Atts w B u l) :
    Calls Tryz.prog 19 #[v, u] w fun e w' => e = .returned (.bool true) ∧ ∃ m, w' = w.drewN m := by
  have len1 := fun X => h.len (P := Tryz.prog) 26 3 74 undAs X
  have len2 := fun X => k.len (P := Tryz.prog) 26 3 74 undAs X
  have hb := h.few
  have H := hid h
  have K := hid k
  clear h k
  go_enter Tryz.func19, Tryz.ntmps19
  go_wp2_with fail
  go_loopg [13, 5] l.length (fun gk iv jv X => ∃ n q : Nat, iv = .int .i64 n ∧ n + gk = l.length ∧ X = w.drewN q)
  case atStart => exact ⟨0, 0, rfl, by omega, rfl⟩
  case round =>
    rename World => X
    obtain ⟨n, q, rfl, hng, rfl⟩ := hrel
    by_cases hi : n < l.length
    · obtain ⟨b1, o1, i1, c0, c1, c2⟩ := H.out.at (P := Tryz.prog) n hi 26 74 undAs sizAt
      obtain ⟨b2, o2, i2, d0, d1, d2⟩ := K.out.at (P := Tryz.prog) n hi 26 74 undAs sizAt
      generalize l[n] = a at *
      go_wp2_with fail
      go_quiet (fail)
      go_wp2
      go_roundg (gk - 1)
      case measure => omega
      case rel => exact ⟨n + 1, _, by go_num, by omega, rfl⟩
    · go_wp2
      go_ret
      exact ⟨rfl, _, rfl⟩
/-- A node at a place. -/
structure NodeAt (w : World) (b o : Nat) (n : Node) (av kv : Value) : Prop where
  c0 : w.cell? ⟨b, o, none⟩ = some (.int .i64 n.place)
  c1 : w.cell? ⟨b, o + 1, none⟩ = some (.string (text n.nm.1))
  c2 : w.cell? ⟨b, o + 2, none⟩ = some (.string (text n.nm.2))
  c3 : w.cell? ⟨b, o + 3, none⟩ = some av
  c4 : w.cell? ⟨b, o + 4, none⟩ = some kv
  c5 : w.cell? ⟨b, o + 5, none⟩ = some (.string (text n.text))
  is : IsN w (fun _ => False) n av kv
theorem NodeAt.below {w w' : World} {b o : Nat} {n : Node} {av kv : Value} (h : NodeAt w b o n av kv) (hb : Below w.heap.size w w') : NodeAt w' b o n av kv := by
  have hl := World.block_lt_of_cell? _ _ h.c0
  exact ⟨(hb.cell (p := ⟨b, o, none⟩) hl).trans h.c0, (hb.cell (p := ⟨b, o + 1, none⟩) hl).trans h.c1, (hb.cell (p := ⟨b, o + 2, none⟩) hl).trans h.c2, (hb.cell (p := ⟨b, o + 3, none⟩) hl).trans h.c3, (hb.cell (p := ⟨b, o + 4, none⟩) hl).trans h.c4, (hb.cell (p := ⟨b, o + 5, none⟩) hl).trans h.c5, h.is.to (fun _ _ x => x) (Keep.of_below hb)⟩
theorem SameN.parts {a b : Node} (h : SameN a b) : a.nm = b.nm ∧ a.attrs = b.attrs ∧ a.text = b.text ∧ SameL a.kids b.kids := by
  cases h with
  | mk r hr => exact ⟨rfl, rfl, rfl, r, rfl, rfl, hr⟩
set_option maxHeartbeats 8000000 in
theorem alike_any {w : World} {b1 o1 b2 o2 : Nat} {n m : Node} {av kv av2 kv2 : Value} (h : NodeAt w b1 o1 n av kv) (k : NodeAt w b2 o2 m av2 kv2) (hs : SameN n m) :
    Calls Tryz.prog 11 #[.pointer (some ⟨b1, o1, none⟩), .pointer (some ⟨b2, o2, none⟩)] w fun e w' => e = .returned (.bool true) ∧ Below w.heap.size w w' := by
  obtain ⟨s1, s2, s3, s4⟩ := hs.parts
  have hk := h.is.parts
  have kk := k.is.parts
  have hlen := s4.len
  have klen1 := fun X => hk.2.len (P := Tryz.prog) 27 3 29 undN X
  have klen2 := fun X => kk.2.len (P := Tryz.prog) 27 3 29 undN X
  rw [hlen] at klen1
  have EQ := hid (fun (q : Nat) => EqAtts_any (hk.1.to (A' := fun _ => False) (fun _ _ x => x) (Keep.of_below (below_drewN (b0 w) q))) ((s2 ▸ kk.1 : Atts w (fun _ => False) av2 n.attrs).to (A' := fun _ => False) (fun _ _ x => x) (Keep.of_below (below_drewN (b0 w) q))))
  have c1 := h.c1
  have c2 := h.c2
  have c3 := h.c3
  have c4 := h.c4
  have c5 := h.c5
  have d1 := k.c1
  have d2 := k.c2
  have d3 := k.c3
  have d4 := k.c4
  have d5 := k.c5
  rw [← s1] at d1 d2
  rw [← s3] at d5
  clear h k hs s1 s2 s3 s4 hk kk hlen
  go_enter Tryz.func11, Tryz.ntmps11
  go_wp2_with fail
  go_quiet ((go_at_call 19; exact Calls.quiet_of (EQ.out _)))
  go_wp2
  go_ret
  exact ⟨rfl, below_drewN (b0 w) _⟩
end Go.Proofs.YtdpknpgknbkiiaaGreatDoor.Tree
namespace Go.Proofs.YtdpknpgknbkiiaaGreatDoor.Tree
open Go Go.Proofs.YtdpknpgknbkiiaaGreatDoor Go.Proofs.YtdpknpgknbkiiaaGreatDoor.Utf Go.Proofs.YtdpknpgknbkiiaaGreatDoor.Names Go.Proofs.YtdpknpgknbkiiaaGreatDoor.Ent Go.Proofs.YtdpknpgknbkiiaaGreatDoor.Tok Go.RowKit
set_option maxRecDepth 100000
mutual
/-- How many nodes there are. -/
def Node.size : Node → Nat
  | .mk _ _ _ ks _ => 1 + sizeL ks
def sizeL : List Node → Nat
  | [] => 0
  | n :: r => n.size + sizeL r
end
theorem sizeL_append : ∀ a b : List Node, sizeL (a ++ b) = sizeL a + sizeL b
  | [], b => by simp [sizeL]
  | n :: a, b => by simp [sizeL, sizeL_append a b]; omega
theorem size_kids (n : Node) : n.size = 1 + sizeL n.kids := by cases n; rfl
theorem sizeL_take (l : List Node) (i : Nat) (hi : i < l.length) : sizeL (l.take (i + 1)) = sizeL (l.take i) + l[i].size := by
  rw [List.take_succ_eq_append_getElem hi, sizeL_append]
  simp [sizeL]
theorem Node.size_pos (n : Node) : 1 ≤ n.size := by rw [size_kids]; omega
theorem sizeL_len : ∀ l : List Node, l.length ≤ sizeL l
  | [] => by simp
  | n :: r => by have := sizeL_len r; have := n.size_pos; simp [sizeL]; omega
theorem Kids.slice {w : World} {A : Nat → Prop} {v : Value} {l : List Node} (h : Kids w A v l) : ∃ o n c, v = .slice o n c := by
  obtain ⟨r, _, ⟨⟨a, c, h1, _⟩, _⟩, _⟩ := h
  exact ⟨_, _, _, h1⟩
/-- Two nodes that are to be held against each other. -/
structure Fr where
  b1 : Nat
  o1 : Nat
  b2 : Nat
  o2 : Nat
  n : Node
  m : Node
  av : Value
  kv : Value
  av2 : Value
  kv2 : Value
def pCells (f : Fr) : List Value := [.pointer (some ⟨f.b1, f.o1, none⟩), .pointer (some ⟨f.b2, f.o2, none⟩)]
structure Fr.Ok (W0 : World) (f : Fr) : Prop where
  l : NodeAt W0 f.b1 f.o1 f.n f.av f.kv
  r : NodeAt W0 f.b2 f.o2 f.m f.av2 f.kv2
  same : SameN f.n f.m
def total (st : List Fr) : Nat := sizeL (st.map Fr.n)
theorem total_snoc (st : List Fr) (f : Fr) : total (st ++ [f]) = total st + f.n.size := by simp [total, sizeL_append, sizeL]
theorem undPs : Tryz.prog.underlying 44 = some (.slice 43) := Tryz.underlying44
theorem sizPs (W : World) : (sizeOf 43).run Tryz.prog W = .ok 2 W := Tryz.sizeOf43 W
theorem infoPs : (Tryz.prog.info? 43).map (fun i => (i.zero, i.size, i.bytes)) = some (some (.agg #[.pointer none, .pointer none]), 2, 16) := by kernel_rfl
theorem SameL.at {a b : List Node} (h : SameL a b) (i : Nat) (h1 : i < a.length) (h2 : i < b.length) : SameN a[i] b[i] := by
  obtain ⟨r, rfl, rfl, hr⟩ := h
  have hi : i < r.length := by simpa using h1
  simp only [List.getElem_map]
  exact hr _ (List.getElem_mem hi)
set_option maxHeartbeats 4000000 in
theorem Same_any {W : World} {n m : Node} {ao : Option Addr} {an ac : Nat} {ko : Option Addr} {kn kc : Nat} {bo : Option Addr} {bn bc : Nat} {lo : Option Addr} {ln lc : Nat}
    (h : IsN W (fun _ => False) n (.slice ao an ac) (.slice ko kn kc)) (k : IsN W (fun _ => False) m (.slice bo bn bc) (.slice lo ln lc)) (hs : SameN n m) (hz : n.size ≤ 1000000) :
    Calls Tryz.prog 7 #[nodeV n (.slice ao an ac) (.slice ko kn kc), nodeV m (.slice bo bn bc) (.slice lo ln lc)] W fun e w' => e = .returned (.bool true) ∧ Below W.heap.size W w' := by
  obtain ⟨i0, hi0, hz0, hz1, hz2⟩ := info_parts infoPs
  obtain ⟨X1, hX1⟩ : ∃ X1, W.alloc (.cells #[.int .i64 n.place, .string (text n.nm.1), .string (text n.nm.2), .slice ao an ac, .slice ko kn kc, .string (text n.text)] 29) = X1 := ⟨_, rfl⟩
  obtain ⟨W0, hW0⟩ : ∃ W0, X1.alloc (.cells #[.int .i64 m.place, .string (text m.nm.1), .string (text m.nm.2), .slice bo bn bc, .slice lo ln lc, .string (text m.text)] 29) = W0 := ⟨_, rfl⟩
  have s1 : X1.heap.size = W.heap.size + 1 := by rw [← hX1]; simp
  have s0 : W0.heap.size = W.heap.size + 2 := by rw [← hW0]; simp [s1]
  have B1 : Below W.heap.size W X1 := by rw [← hX1]; exact ba (b0 W) _
  have B0 : Below X1.heap.size X1 W0 := by rw [← hW0]; exact ba (b0 X1) _
  have B2 := bt B1 B0
  have pn : W0.heap[W.heap.size]? = some (.cells #[.int .i64 n.place, .string (text n.nm.1), .string (text n.nm.2), .slice ao an ac, .slice ko kn kc, .string (text n.text)] 29) := (B0.block _ (by omega)).trans (by rw [← hX1]; exact heap_alloc_new W _)
  have pm : W0.heap[W.heap.size + 1]? = some (.cells #[.int .i64 m.place, .string (text m.nm.1), .string (text m.nm.2), .slice bo bn bc, .slice lo ln lc, .string (text m.text)] 29) := by rw [← s1, ← hW0]; exact heap_alloc_new X1 _
  have hn : NodeAt W0 W.heap.size 0 n (.slice ao an ac) (.slice ko kn kc) := ⟨by rw [Lib.cell_of_heap pn]; rfl, by rw [Lib.cell_of_heap pn]; rfl, by rw [Lib.cell_of_heap pn]; rfl, by rw [Lib.cell_of_heap pn]; rfl, by rw [Lib.cell_of_heap pn]; rfl, by rw [Lib.cell_of_heap pn]; rfl, h.to (fun _ _ x => x) (Keep.of_below B2)⟩
  have hm : NodeAt W0 (W.heap.size + 1) 0 m (.slice bo bn bc) (.slice lo ln lc) := ⟨by rw [Lib.cell_of_heap pm]; rfl, by rw [Lib.cell_of_heap pm]; rfl, by rw [Lib.cell_of_heap pm]; rfl, by rw [Lib.cell_of_heap pm]; rfl, by rw [Lib.cell_of_heap pm]; rfl, by rw [Lib.cell_of_heap pm]; rfl, k.to (fun _ _ x => x) (Keep.of_below B2)⟩
  have hF : Fr.Ok W0 ⟨W.heap.size, 0, W.heap.size + 1, 0, n, m, .slice ao an ac, .slice ko kn kc, .slice bo bn bc, .slice lo ln lc⟩ := ⟨hn, hm, hs⟩
  have own0 := World.ownsRow_lit (size := 2) (base := W0.heap.size) (e := 43) W0 #[.pointer (some ⟨W.heap.size, 0, none⟩), .pointer (some ⟨W.heap.size + 1, 0, none⟩)] 1 (Nat.le_refl _) (by unfold maxLen; omega) rfl
  rw [s0] at own0
  have HF := hid hF
  have HB2 := hid B2
  have HO := hid own0
  have B3 := hid (ba (b0 W0) (.cells #[.pointer (some ⟨W.heap.size, 0, none⟩), .pointer (some ⟨W.heap.size + 1, 0, none⟩)] 43))
  have HI := hid hi0
  have hsz : n.size = total [⟨W.heap.size, 0, W.heap.size + 1, 0, n, m, .slice ao an ac, .slice ko kn kc, .slice bo bn bc, .slice lo ln lc⟩] := by simp [total, sizeL]
  clear h k hs B1 B0 B2 pn pm hn hm hF own0 hi0
  unfold nodeV
  go_enter Tryz.func7, Tryz.ntmps7
  go_wp2_with fail
  go_loopg [5] n.size (fun gk lv X => ∃ st : List Fr, total st = gk ∧ gk ≤ 1000000 ∧ Hid (X.ownsRow (W.heap.size + 2) 43 2 lv st.length (st.flatMap pCells)) ∧ Hid (∀ f ∈ st, Fr.Ok W0 f) ∧ Hid (Below W0.heap.size W0 X))
  case atStart =>
    exact ⟨_, hsz.symm, by omega, HO, hid (fun f hf => by rw [List.mem_singleton] at hf; rw [hf]; exact HF.out), B3⟩
  case round =>
    rename World => X
    obtain ⟨st, htot, hgk, HO, HF, HB⟩ := hrel
    have olen := own_len (P := Tryz.prog) HO.out 44 3 undPs
    rcases snoc_cases st with hst | ⟨st0, f, hst⟩
    · subst hst
      simp only [List.length_nil] at olen
      go_wp2
      go_ret
      exact ⟨rfl, HB2.out.trans (HB.out.mono (by omega))⟩
    · have hel : st.length = st0.length + 1 := by rw [hst]; simp
      have hstl : st.length ≤ 1000000 := by
        have := sizeL_len (st.map Fr.n)
        rw [List.length_map] at this
        unfold total at htot
        omega
      obtain ⟨ob, oc, rfl, hob, hobl⟩ := HO.out.form (by omega)
      have hocap : st.length ≤ oc := by
        rcases HO.out.2 with ⟨h1, _⟩ | ⟨g, cap, cur, h1, _, _, h2, _⟩
        · cases h1
        · injection h1 with _ _ h1; omega
      have hsub : wrap64 ((st.length : Int) - 1) = (st0.length : Int) := by rw [IntWalk.wrap64_in _ ⟨by omega, by omega⟩]; omega
      have hpos : (0 : Int) < (st.length : Int) := by omega
      have oat := fun Y => own_at (P := Tryz.prog) undPs sizPs ob st.length oc st0.length (by omega) Y
      have hcut := fun Y => cut_run (P := Tryz.prog) undPs sizPs ob st.length oc st0.length (by omega) (by omega) Y
      have k0 : X.cell? ⟨ob, st0.length * 2, none⟩ = some (.pointer (some ⟨f.b1, f.o1, none⟩)) := by
        rw [HO.out.cellAt _ (by omega), hst]
        have := flat_last 2 pCells (fun _ => rfl) st0 f 0 (by omega)
        rw [Nat.add_zero] at this
        rw [this]; rfl
      have k1 : X.cell? ⟨ob, st0.length * 2 + 1, none⟩ = some (.pointer (some ⟨f.b2, f.o2, none⟩)) := by
        rw [HO.out.cellAt _ (by omega), hst, flat_last 2 pCells (fun _ => rfl) st0 f 1 (by omega)]; rfl
      have hf := HF.out f (by rw [hst]; simp)
      have B4 := ba (b0 X) (.cells #[.pointer (some ⟨f.b1, f.o1, none⟩), .pointer (some ⟨f.b2, f.o2, none⟩)] 43)
      have HB4 := HB.out.trans (B4.mono HB.out.size)
      have AK := hid (alike_any (hf.l.below HB4) (hf.r.below HB4) hf.same)
      have P4 := hid (heap_alloc_new X (.cells #[.pointer (some ⟨f.b1, f.o1, none⟩), .pointer (some ⟨f.b2, f.o2, none⟩)] 43))
      have own4 : X.ownsRow (W.heap.size + 2) 43 2 (.slice (some ⟨ob, 0, none⟩) st0.length oc) st0.length (st0.flatMap pCells) := by
        have := own_cut HO.out (k := st0.length) (by omega)
        have hfl := flat_len 2 pCells (fun _ => rfl) st0
        rw [hst, List.flatMap_append, ← hfl, List.take_left] at this
        exact this
      have HO4 := hid (owns_later own4 B4)
      have HBB := hid HB4
      have HFF := hid hf
      have hts : total st = total st0 + f.n.size := by rw [hst, total_snoc]
      have HST0 := hid (show ∀ g ∈ st0, Fr.Ok W0 g from fun g hg => HF.out g (by rw [hst]; simp [hg]))
      clear hst hf B4 HB4 own4
      go_wp2_with fail
      refine AK.out.mono ?_
      rintro e w1 ⟨rfl, hb1⟩
      have HB5 := hid (HBB.out.trans (hb1.mono HBB.out.size))
      have HO5 := hid (owns_later HO4.out hb1)
      have p5 := (hb1.block _ (lt_of_some P4.out)).trans P4.out
      have P5 := hid p5
      have q0 : w1.cell? ⟨X.heap.size, 0, none⟩ = some (.pointer (some ⟨f.b1, f.o1, none⟩)) := by rw [Lib.cell_of_heap p5]; rfl
      have nl := HFF.out.l.below HB5.out
      have nr := HFF.out.r.below HB5.out
      have q4 := nl.c4
      have klen := fun Y => nl.is.parts.2.len (P := Tryz.prog) 27 3 29 undN Y
      have hkl : f.n.kids.length ≤ 1000000 := by
        have := sizeL_len f.n.kids
        rw [size_kids] at hts
        omega
      have hsk := size_kids f.n
      have hXs : X.heap.size < w1.heap.size := lt_of_some p5
      have HXB : Hid (Below (X.heap.size + 1) w1 w1) := hid (Below.refl _ _)
      clear hb1 p5 nl nr k0 k1 oat hcut hsub
      go_wp2_with fail
      go_loopg [36, 5] f.n.kids.length (fun gj iv lv Y => ∃ (j : Nat) (ks : List Fr), iv = .int .i64 j ∧ j + gj = f.n.kids.length ∧ ks.length = j ∧ Hid (ks.map Fr.n = f.n.kids.take j) ∧ Hid (∀ g ∈ ks, Fr.Ok W0 g) ∧ Hid (Y.ownsRow (W.heap.size + 2) 43 2 lv (st0.length + j) ((st0 ++ ks).flatMap pCells)) ∧ Hid (Below W0.heap.size W0 Y) ∧ Hid (Y.heap[X.heap.size]? = some (.cells #[.pointer (some ⟨f.b1, f.o1, none⟩), .pointer (some ⟨f.b2, f.o2, none⟩)] 43)) ∧ Hid (∀ c, lv.ownBlock = some c → c ≠ X.heap.size))
      case atStart => exact ⟨0, [], rfl, by omega, rfl, hid rfl, hid (by simp), hid (by simpa using HO5.out), HB5, P5, hid (fun c hc => by rw [← (show ob = c by simpa [Value.ownBlock] using hc)]; omega)⟩
      case round =>
        rename World => Y
        obtain ⟨j, ks, rfl, hjg, hkj, HK, HKS, HOY, HBY, HPY, HNE⟩ := hrel
        have hlv := HOY.out.form
        by_cases hj : j < f.n.kids.length
        · have hsl := HFF.out.same.parts.2.2.2
          have hj2 : j < f.m.kids.length := by rw [← hsl.len]; exact hj
          obtain ⟨c1, d1, av1, kv1, ix1, e0, e1, e2, e3, e4, e5, is1, _⟩ := HFF.out.l.is.parts.2.at (P := Tryz.prog) j hj 27 29 undN sizN
          obtain ⟨c2, d2, av2, kv2, ix2, g0, g1, g2, g3, g4, g5, is2, _⟩ := HFF.out.r.is.parts.2.at (P := Tryz.prog) j hj2 27 29 undN sizN
          have HFR := hid (show Fr.Ok W0 ⟨c1, d1, c2, d2, f.n.kids[j], f.m.kids[j], av1, kv1, av2, kv2⟩ from ⟨⟨e0, e1, e2, e3, e4, e5, is1⟩, ⟨g0, g1, g2, g3, g4, g5, is2⟩, hsl.at j hj hj2⟩)
          have HTK := hid (List.take_succ_eq_append_getElem hj)
          have jx1 := ix1 .i64
          have jx2 := ix2 .i64
          have nl := (HFF.out.l.below HBY.out).c4
          have nr := (HFF.out.r.below HBY.out).c4
          have k0 : Y.cell? ⟨X.heap.size, 0, none⟩ = some (.pointer (some ⟨f.b1, f.o1, none⟩)) := by rw [Lib.cell_of_heap HPY.out]; rfl
          have k1 : Y.cell? ⟨X.heap.size, 1, none⟩ = some (.pointer (some ⟨f.b2, f.o2, none⟩)) := by rw [Lib.cell_of_heap HPY.out]; rfl
          have hXY : X.heap.size < Y.heap.size := lt_of_some HPY.out
          have hW0Y : W0.heap.size ≤ Y.heap.size := HBY.out.size
          have B6 := ba (b0 Y) (.cells #[.pointer (some ⟨c1, d1, none⟩), .pointer (some ⟨c2, d2, none⟩)] 43)
          have HB6 := hid B6
          have HO6 := hid (owns_later HOY.out B6)
          clear ix1 ix2 e0 e1 e2 e3 e4 e5 is1 g0 g1 g2 g3 g4 g5 is2 hsl B6 hlv
          go_wp2_with fail
          go_region_law (
            refine step_append_lies _ rfl (.tmp 39) (.tmp 55) 44 rfl (W.heap.size + 2) 43 i0 _ 2 16 undPs HI.out hz0 hz1 hz2 rfl (by decide) u5 (st0.length + j) ((st0 ++ ks).flatMap pCells) (by simp [Act.eval, Act.put]) HO6.out ⟨Y.heap.size, 0, none⟩ 1 1 [.pointer (some ⟨c1, d1, none⟩), .pointer (some ⟨c2, d2, none⟩)] (by simp [Act.eval, Act.put]) rfl ?c1 (by simp [Value.oneCell']) (by decide) ?c2 ?c3 ?c4 _ rfl ?_
            case c1 => exact new_cells _ _ _ _ (by simp)
            case c2 => unfold maxLen; omega
            case c3 => omega
            case c4 => simp; omega
            intro g cap w9 hown9 hg9 hgg9 hgl9
            have hgr : (Y.alloc (.cells #[.pointer (some ⟨c1, d1, none⟩), .pointer (some ⟨c2, d2, none⟩)] 43)).grownBy w9 u5.ownBlock := ⟨hg9.os, hg9.tape, hg9.output, hg9.size, hg9.block⟩
            have hgX : g ≠ X.heap.size := by
              rcases hgg9 with e | e
              · exact HNE.out g e
              · simp at e; omega
            have HB9 := hid (grown_below (HBY.out.trans (HB6.out.mono hW0Y)) HO6.out (by omega) hgr)
            have HP9 := hid ((hgr.block X.heap.size (by simp; omega) (fun e => HNE.out _ e.symm rfl)).trans ((HB6.out.block _ hXY).trans HPY.out))
            have HO9 := hid (show w9.ownsRow (W.heap.size + 2) 43 2 (.slice (some ⟨g, 0, none⟩) (st0.length + j + 1) cap) (st0.length + (j + 1)) ((st0 ++ (ks ++ [(⟨c1, d1, c2, d2, f.n.kids[j], f.m.kids[j], av1, kv1, av2, kv2⟩ : Fr)])).flatMap pCells) from by
              rw [← List.append_assoc, List.flatMap_append (xs := st0 ++ ks), List.flatMap_singleton]
              exact hown9)
            clear hown9 hg9 hgg9 hgr)
          all_goals go_wp2
          all_goals go_roundg (gk - 1)
          all_goals first
            | omega
            | exact ⟨j + 1, ks ++ [(⟨c1, d1, c2, d2, f.n.kids[j], f.m.kids[j], av1, kv1, av2, kv2⟩ : Fr)], by go_num, by omega, by simp [hkj], hid (by rw [List.map_append, HK.out, HTK.out]; rfl), hid (fun q hq => by
                rcases List.mem_append.1 hq with hq | hq
                · exact HKS.out q hq
                · obtain rfl := by simpa using hq
                  exact HFR.out), HO9, HB9, HP9, hid (fun c hc => by
                have e : g = c := by simpa [Value.ownBlock] using hc
                rw [← e]; exact hgX)⟩
        · have hjl : j = f.n.kids.length := by omega
          have hkm : ks.map Fr.n = f.n.kids := by rw [HK.out, hjl, List.take_length]
          have htt : total (st0 ++ ks) = total st0 + sizeL f.n.kids := by unfold total; rw [List.map_append, sizeL_append, hkm]
          have HOO := hid (show Y.ownsRow (W.heap.size + 2) 43 2 u5 (st0 ++ ks).length ((st0 ++ ks).flatMap pCells) by rw [List.length_append, hkj]; exact HOY.out)
          clear hkm hlv
          go_wp2
          go_roundg (total st0 + sizeL f.n.kids)
          case measure => omega
          case rel => exact ⟨st0 ++ ks, htt, by omega, HOO, hid (fun q hq => by
            rcases List.mem_append.1 hq with hq | hq
            · exact HST0.out q hq
            · exact HKS.out q hq), HBY⟩
end Go.Proofs.YtdpknpgknbkiiaaGreatDoor.Tree
namespace Go.Proofs.YtdpknpgknbkiiaaGreatDoor.Tree
open Go Go.Proofs.YtdpknpgknbkiiaaGreatDoor Go.Proofs.YtdpknpgknbkiiaaGreatDoor.Utf Go.Proofs.YtdpknpgknbkiiaaGreatDoor.Names Go.Proofs.YtdpknpgknbkiiaaGreatDoor.Ent Go.Proofs.YtdpknpgknbkiiaaGreatDoor.Tok
set_option maxRecDepth 100000

/-- Small letters and digits. -/
def Low (l : List UInt8) : Prop := ∀ c ∈ l, (48 ≤ c.toNat ∧ c.toNat ≤ 57) ∨ (97 ≤ c.toNat ∧ c.toNat ≤ 122)
theorem low_fine {c : UInt8} (h : (48 ≤ c.toNat ∧ c.toNat ≤ 57) ∨ (97 ≤ c.toNat ∧ c.toNat ≤ 122)) : fine (c.toNat : Int) = true := by
  have := (List.all_eq_true.1 (show (List.range 256).all (fun n => !(decide (48 ≤ n ∧ n ≤ 57) || decide (97 ≤ n ∧ n ≤ 122)) || fine (n : Int)) = true by kernel_rfl)) c.toNat (List.mem_range.2 c.toNat_lt)
  rw [Bool.or_eq_true] at this
  rcases this with q | q
  · rcases h with h | h <;> simp [h] at q
  · exact q
theorem Low.ck : ∀ {l : List UInt8}, Low l → Ck l
  | [], _ => rfl
  | c :: l, h => Ck.cons (by have := h c (by simp); omega) (low_fine (h c (by simp))) (Low.ck (fun d hd => h d (by simp [hd])))
theorem Low.calm {l : List UInt8} (h : Low l) : calm l := by
  intro b hb
  have := h b hb
  refine ⟨?_, ?_, ?_, ?_, ?_⟩ <;> (rintro rfl; simp at this)
theorem Low.first {l : List UInt8} (h : Low l) (r : List UInt8) : firstAt 39 (l ++ 39 :: r) = some l.length := by
  refine firstAt_is (by simp) fun k hk e => ?_
  rw [List.getElem?_append_left hk] at e
  have := h 39 (List.mem_of_getElem? e)
  simp at this
theorem Low.value {l : List UInt8} (h : Low l) (r : List UInt8) : valueR (39 :: (l ++ 39 :: r)) = .ok l (l.length + 2) := by
  have ht : tell true l = (l, l.length, 0) := by
    have := tell_calm true l h.ck [] h.calm
    rw [List.append_nil] at this
    rw [this]
    simp [Ent.fin, tell_nil]
  unfold valueR
  simp only [h.first r]
  rw [if_pos (.inr trivial)]
  have e : (l ++ 39 :: r).take l.length = l := by simp
  rw [e, ht]
  simp
theorem Low.equal {l : List UInt8} (h : Low l) (r : List UInt8) : equalR (61 :: 39 :: (l ++ 39 :: r)) = .ok l (l.length + 3) := by
  have b1 : blanks (61 :: 39 :: (l ++ 39 :: r)) = 0 := blanks_none _ _ (by decide)
  have b2 : blanks (39 :: (l ++ 39 :: r)) = 0 := blanks_none _ _ (by decide)
  unfold equalR
  rw [b1]
  simp only [List.drop_zero, b2]
  rw [h.value r]
  simp only [Res.from]
  congr 1
  omega
theorem Low.att {seen : List (List UInt8)} {nm l : List UInt8} (h : Low l) (r : List UInt8) (h1 : splitO nm ≠ none) (h2 : seen.contains nm = false) :
    attrT seen (nm ++ 61 :: 39 :: (l ++ 39 :: r)) = .ok (nm, l) (nm.length + (l.length + 3)) := by
  unfold attrT
  rw [nameR_ok h1 61 (by simp) _]
  simp only [h2]
  have e : (nm ++ 61 :: 39 :: (l ++ 39 :: r)).drop nm.length = 61 :: 39 :: (l ++ 39 :: r) := by simp
  rw [e, h.equal r]
  simp
/-- Attributes between single quotes. -/
def ats : List (List UInt8 × List UInt8) → List UInt8
  | [] => []
  | p :: r => 32 :: (p.1 ++ 61 :: 39 :: (p.2 ++ 39 :: ats r))
/-- Their names are right, and none is there twice; their values are plain. -/
def Okay : List (List UInt8) → List (List UInt8 × List UInt8) → Prop
  | _, [] => True
  | seen, p :: r => splitO p.1 ≠ none ∧ seen.contains p.1 = false ∧ Low p.2 ∧ Okay (p.1 :: seen) r
theorem ats_back : ∀ (ps : List (List UInt8 × List UInt8)) (seen : List (List UInt8)), Okay seen ps →
    ∀ (c : UInt8) (m : List UInt8) (f : Nat), (c = 62 ∨ c = 47) → (ats ps).length < f → ∃ xs, attrsF f seen (ats ps ++ c :: m) = .ok xs (ats ps).length ∧ xs.map Pr.bare = ps
  | [], seen, h, c, m, f, hc, hf => by
    obtain ⟨g, rfl⟩ : ∃ g, f = g + 1 := ⟨f - 1, by omega⟩
    have hb : blanks (c :: m) = 0 := blanks_none _ _ (by rcases hc with rfl | rfl <;> decide)
    refine ⟨[], ?_, rfl⟩
    unfold attrsF
    simp only [ats, List.nil_append, hb, List.drop_zero, List.length_nil]
    rw [if_pos hc]
  | p :: ps, seen, h, c, m, f, hc, hf => by
    obtain ⟨c1, c2, c3, h⟩ := h
    obtain ⟨g, rfl⟩ : ∃ g, f = g + 1 := ⟨f - 1, by omega⟩
    obtain ⟨b, r, hbr, hsp, h62, h47, _, _⟩ := nm_head (nm_split c1)
    have hlen : (ats ps).length < g := by simp [ats] at hf; omega
    obtain ⟨xs, ha, hba⟩ := ats_back ps (p.1 :: seen) h c m g hc hlen
    have e : ats (p :: ps) ++ c :: m = 32 :: (p.1 ++ 61 :: 39 :: (p.2 ++ 39 :: (ats ps ++ c :: m))) := by simp [ats]
    have hbl : blanks (32 :: (p.1 ++ 61 :: 39 :: (p.2 ++ 39 :: (ats ps ++ c :: m)))) = 1 := by
      rw [hbr, List.cons_append]; exact blanks_one _ _ hsp
    refine ⟨⟨1, p.1, p.2⟩ :: xs.map (Pr.shift (1 + (p.1.length + (p.2.length + 3)))), ?_, ?_⟩
    · rw [e]
      unfold attrsF
      rw [hbl]
      simp only [List.drop_succ_cons, List.drop_zero]
      have hd : p.1 ++ 61 :: 39 :: (p.2 ++ 39 :: (ats ps ++ c :: m)) = b :: (r ++ 61 :: 39 :: (p.2 ++ 39 :: (ats ps ++ c :: m))) := by rw [hbr, List.cons_append]
      have hat := c3.att (seen := seen) (ats ps ++ c :: m) c1 c2
      have hdr : (p.1 ++ 61 :: 39 :: (p.2 ++ 39 :: (ats ps ++ c :: m))).drop (p.1.length + (p.2.length + 3)) = ats ps ++ c :: m := by
        rw [← List.drop_drop]
        simp
      rw [hd] at hat hdr ⊢
      simp only
      rw [if_neg (by rintro (x | x); exact h62 x; exact h47 x), if_neg (by omega), hat]
      simp only
      rw [hdr, ha]
      simp only
      congr 1
      simp [ats]
      omega
    · simp only [List.map_cons, List.map_map]
      rw [show (Pr.bare ∘ Pr.shift (1 + (p.1.length + (p.2.length + 3)))) = Pr.bare from rfl, hba]
      rfl
def tagEnd (kind : Nat) : List UInt8 := if kind = 2 then [47, 62] else [62]
theorem tag39 {nm : List UInt8} {ps : List (List UInt8 × List UInt8)} (h1 : splitO nm ≠ none) (ha : Okay [] ps) (kind : Nat) (hk : kind = 0 ∨ kind = 2) (r : List UInt8) :
    ∃ t, tagR (nm ++ (ats ps ++ tagEnd kind ++ r)) = .ok t (nm.length + (ats ps).length + (tagEnd kind).length) ∧ t.bare = ((kind : Int), nm, ps) := by
  obtain ⟨c, m, hcm, hc⟩ : ∃ c m, tagEnd kind ++ r = c :: m ∧ (c = 62 ∨ c = 47) := by
    rcases hk with rfl | rfl
    · exact ⟨62, r, rfl, .inl rfl⟩
    · exact ⟨47, 62 :: r, rfl, .inr rfl⟩
  have e : ats ps ++ tagEnd kind ++ r = ats ps ++ c :: m := by rw [List.append_assoc, hcm]
  rw [e]
  have hhead : ∃ b x, ats ps ++ c :: m = b :: x ∧ (b = 32 ∨ b = 62 ∨ b = 47 ∨ b = 61) := by
    cases ps with
    | nil => exact ⟨c, m, rfl, by rcases hc with h | h <;> simp [h]⟩
    | cons p ps => exact ⟨32, _, rfl, by simp⟩
  obtain ⟨b, x, hbx, hb⟩ := hhead
  have hn : nameR (nm ++ (ats ps ++ c :: m)) = .ok nm nm.length := by rw [hbx]; exact nameR_ok h1 b hb x
  obtain ⟨xs, hat, hba⟩ := ats_back ps [] ha c m ((nm ++ (ats ps ++ c :: m)).length + 1) hc (by simp; omega)
  have hd : (nm ++ (ats ps ++ c :: m)).drop nm.length = ats ps ++ c :: m := by simp
  have hd2 : (nm ++ (ats ps ++ c :: m)).drop (nm.length + (ats ps).length) = c :: m := by rw [← List.drop_drop]; simp
  have hbare : ∀ q : Nat, (xs.map (Pr.shift q)).map Pr.bare = ps := fun q => by
    rw [List.map_map, ← hba]; exact List.map_congr_left (fun x _ => rfl)
  unfold tagR
  rw [hn]
  simp only [hd, hat, hd2]
  rcases hk with rfl | rfl
  · obtain ⟨rfl, rfl⟩ : c = 62 ∧ m = r := by simpa [tagEnd] using hcm.symm
    exact ⟨_, rfl, by simp only [Tok.bare, hbare]; rfl⟩
  · obtain ⟨rfl, rfl⟩ : c = 47 ∧ m = 62 :: r := by simpa [tagEnd, eq_comm] using hcm.symm
    exact ⟨_, rfl, by simp only [Tok.bare, hbare]; rfl⟩
/-- What stands there is one token, whatever stands behind. -/
def Piece (b : List UInt8) (t : Int × List UInt8 × List (List UInt8 × List UInt8)) : Prop := b ≠ [] ∧ Ck b ∧ ∀ first r, ∃ t', oneR first (b ++ r) = .ok (some t') b.length ∧ t'.bare = t
theorem Ck.ats : ∀ {ps : List (List UInt8 × List UInt8)} {seen : List (List UInt8)}, Okay seen ps → Ck (ats ps)
  | [], _, _ => rfl
  | p :: ps, seen, h => by
    obtain ⟨c1, c2, c3, h⟩ := h
    have := Ck.ats h
    exact Ck.cons (by decide) (by decide) ((Ck.nm (nm_split c1)).append (Ck.cons (by decide) (by decide) (Ck.cons (by decide) (by decide) (c3.ck.append (Ck.cons (by decide) (by decide) this)))))
theorem piece_tag {nm : List UInt8} {ps : List (List UInt8 × List UInt8)} (h1 : splitO nm ≠ none) (ha : Okay [] ps) (kind : Nat) (hk : kind = 0 ∨ kind = 2) :
    Piece (60 :: (nm ++ (ats ps ++ tagEnd kind))) ((kind : Int), nm, ps) := by
  refine ⟨by simp, ?_, fun first r => ?_⟩
  · refine Ck.cons (by decide) (by decide) ((Ck.nm (nm_split h1)).append ((Ck.ats ha).append ?_))
    rcases hk with rfl | rfl <;> exact Ck.lit (by decide)
  · obtain ⟨t', ht, hb⟩ := tag39 h1 ha kind hk r
    obtain ⟨b, x, hbx, _, _, h47, h33, h63⟩ := nm_head (nm_split h1)
    refine ⟨{ t' with attrs := t'.attrs.map (Pr.shift 1) }, ?_, ?_⟩
    · have e : 60 :: (nm ++ (ats ps ++ tagEnd kind)) ++ r = 60 :: (nm ++ (ats ps ++ tagEnd kind ++ r)) := by simp
      rw [e]
      have e2 : nm ++ (ats ps ++ tagEnd kind ++ r) = b :: (x ++ (ats ps ++ tagEnd kind ++ r)) := by rw [hbx, List.cons_append]
      unfold oneR
      have q0 : decl (60 :: (nm ++ (ats ps ++ tagEnd kind ++ r))) = false := by rw [e2]; exact decl_ne2 h63 _
      have q1 : ∀ p, pre (60 :: 33 :: p) (60 :: (nm ++ (ats ps ++ tagEnd kind ++ r))) = false := fun p => by rw [e2, pre_cons]; exact pre_ne (fun e => h33 e.symm) _ _
      have q2 : ∀ p, pre (60 :: 63 :: p) (60 :: (nm ++ (ats ps ++ tagEnd kind ++ r))) = false := fun p => by rw [e2, pre_cons]; exact pre_ne (fun e => h63 e.symm) _ _
      have q3 : ∀ p, pre (60 :: 47 :: p) (60 :: (nm ++ (ats ps ++ tagEnd kind ++ r))) = false := fun p => by rw [e2, pre_cons]; exact pre_ne (fun e => h47 e.symm) _ _
      rw [q0, q1, q1, q1, q2, q3]
      simp only [List.drop_succ_cons, List.drop_zero, ht, Res.up]
      simp [pre]
      omega
    · rw [← hb]
      simp only [Tok.bare, List.map_map]
      congr 2
theorem piece_close {nm : List UInt8} (h1 : splitO nm ≠ none) : Piece (60 :: 47 :: (nm ++ [62])) (1, nm, []) := by
  have hw : tokW (-1) ⟨1, 0, nm, []⟩ = .ok (60 :: 47 :: (nm ++ [62])) 0 := by
    unfold tokW
    rw [if_neg (by simp), if_neg (by simp), if_neg h1, if_pos rfl, if_neg (by simp)]
  refine ⟨by simp, Ck.cons (by decide) (by decide) (Ck.cons (by decide) (by decide) ((Ck.nm (nm_split h1)).append (Ck.lit (by decide)))), fun first r => ?_⟩
  obtain ⟨t', q1, q2, _⟩ := one_back hw first r (fun h => by cases h)
  exact ⟨t', q1, q2⟩
/-- Pieces, one behind the other. -/
inductive Pieces : List UInt8 → List (Int × List UInt8 × List (List UInt8 × List UInt8)) → Prop
  | nil : Pieces [] []
  | cons {b r : List UInt8} {t : Int × List UInt8 × List (List UInt8 × List UInt8)} {ts : List (Int × List UInt8 × List (List UInt8 × List UInt8))} (h : Piece b t) (hr : Pieces r ts) : Pieces (b ++ r) (t :: ts)
theorem Pieces.toks {b : List UInt8} {ts : List (Int × List UInt8 × List (List UInt8 × List UInt8))} (h : Pieces b ts) : Ck b ∧ ∀ first, ∃ us k, Tok.toks first b = .ok us k ∧ us.map Tok.bare = ts := by
  induction h with
  | nil => exact ⟨rfl, fun first => ⟨[], 0, rfl, rfl⟩⟩
  | @cons b r t ts h hr ih =>
    refine ⟨h.2.1.append ih.1, fun first => ?_⟩
    obtain ⟨t', h1, h2⟩ := h.2.2 first r
    obtain ⟨us, k, h3, h4⟩ := ih.2 false
    rw [toks_step (by have := h.1; simp [this]) h1, List.drop_left, h3]
    exact ⟨_, _, rfl, by simp only [Option.toList_some, List.singleton_append, List.map_cons, bares_shift, h2, h4]⟩
theorem Pieces.tokens {b : List UInt8} {ts : List (Int × List UInt8 × List (List UInt8 × List UInt8))} (h : Pieces b ts) (hl : b.length ≤ 16777216) : ∃ us, Tok.tokens b = (us, b.length, 0) ∧ us.map Tok.bare = ts := by
  obtain ⟨hc, ht⟩ := h.toks
  obtain ⟨us, k, h1, h2⟩ := ht true
  rw [tokens_of hc hl, h1]
  exact ⟨us, rfl, h2⟩
theorem bare_inv {us : List Tok} {t : Int × List UInt8 × List (List UInt8 × List UInt8)} {ts : List (Int × List UInt8 × List (List UInt8 × List UInt8))} (h : us.map Tok.bare = t :: ts) : ∃ p av us', us = ⟨t.1, p, t.2.1, av⟩ :: us' ∧ av.map Pr.bare = t.2.2 ∧ us'.map Tok.bare = ts := by
  cases us with
  | nil => cases h
  | cons u us' =>
    injection h with h1 h2
    obtain ⟨k, p, s, av⟩ := u
    subst h1
    exact ⟨p, av, us', rfl, rfl, h2⟩
theorem pr_inv {av : List Pr} {p : List UInt8 × List UInt8} {ps : List (List UInt8 × List UInt8)} (h : av.map Pr.bare = p :: ps) : ∃ q av', av = ⟨q, p.1, p.2⟩ :: av' ∧ av'.map Pr.bare = ps := by
  cases av with
  | nil => cases h
  | cons a av' =>
    injection h with h1 h2
    obtain ⟨k, x, y⟩ := a
    subst h1
    exact ⟨k, av', rfl, h2⟩
end Go.Proofs.YtdpknpgknbkiiaaGreatDoor.Tree
namespace Go.Proofs.YtdpknpgknbkiiaaGreatDoor.Tree
open Go Go.Proofs.YtdpknpgknbkiiaaGreatDoor Go.Proofs.YtdpknpgknbkiiaaGreatDoor.Utf Go.Proofs.YtdpknpgknbkiiaaGreatDoor.Names Go.Proofs.YtdpknpgknbkiiaaGreatDoor.Ent Go.Proofs.YtdpknpgknbkiiaaGreatDoor.Tok
set_option maxRecDepth 100000
section
variable (s t : List UInt8)
/-- The documents, piece by piece. -/
def d1a : List (List UInt8 × List UInt8) := [([120, 109, 108, 110, 115], 117 :: s), ([120, 109, 108, 110, 115, 58, 112], 118 :: t)]
def d1b : List (List UInt8 × List UInt8) := [([112, 58, 99], [49]), ([99], [50])]
def d1c : List (List UInt8 × List UInt8) := [([120, 109, 108, 110, 115], [])]
def d2a : List (List UInt8 × List UInt8) := [([120, 109, 108, 110, 115, 58, 113], 117 :: s)]
def d2b : List (List UInt8 × List UInt8) := [([120, 109, 108, 110, 115], 118 :: t), ([120, 109, 108, 110, 115, 58, 114], 118 :: t), ([114, 58, 99], [49]), ([99], [50])]
def d3a : List (List UInt8 × List UInt8) := [([120, 109, 108, 110, 115, 58, 112], 117 :: s), ([120, 109, 108, 110, 115, 58, 113], 117 :: s), ([112, 58, 99], [49]), ([113, 58, 99], [50])]
def doc1 : List UInt8 := (60 :: ([97] ++ (ats (d1a s t) ++ tagEnd 0))) ++ ((60 :: ([112, 58, 98] ++ (ats d1b ++ tagEnd 2))) ++ ((60 :: ([100] ++ (ats d1c ++ tagEnd 2))) ++ ((60 :: 47 :: ([97] ++ [62])) ++ [])))
def doc2 : List UInt8 := (60 :: ([113, 58, 97] ++ (ats (d2a s) ++ tagEnd 0))) ++ ((60 :: ([98] ++ (ats (d2b t) ++ tagEnd 2))) ++ ((60 :: ([100] ++ (ats [] ++ tagEnd 2))) ++ ((60 :: 47 :: ([113, 58, 97] ++ [62])) ++ [])))
def doc3 : List UInt8 := (60 :: ([97] ++ (ats (d3a s) ++ tagEnd 2))) ++ []
variable {s t} (hs : Low s) (ht : Low t)
include hs in
theorem low_s : Low (117 :: s) := fun c hc => by
  rcases List.mem_cons.1 hc with rfl | hc
  · exact .inr ⟨by decide, by decide⟩
  · exact hs c hc
include ht in
theorem low_t : Low (118 :: t) := fun c hc => by
  rcases List.mem_cons.1 hc with rfl | hc
  · exact .inr ⟨by decide, by decide⟩
  · exact ht c hc
theorem low_1 : Low [49] := fun c hc => by
  obtain rfl : c = 49 := by simpa using hc
  exact .inl ⟨by decide, by decide⟩
theorem low_2 : Low [50] := fun c hc => by
  obtain rfl : c = 50 := by simpa using hc
  exact .inl ⟨by decide, by decide⟩
theorem low_0 : Low [] := fun c hc => by cases hc
include hs ht in
theorem okay_1a : Okay [] (d1a s t) := ⟨(by dsimp only; decide), rfl, low_s hs, (by dsimp only; decide), rfl, low_t ht, trivial⟩
theorem okay_1b : Okay [] d1b := ⟨(by dsimp only; decide), rfl, low_1, (by dsimp only; decide), rfl, low_2, trivial⟩
theorem okay_1c : Okay [] d1c := ⟨(by dsimp only; decide), rfl, low_0, trivial⟩
include hs in
theorem okay_2a : Okay [] (d2a s) := ⟨(by dsimp only; decide), rfl, low_s hs, trivial⟩
include ht in
theorem okay_2b : Okay [] (d2b t) := ⟨(by dsimp only; decide), rfl, low_t ht, (by dsimp only; decide), rfl, low_t ht, (by dsimp only; decide), rfl, low_1, (by dsimp only; decide), rfl, low_2, trivial⟩
include hs in
theorem okay_3a : Okay [] (d3a s) := ⟨(by dsimp only; decide), rfl, low_s hs, (by dsimp only; decide), rfl, low_s hs, (by dsimp only; decide), rfl, low_1, (by dsimp only; decide), rfl, low_2, trivial⟩
include hs ht in
theorem doc1_pieces : Pieces (doc1 s t) [(0, [97], d1a s t), (2, [112, 58, 98], d1b), (2, [100], d1c), (1, [97], [])] :=
  .cons (piece_tag (by decide) (okay_1a hs ht) 0 (.inl rfl))
    (.cons (piece_tag (by decide) okay_1b 2 (.inr rfl))
      (.cons (piece_tag (by decide) okay_1c 2 (.inr rfl)) (.cons (piece_close (by decide)) .nil)))
include hs ht in
theorem doc2_pieces : Pieces (doc2 s t) [(0, [113, 58, 97], d2a s), (2, [98], d2b t), (2, [100], []), (1, [113, 58, 97], [])] :=
  .cons (piece_tag (by decide) (okay_2a hs) 0 (.inl rfl))
    (.cons (piece_tag (by decide) (okay_2b ht) 2 (.inr rfl))
      (.cons (piece_tag (ps := []) (by decide) trivial 2 (.inr rfl)) (.cons (piece_close (by decide)) .nil)))
include hs in
theorem doc3_pieces : Pieces (doc3 s) [(2, [97], d3a s)] :=
  .cons (piece_tag (by decide) (okay_3a hs) 2 (.inr rfl)) .nil
theorem given_one (e : El) (r : List El) (x : List (Int × List UInt8)) (o : Option Node) : (⟨e :: r, x, o⟩ : Bs).given = e.given := rfl
/-- The trees. -/
def kidB (p : Int) (t : List UInt8) : Node := .mk p (118 :: t, [98]) [⟨(118 :: t, [99]), [49]⟩, ⟨([], [99]), [50]⟩] [] []
def kidD (p : Int) : Node := .mk p ([], [100]) [] [] []
def treeA (p q r : Int) (s t : List UInt8) : Node := .mk p (117 :: s, [97]) [] [kidB q t, kidD r] []
theorem same_trees (p q r p' q' r' : Int) (s t : List UInt8) : SameN (treeA p q r s t) (treeA p' q' r' s t) := by
  unfold treeA
  refine SameN.of ((SameL.nil.snoc (n := kidB q t) (m := kidB q' t) ?_).snoc (n := kidD r) (m := kidD r') ?_)
  · exact SameN.of .nil
  · exact SameN.of .nil
include hs ht in
theorem read_doc1 (hl : s.length ≤ 20) (hl2 : t.length ≤ 20) : ∃ p q r n, read (doc1 s t) = (treeA p q r s t, n, 0) := by
  obtain ⟨us, h1, h2⟩ := (doc1_pieces hs ht).tokens (by simp [doc1, ats, d1a, d1b, d1c, tagEnd]; omega)
  obtain ⟨p1, a1, u1, rfl, ha1, hx1⟩ := bare_inv h2
  obtain ⟨p2, a2, u2, rfl, ha2, hx2⟩ := bare_inv hx1
  obtain ⟨p3, a3, u3, rfl, ha3, hx3⟩ := bare_inv hx2
  obtain ⟨p4, a4, u4, rfl, ha4, hx4⟩ := bare_inv hx3
  obtain rfl : u4 = [] := by simpa using hx4
  obtain ⟨q1, b1, rfl, hy5⟩ := pr_inv ha1
  obtain ⟨q2, b2, rfl, hy6⟩ := pr_inv hy5
  obtain rfl : b2 = [] := by simpa using hy6
  obtain ⟨q3, b3, rfl, hy7⟩ := pr_inv ha2
  obtain ⟨q4, b4, rfl, hy8⟩ := pr_inv hy7
  obtain rfl : b4 = [] := by simpa using hy8
  obtain ⟨q5, b5, rfl, hy9⟩ := pr_inv ha3
  obtain rfl : b5 = [] := by simpa using hy9
  obtain rfl : a4 = [] := by simpa using ha4
  refine ⟨p1, p2, p3, (doc1 s t).length, ?_⟩
  unfold read
  rw [h1]
  rfl
include hs ht in
theorem read_doc2 (hl : s.length ≤ 20) (hl2 : t.length ≤ 20) : ∃ p q r n, read (doc2 s t) = (treeA p q r s t, n, 0) := by
  obtain ⟨us, h1, h2⟩ := (doc2_pieces hs ht).tokens (by simp [doc2, ats, d2a, d2b, tagEnd]; omega)
  obtain ⟨p1, a1, u1, rfl, ha1, hx10⟩ := bare_inv h2
  obtain ⟨p2, a2, u2, rfl, ha2, hx11⟩ := bare_inv hx10
  obtain ⟨p3, a3, u3, rfl, ha3, hx12⟩ := bare_inv hx11
  obtain ⟨p4, a4, u4, rfl, ha4, hx13⟩ := bare_inv hx12
  obtain rfl : u4 = [] := by simpa using hx13
  obtain ⟨q1, b1, rfl, hy14⟩ := pr_inv ha1
  obtain rfl : b1 = [] := by simpa using hy14
  obtain ⟨q2, b2, rfl, hy15⟩ := pr_inv ha2
  obtain ⟨q3, b3, rfl, hy16⟩ := pr_inv hy15
  obtain ⟨q4, b4, rfl, hy17⟩ := pr_inv hy16
  obtain ⟨q5, b5, rfl, hy18⟩ := pr_inv hy17
  obtain rfl : b5 = [] := by simpa using hy18
  obtain rfl : a3 = [] := by simpa using ha3
  obtain rfl : a4 = [] := by simpa using ha4
  refine ⟨p1, p2, p3, (doc2 s t).length, ?_⟩
  unfold read
  rw [h1]
  rfl
theorem beq_self (l : List UInt8) : (l == l) = true := by simp
include hs in
theorem read_doc3 (hl : s.length ≤ 20) : ∃ p, read (doc3 s) = (noNode, p, 8) := by
  obtain ⟨us, h1, h2⟩ := (doc3_pieces hs).tokens (by simp [doc3, ats, d3a, tagEnd]; omega)
  obtain ⟨p1, a1, u1, rfl, ha1, hx19⟩ := bare_inv h2
  obtain rfl : u1 = [] := by simpa using hx19
  obtain ⟨q1, b1, rfl, hy20⟩ := pr_inv ha1
  obtain ⟨q2, b2, rfl, hy21⟩ := pr_inv hy20
  obtain ⟨q3, b3, rfl, hy22⟩ := pr_inv hy21
  obtain ⟨q4, b4, rfl, hy23⟩ := pr_inv hy22
  obtain rfl : b4 = [] := by simpa using hy23
  refine ⟨q4, ?_⟩
  have hw : within atFirst [⟨q1, [120, 109, 108, 110, 115, 58, 112], 117 :: s⟩, ⟨q2, [120, 109, 108, 110, 115, 58, 113], 117 :: s⟩, ⟨q3, [112, 58, 99], [49]⟩, ⟨q4, [113, 58, 99], [50]⟩] = .ok (([113], 117 :: s) :: ([112], 117 :: s) :: atFirst) := by rfl
  have hn : nameIn (([113], 117 :: s) :: ([112], 117 :: s) :: atFirst) [97] ((get (([113], 117 :: s) :: ([112], 117 :: s) :: atFirst) []).getD []) = .ok ([], [97]) := by rfl
  have hc : ([((117 :: s, [99]) : Nm)] : List Nm).contains (117 :: s, [99]) = true := by simp
  have ha : attrsIn (([113], 117 :: s) :: ([112], 117 :: s) :: atFirst) [] [⟨q1, [120, 109, 108, 110, 115, 58, 112], 117 :: s⟩, ⟨q2, [120, 109, 108, 110, 115, 58, 113], 117 :: s⟩, ⟨q3, [112, 58, 99], [49]⟩, ⟨q4, [113, 58, 99], [50]⟩] = .error (q4, 8) := by
    have n1 : nameIn (([113], 117 :: s) :: ([112], 117 :: s) :: atFirst) [112, 58, 99] [] = .ok (117 :: s, [99]) := by rfl
    have n2 : nameIn (([113], 117 :: s) :: ([112], 117 :: s) :: atFirst) [113, 58, 99] [] = .ok (117 :: s, [99]) := by rfl
    rw [attrsIn, if_pos (by dsimp only; decide), attrsIn, if_pos (by dsimp only; decide), attrsIn, if_neg (by dsimp only; decide), n1]
    simp only
    rw [if_neg (by simp), attrsIn, if_neg (by dsimp only; decide), n2]
    simp only
    rw [if_pos hc]
  unfold read
  rw [h1]
  simp only [ne_eq, not_true_eq_false, if_false, d3a]
  unfold build
  rw [buildS]
  unfold stepB
  rw [if_neg (by simp), if_pos (by simp)]
  have he : endT (⟨[], [], none⟩ : Bs) = ⟨[], [], none⟩ := rfl
  rw [he]
  unfold beginT
  rw [if_neg (by simp), if_neg (by simp)]
  have hg : (⟨[], [], none⟩ : Bs).given = atFirst := rfl
  rw [hg]
  simp only [hw, hn, ha]
end
end Go.Proofs.YtdpknpgknbkiiaaGreatDoor.Tree
namespace Go.Proofs.YtdpknpgknbkiiaaGreatDoor.Tree
open Go Go.Proofs.YtdpknpgknbkiiaaGreatDoor Go.Proofs.YtdpknpgknbkiiaaGreatDoor.Utf Go.Proofs.YtdpknpgknbkiiaaGreatDoor.Names Go.Proofs.YtdpknpgknbkiiaaGreatDoor.Ent Go.Proofs.YtdpknpgknbkiiaaGreatDoor.Tok Go.RowKit
set_option maxRecDepth 100000
theorem lit_add5 (p l : List UInt8) (a : Array UInt8) (ha : a.toList = p) : (⟨a⟩ : ByteArray) ++ text l = text (p ++ l) := by
  have e1 : (⟨a⟩ : ByteArray) = text p := by rw [← ha]; simp [text]
  rw [e1, text_append]
theorem tx100 : text [100] = (⟨#[100]⟩ : ByteArray) := rfl
/-- A small letter for a byte. -/
def letter (c : UInt8) : UInt8 := 97 + c % 26
theorem letter_nat (c : UInt8) : (letter c).toNat = 97 + c.toNat % 26 := by
  unfold letter
  rw [UInt8.toNat_add, UInt8.toNat_mod]
  show (97 + c.toNat % 26) % 256 = _
  omega
def letters (l : List UInt8) : List UInt8 := l.map letter
theorem letters_low (l : List UInt8) : Low (letters l) := by
  intro c hc
  obtain ⟨d, _, rfl⟩ := List.mem_map.1 hc
  have := letter_nat d
  exact .inr ⟨by omega, by omega⟩
theorem letters_len (l : List UInt8) : (letters l).length = l.length := by simp [letters]
theorem letters_take (l : List UInt8) (n : Nat) (h : n < l.length) : (letters l).take (n + 1) = (letters l).take n ++ [letter l[n]] := by
  rw [List.take_succ_eq_append_getElem (by rw [letters_len]; exact h)]
  simp [letters]
theorem doc1_is (S T : List UInt8) : [60, 97, 32, 120, 109, 108, 110, 115, 61, 39] ++ (117 :: S) ++ [39, 32, 120, 109, 108, 110, 115, 58, 112, 61, 39] ++ (118 :: T) ++ [39, 62, 60, 112, 58, 98, 32, 112, 58, 99, 61, 39, 49, 39, 32, 99, 61, 39, 50, 39, 47, 62, 60, 100, 32, 120, 109, 108, 110, 115, 61, 39, 39, 47, 62, 60, 47, 97, 62] = doc1 S T := by
  simp [doc1, ats, d1a, d1b, d1c, tagEnd]
theorem doc2_is (S T : List UInt8) : [60, 113, 58, 97, 32, 120, 109, 108, 110, 115, 58, 113, 61, 39] ++ (117 :: S) ++ [39, 62, 60, 98, 32, 120, 109, 108, 110, 115, 61, 39] ++ (118 :: T) ++ [39, 32, 120, 109, 108, 110, 115, 58, 114, 61, 39] ++ (118 :: T) ++ [39, 32, 114, 58, 99, 61, 39, 49, 39, 32, 99, 61, 39, 50, 39, 47, 62, 60, 100, 47, 62, 60, 47, 113, 58, 97, 62] = doc2 S T := by
  simp [doc2, ats, d2a, d2b, tagEnd]
theorem doc3_is (S T : List UInt8) : [60, 97, 32, 120, 109, 108, 110, 115, 58, 112, 61, 39] ++ (117 :: S) ++ [39, 32, 120, 109, 108, 110, 115, 58, 113, 61, 39] ++ (117 :: S) ++ [39, 32, 112, 58, 99, 61, 39, 49, 39, 32, 113, 58, 99, 61, 39, 50, 39, 47, 62] = doc3 S := by
  simp [doc3, ats, d3a, tagEnd]
theorem one_conv (X : World) (c : UInt8) : (convert 22 9 (.slice (some ⟨X.heap.size, 0, none⟩) 1 1)).run Tryz.prog (X.alloc (.cells #[.int .u8 (97 + (c.toNat : Int) % 26)] 5)) = .ok (.string (text [letter c])) (X.alloc (.cells #[.int .u8 (97 + (c.toNat : Int) % 26)] 5)) := by
  have hz : (97 + (c.toNat : Int) % 26) = ((letter c).toNat : Int) := by rw [letter_nat]; omega
  rw [hz]
  have hb : Bytes (X.alloc (.cells #[.int .u8 ((letter c).toNat : Int)] 5)) (.slice (some ⟨X.heap.size, 0, none⟩) 1 1) [letter c] := Row.ofBuild (sz := 1) X #[.int .u8 ((letter c).toNat : Int)] 5 1 rfl (by omega)
  exact hb.conv 22 9 5 underB under8 under9
end Go.Proofs.YtdpknpgknbkiiaaGreatDoor.Tree
