/- Layer 10: the walk of ExprTests. -/
import Derived.Test.YtlhhjocfbafoeaaGreatDoorXpPa
import Derived.Test.YtlhhjocfbafoeaaGreatDoorXpY
import Derived.Deep.RegionHeld3
set_option linter.unusedVariables false
set_option linter.unusedSimpArgs false
namespace Go.Proofs.YtlhhjocfbafoeaaGreatDoor.Xp
open Go Go.Proofs.YtlhhjocfbafoeaaGreatDoor Go.Proofs.YtlhhjocfbafoeaaGreatDoor.Utf Go.Proofs.YtlhhjocfbafoeaaGreatDoor.Names Go.Proofs.YtlhhjocfbafoeaaGreatDoor.Sc Go.RowKit
set_option maxRecDepth 100000
theorem IsE.mk0 {w : World} (k : Int) (s : Nam) {l : List Ex} {pv : Value} (hp : Exs w pv l) : IsE w (.mk k s [] l) (.slice none 0 0) pv := IsE.of (Row.nil 1 w) hp
theorem Exs.two {w : World} {a b : Ex} {na pa nb pb : Value} (ha : IsE w a na pa) (hb : IsE w b nb pb) :
    Exs (w.alloc (.cells #[.int .i64 a.kind, .string (text a.s), na, pa, .int .i64 b.kind, .string (text b.s), nb, pb] 25)) (.slice (some ⟨w.heap.size, 0, none⟩) 2 2) [a, b] :=
  Exs.made [(a, na, pa), (b, nb, pb)] (by
    intro x hx
    simp only [List.mem_cons, List.not_mem_nil, or_false] at hx
    rcases hx with rfl | rfl
    · exact ha
    · exact hb) (by simp)
theorem Exs.one1 {w : World} {a : Ex} {na pa : Value} (ha : IsE w a na pa) :
    Exs (w.alloc (.cells #[.int .i64 a.kind, .string (text a.s), na, pa] 25)) (.slice (some ⟨w.heap.size, 0, none⟩) 1 1) [a] :=
  Exs.made [(a, na, pa)] (by
    intro x hx
    simp only [List.mem_cons, List.not_mem_nil, or_false] at hx
    subst hx
    exact ha) (by simp)
def tE (op : Nam) (e : Ex) : Ex := .mk 19 op [] [e]
def fiveE (op : Nam) (e : Ex) : List Ex := [.mk 7 [] [] [tE op e, e], .mk 4 [] [] [tE op e], .mk 16 [] [] [e, tE op e], .mk 19 [60] [] [tE op e], .mk 7 [] [] [e, .mk 16 [] [] [tE op e]]]
theorem five_17 {e : Ex} {op : Nam} (hx : checkV e = 0) (hk : e.kind ≠ 19) (hd : e.depth ≤ 100) (hs : op ∈ tests) : ∀ y ∈ fiveE op e, checkV y = 17 := by
  intro y hy
  simp only [fiveE, tE, List.mem_cons, List.not_mem_nil, or_false] at hy
  rcases hy with rfl | rfl | rfl | rfl | rfl
  · exact out_17 hx hd hs
  · exact neg_17 hx hd hs
  · exact list_17 hx hk hd hs
  · exact test_17 hx hd hs
  · exact deep_17 hx hk hd hs
theorem tE_fit {e : Ex} {op : Nam} (hf : e.fit) : (tE op e).fit := ⟨by decide, hf, trivial⟩
theorem five_fit {e : Ex} {op : Nam} (hf : e.fit) : ∀ y ∈ fiveE op e, y.fit := by
  have ht : (tE op e).fit := tE_fit hf
  intro y hy
  simp only [fiveE, List.mem_cons, List.not_mem_nil, or_false] at hy
  rcases hy with rfl | rfl | rfl | rfl | rfl
  · exact ⟨by decide, ht, hf, trivial⟩
  · exact ⟨by decide, ht, trivial⟩
  · exact ⟨by decide, hf, ht, trivial⟩
  · exact ⟨by decide, ht, trivial⟩
  · exact ⟨by decide, hf, ⟨by decide, ht, trivial⟩, trivial⟩
theorem five_mass {e : Ex} {op : Nam} (hs : op ∈ tests) (hm : e.mass ≤ 9500) : ∀ y ∈ fiveE op e, y.mass ≤ 2000000 := by
  have hl := tests_len hs
  intro y hy
  simp only [fiveE, tE, List.mem_cons, List.not_mem_nil, or_false] at hy
  rcases hy with rfl | rfl | rfl | rfl | rfl <;> (simp [Ex.mass, massL, namesMass]; omega)
theorem rem_four {k : Int} (hk : (Lit.int .u8 k).wf = true) : ∃ q : Nat, k.tmod 4 = (q : Int) ∧ q < 4 := by
  simp only [Lit.wf, IntKind.min, IntKind.max, IntKind.signed, IntKind.bits, Bool.and_eq_true, decide_eq_true_eq] at hk
  have h0 : 0 ≤ k := by simp at hk; omega
  refine ⟨(k % 4).toNat, ?_, by omega⟩
  rw [Int.tmod_eq_emod_of_nonneg h0]
  omega
theorem three_heap (w : World) (A B C : Obj) : (((w.alloc A).alloc B).alloc C).drew.heap[w.heap.size]? = some A ∧ (((w.alloc A).alloc B).alloc C).drew.heap[w.heap.size + 1]? = some B ∧ (((w.alloc A).alloc B).alloc C).drew.heap[w.heap.size + 1 + 1]? = some C := by
  have h1 := heap_alloc_new w A
  have h2 := heap_alloc_new (w.alloc A) B
  have h3 := heap_alloc_new ((w.alloc A).alloc B) C
  rw [World.size_alloc] at h2
  rw [World.size_alloc, World.size_alloc] at h3
  exact ⟨((ba (ba (b0 (w.alloc A)) B) C).block _ (by simp)).trans h1, ((ba (b0 ((w.alloc A).alloc B)) C).block _ (by simp)).trans h2, h3⟩
theorem tail_made {w4 X : World} {e : Ex} {ao po : Option Addr} {an ac pn pc tb ob : Nat} {op : Nam} (h : IsE w4 e (.slice ao an ac) (.slice po pn pc)) (hop : op ∈ tests) (hX : Below w4.heap.size w4 X)
    (h1 : X.heap[tb]? = some (.cells #[.int .i64 19, .string (text op), .slice none 0 0, .slice (some ⟨ob, 0, none⟩) 1 1] 25)) (h2 : X.heap[ob]? = some (.cells #[.int .i64 e.kind, .string (text e.s), .slice ao an ac, .slice po pn pc] 25)) :
    ∃ tb' ob' op', Value.pointer (some ⟨tb, 0, none⟩) = .pointer (some ⟨tb', 0, none⟩) ∧ op' ∈ tests ∧ Hid (Below w4.heap.size w4 X) ∧ Hid (X.heap[tb']? = some (.cells #[.int .i64 19, .string (text op'), .slice none 0 0, .slice (some ⟨ob', 0, none⟩) 1 1] 25)) ∧ Hid (Exs X (.slice (some ⟨ob', 0, none⟩) 1 1) [e]) :=
  ⟨tb, ob, op, rfl, hop, hid hX, hid h1, hid (Exs.block [(e, .slice ao an ac, .slice po pn pc)] (by
    intro x hx
    simp only [List.mem_cons, List.not_mem_nil, or_false] at hx
    subst hx
    exact h.later hX) (by simp) (by simp) h2)⟩
set_option maxHeartbeats 16000000 in
theorem ExprTests_walk (e : Ex) (ao : Option Addr) (an ac : Nat) (po : Option Addr) (pn pc : Nat) (x1 : Int) (w : World) (hw : Num.Fit w) (wf1 : (Lit.int .u8 x1).wf = true) (h : IsE w e (.slice ao an ac) (.slice po pn pc)) (hf : e.fit) (hm : e.mass ≤ 1100000) :
    Calls Tryz.prog 8 #[exV e (.slice ao an ac) (.slice po pn pc), .int .u8 x1] w fun r w' => r = .returned (.bool true) ∧ Below w.heap.size w w' := by
  obtain ⟨q, hq, hq4⟩ := rem_four wf1
  obtain ⟨V, hV⟩ : ∃ V, w.alloc (.cells #[.int .i64 e.kind, .string (text e.s), .slice ao an ac, .slice po pn pc] 25) = V := ⟨_, rfl⟩
  have BV : Below w.heap.size w V := hV ▸ ba (b0 w) _
  have P2 : V.heap[w.heap.size]? = some (.cells #[.int .i64 e.kind, .string (text e.s), .slice ao an ac, .slice po pn pc] 25) := hV ▸ heap_alloc_new w _
  have hE := h.later BV
  have hsz := size_mass e
  obtain ⟨hl1, hl2⟩ := len_mass e
  have AL := hid (fun (W : World) (hW : Below V.heap.size V W) => alive_any W ((hw.at BV).at hW))
  have CK := hid (fun (W : World) (hW : Below V.heap.size V W) => Check_any e ao an ac po pn pc W ((hw.at BV).at hW) (hE.later hW) hf (by omega))
  have FR := hid (fun (W : World) (hW : Below V.heap.size V W) => Free_any e ao an ac po pn pc W (hE.later hW) (by omega))
  have DP := hid (fun (W : World) (hW : Below V.heap.size V W) => Depth_any e ao an ac po pn pc W (hE.later hW) (by omega))
  have CN := hid (fun (W : World) (hW : Below V.heap.size V W) => Count_any e ao an ac po pn pc W (hE.later hW) (by omega))
  have HE := hid hE
  have HBV := hid BV
  have HP2 := hid P2
  have HW := hid (fun (W : World) (hW : Below V.heap.size V W) => (hw.at BV).at hW)
  have HF := hid hf
  have HX := hid (show ∀ X, Below V.heap.size V X → X.cell? ⟨w.heap.size, 0, none⟩ = some (.int .i64 e.kind) ∧ X.cell? ⟨w.heap.size, 1, none⟩ = some (.string (text e.s)) ∧ X.cell? ⟨w.heap.size, 2, none⟩ = some (.slice ao an ac) ∧ X.cell? ⟨w.heap.size, 3, none⟩ = some (.slice po pn pc) from fun X hX => box_cells ((hX.block _ (lt_of_some P2)).trans P2))
  unfold exV at CK FR DP CN ⊢
  clear hw h BV P2 hE hf wf1
  go_enter Tryz.func8, Tryz.ntmps8
  go_wp2_with fail
  refine (AL.out _ (b0 V)).mono ?_
  rintro r w1 ⟨rfl, hb1⟩
  obtain ⟨a0, a1, a2, a3⟩ := HX.out _ hb1
  have mk := Exs.made (w := w1) [(e, .slice ao an ac, .slice po pn pc)] (by
    intro x hx
    simp only [List.mem_cons, List.not_mem_nil, or_false] at hx
    subst hx
    exact HE.out.later hb1) (by simp)
  have BL := ba (b0 w1) (.cells ([(e, Value.slice ao an ac, Value.slice po pn pc)].flatMap ecells).toArray 25)
  have GR := hid (Great_any _ _ _ mk (by
    intro x hx
    simp only [List.map_cons, List.map_nil, List.mem_cons, List.not_mem_nil, or_false] at hx
    subst hx
    omega))
  have HB1 := hid hb1
  have HBL := hid BL
  simp only [List.flatMap_cons, List.flatMap_nil, ecells, List.cons_append, List.nil_append, List.append_nil, List.length_cons, List.length_nil] at GR HBL
  clear hb1 mk BL hV
  go_wp2_with fail
  refine GR.out.mono ?_
  rintro r w2 ⟨n, rfl, hn, hsm, hb2⟩
  have HB2 := hid (bt HB1.out (bt HBL.out hb2))
  have HSM := hid hsm
  clear hb2 hsm a0 a1 a2 a3 GR HBL HB1
  rcases hn with rfl | rfl
  case inr =>
    go_wp2_with fail
    refine (AL.out _ HB2.out).mono ?_
    rintro r w3 ⟨rfl, hb3⟩
    have HB3 := hid (bt HBV.out (bt HB2.out hb3))
    clear hb3
    go_wp2
    go_ret
    exact ⟨rfl, HB3.out⟩
  obtain ⟨a0, a1, a2, a3⟩ := HX.out _ HB2.out
  go_wp2_with fail
  refine (CK.out _ HB2.out).mono ?_
  rintro r w3 ⟨rfl, hb3⟩
  have HB3 := hid (bt HB2.out hb3)
  clear hb3 a0 a1 a2 a3
  by_cases hc : checkV e = 0
  case neg =>
    have hcb : (checkV e == 0) = false := by rw [beq_eq_false_iff_ne]; exact hc
    have hcb2 : (checkV e != 0) = true := by rw [bne_iff_ne]; exact hc
    clear hc
    go_wp2_with fail
    refine (AL.out _ HB3.out).mono ?_
    rintro r w4 ⟨rfl, hb4⟩
    have HB4 := hid (bt HBV.out (bt HB3.out hb4))
    clear hb4
    go_wp2
    go_ret
    exact ⟨rfl, HB4.out⟩
  rw [hc]
  have HC := hid hc
  clear hc
  obtain ⟨a0, a1, a2, a3⟩ := HX.out _ HB3.out
  by_cases hk : e.kind = 19
  case pos =>
    have hkb : (e.kind == 19) = true := by rw [beq_iff_eq]; exact hk
    clear hk
    go_wp2_with fail
    refine (AL.out _ HB3.out).mono ?_
    rintro r w9 ⟨rfl, hb9⟩
    have HB9 := hid (bt HBV.out (bt HB3.out hb9))
    clear hb9
    go_wp2
    go_ret
    exact ⟨rfl, HB9.out⟩
  have hkb : (e.kind == 19) = false := by rw [beq_eq_false_iff_ne]; exact hk
  have HK := hid hk
  clear hk
  go_wp2_with fail
  refine (DP.out _ HB3.out).mono ?_
  rintro r w4 ⟨rfl, hb4⟩
  have HB4 := hid (bt HB3.out hb4)
  clear hb4 a0 a1 a2 a3
  by_cases hd : 100 < e.depth
  case pos =>
    have hdi : (100 : Int) < (e.depth : Int) := by omega
    go_wp2_with fail
    refine (AL.out _ HB4.out).mono ?_
    rintro r w9 ⟨rfl, hb9⟩
    have HB9 := hid (bt HBV.out (bt HB4.out hb9))
    clear hb9
    go_wp2
    go_ret
    exact ⟨rfl, HB9.out⟩
  have hdb : decide (100 < e.depth) = false := decide_eq_false hd
  have hdb2 : decide ((100 : Int) < (e.depth : Int)) = false := decide_eq_false (by omega)
  have HD := hid (show e.depth ≤ 100 by omega)
  have hse := (show ∀ x ∈ [e], Small x from by simpa using HSM.out) e (by simp)
  have HME := hid hse.mass
  clear hd hse HSM
  obtain ⟨a0, a1, a2, a3⟩ := HX.out _ HB4.out
  go_upto_region 3 with fail
  go_cut [5] from 34 to 41 (fun p X => ∃ tb ob op, p = .pointer (some ⟨tb, 0, none⟩) ∧ op ∈ tests ∧ Hid (Below w4.heap.size w4 X) ∧ Hid (X.heap[tb]? = some (.cells #[.int .i64 19, .string (text op), .slice none 0 0, .slice (some ⟨ob, 0, none⟩) 1 1] 25)) ∧ Hid (Exs X (.slice (some ⟨ob, 0, none⟩) 1 1) [e]))
  case first =>
    have HE4 := hid (HE.out.later HB4.out)
    have hlt : w.heap.size < w4.heap.size := Nat.lt_of_lt_of_le (lt_of_some HP2.out) HB4.out.size
    have hlt2 : w.heap.size < w4.heap.size + 1 := by omega
    have hlt3 : w.heap.size < w4.heap.size + 1 + 1 := by omega
    obtain rfl | rfl | rfl | rfl : q = 0 ∨ q = 1 ∨ q = 2 ∨ q = 3 := by omega
    · go_region
      all_goals go_wp2_with fail
      all_goals go_meet
      all_goals first
        | exact tail_made (op := [60]) HE4.out (by decide) (bdrewB (ba (ba (ba (b0 w4) _) _) _) 1) (three_heap _ _ _ _).1 (three_heap _ _ _ _).2.1
        | exact tail_made (op := [60]) HE4.out (by decide) (bdrewB (ba (ba (ba (b0 w4) _) _) _) 1) (three_heap _ _ _ _).1 (three_heap _ _ _ _).2.2
        | exact tail_made (op := [60]) HE4.out (by decide) (bdrewB (ba (ba (ba (b0 w4) _) _) _) 1) (three_heap _ _ _ _).2.1 (three_heap _ _ _ _).1
        | exact tail_made (op := [60]) HE4.out (by decide) (bdrewB (ba (ba (ba (b0 w4) _) _) _) 1) (three_heap _ _ _ _).2.1 (three_heap _ _ _ _).2.2
        | exact tail_made (op := [60]) HE4.out (by decide) (bdrewB (ba (ba (ba (b0 w4) _) _) _) 1) (three_heap _ _ _ _).2.2 (three_heap _ _ _ _).1
        | exact tail_made (op := [60]) HE4.out (by decide) (bdrewB (ba (ba (ba (b0 w4) _) _) _) 1) (three_heap _ _ _ _).2.2 (three_heap _ _ _ _).2.1
    · go_region
      all_goals go_wp2_with fail
      all_goals go_meet
      all_goals first
        | exact tail_made (op := [60, 61]) HE4.out (by decide) (bdrewB (ba (ba (ba (b0 w4) _) _) _) 1) (three_heap _ _ _ _).1 (three_heap _ _ _ _).2.1
        | exact tail_made (op := [60, 61]) HE4.out (by decide) (bdrewB (ba (ba (ba (b0 w4) _) _) _) 1) (three_heap _ _ _ _).1 (three_heap _ _ _ _).2.2
        | exact tail_made (op := [60, 61]) HE4.out (by decide) (bdrewB (ba (ba (ba (b0 w4) _) _) _) 1) (three_heap _ _ _ _).2.1 (three_heap _ _ _ _).1
        | exact tail_made (op := [60, 61]) HE4.out (by decide) (bdrewB (ba (ba (ba (b0 w4) _) _) _) 1) (three_heap _ _ _ _).2.1 (three_heap _ _ _ _).2.2
        | exact tail_made (op := [60, 61]) HE4.out (by decide) (bdrewB (ba (ba (ba (b0 w4) _) _) _) 1) (three_heap _ _ _ _).2.2 (three_heap _ _ _ _).1
        | exact tail_made (op := [60, 61]) HE4.out (by decide) (bdrewB (ba (ba (ba (b0 w4) _) _) _) 1) (three_heap _ _ _ _).2.2 (three_heap _ _ _ _).2.1
    · go_region
      all_goals go_wp2_with fail
      all_goals go_meet
      all_goals first
        | exact tail_made (op := [62]) HE4.out (by decide) (bdrewB (ba (ba (ba (b0 w4) _) _) _) 1) (three_heap _ _ _ _).1 (three_heap _ _ _ _).2.1
        | exact tail_made (op := [62]) HE4.out (by decide) (bdrewB (ba (ba (ba (b0 w4) _) _) _) 1) (three_heap _ _ _ _).1 (three_heap _ _ _ _).2.2
        | exact tail_made (op := [62]) HE4.out (by decide) (bdrewB (ba (ba (ba (b0 w4) _) _) _) 1) (three_heap _ _ _ _).2.1 (three_heap _ _ _ _).1
        | exact tail_made (op := [62]) HE4.out (by decide) (bdrewB (ba (ba (ba (b0 w4) _) _) _) 1) (three_heap _ _ _ _).2.1 (three_heap _ _ _ _).2.2
        | exact tail_made (op := [62]) HE4.out (by decide) (bdrewB (ba (ba (ba (b0 w4) _) _) _) 1) (three_heap _ _ _ _).2.2 (three_heap _ _ _ _).1
        | exact tail_made (op := [62]) HE4.out (by decide) (bdrewB (ba (ba (ba (b0 w4) _) _) _) 1) (three_heap _ _ _ _).2.2 (three_heap _ _ _ _).2.1
    · go_region
      all_goals go_wp2_with fail
      all_goals go_meet
      all_goals first
        | exact tail_made (op := [62, 61]) HE4.out (by decide) (bdrewB (ba (ba (ba (b0 w4) _) _) _) 1) (three_heap _ _ _ _).1 (three_heap _ _ _ _).2.1
        | exact tail_made (op := [62, 61]) HE4.out (by decide) (bdrewB (ba (ba (ba (b0 w4) _) _) _) 1) (three_heap _ _ _ _).1 (three_heap _ _ _ _).2.2
        | exact tail_made (op := [62, 61]) HE4.out (by decide) (bdrewB (ba (ba (ba (b0 w4) _) _) _) 1) (three_heap _ _ _ _).2.1 (three_heap _ _ _ _).1
        | exact tail_made (op := [62, 61]) HE4.out (by decide) (bdrewB (ba (ba (ba (b0 w4) _) _) _) 1) (three_heap _ _ _ _).2.1 (three_heap _ _ _ _).2.2
        | exact tail_made (op := [62, 61]) HE4.out (by decide) (bdrewB (ba (ba (ba (b0 w4) _) _) _) 1) (three_heap _ _ _ _).2.2 (three_heap _ _ _ _).1
        | exact tail_made (op := [62, 61]) HE4.out (by decide) (bdrewB (ba (ba (ba (b0 w4) _) _) _) 1) (three_heap _ _ _ _).2.2 (three_heap _ _ _ _).2.1
  case rest =>
    obtain ⟨tb, ob, op, rfl, hop, HBC, HPT, HXT⟩ := hcut
    have hdep := HD.out
    have hms := HME.out
    have hks := HK.out
    have hck := HC.out
    have HL17 := hid (five_17 hck hks hdep hop)
    have HLF := hid (five_fit (op := op) HF.out)
    have HLM := hid (five_mass hop hms)
    have hlo := tests_len hop
    have HT0 := hid (t_0 hck hks hdep hop)
    have HI0 := hid (in_0 hck hks hdep hop)
    have HIF := hid (in_free (x := e) hdep (by omega) hop)
    have HIS := hid (in_size (x := e) (s := op))
    have iT : ∀ Z, Below wc.heap.size wc Z → IsE Z (tE op e) (.slice none 0 0) (.slice (some ⟨ob, 0, none⟩) 1 1) := fun Z hZ => (IsE.mk0 19 op HXT.out).later hZ
    have iX : ∀ Z, Below wc.heap.size wc Z → IsE Z e (.slice ao an ac) (.slice po pn pc) := fun Z hZ => HE.out.later (bt HB4.out (bt HBC.out hZ))
    have cX : ∀ Z, Below wc.heap.size wc Z → Z.heap[w.heap.size]? = some (.cells #[.int .i64 e.kind, .string (text e.s), .slice ao an ac, .slice po pn pc] 25) := fun Z hZ => ((bt HB4.out (bt HBC.out hZ)).block _ (lt_of_some HP2.out)).trans HP2.out
    have cT : ∀ Z, Below wc.heap.size wc Z → Z.heap[tb]? = some (.cells #[.int .i64 19, .string (text op), .slice none 0 0, .slice (some ⟨ob, 0, none⟩) 1 1] 25) := fun Z hZ => (hZ.block _ (lt_of_some HPT.out)).trans HPT.out
    have b0c := b0 wc
    obtain ⟨X1, hX1⟩ : ∃ X, wc.alloc (.cells #[.int .i64 e.kind, .string (text e.s), .slice ao an ac, .slice po pn pc, .int .i64 19, .string (text op), .slice none 0 0, .slice (some ⟨ob, 0, none⟩) 1 1] 25) = X := ⟨_, rfl⟩
    have cX1 : Below wc.heap.size wc X1 := hX1 ▸ ba (b0 wc) _
    have m1 : Exs X1 (.slice (some ⟨wc.heap.size, 0, none⟩) 2 2) [e, tE op e] := hX1 ▸ Exs.two (iX wc b0c) (iT wc b0c)
    have d1 := cX1
    obtain ⟨X2, hX2⟩ : ∃ X, X1.alloc (.cells #[.int .i64 7, .string ⟨#[]⟩, .slice none 0 0, .slice (some ⟨wc.heap.size, 0, none⟩) 2 2] 25) = X := ⟨_, rfl⟩
    have cX2 : Below X1.heap.size X1 X2 := hX2 ▸ ba (b0 X1) _
    have d2 := bt d1 cX2
    have pIN : X2.heap[X1.heap.size]? = some (.cells #[.int .i64 7, .string ⟨#[]⟩, .slice none 0 0, .slice (some ⟨wc.heap.size, 0, none⟩) 2 2] 25) := hX2 ▸ heap_alloc_new X1 _
    obtain ⟨X3, hX3⟩ : ∃ X, X2.alloc (.cells #[.int .i64 19, .string (text op), .slice none 0 0, .slice (some ⟨ob, 0, none⟩) 1 1, .int .i64 e.kind, .string (text e.s), .slice ao an ac, .slice po pn pc] 25) = X := ⟨_, rfl⟩
    have cX3 : Below X2.heap.size X2 X3 := hX3 ▸ ba (b0 X2) _
    have m3 : Exs X3 (.slice (some ⟨X2.heap.size, 0, none⟩) 2 2) [tE op e, e] := hX3 ▸ Exs.two (iT X2 d2) (iX X2 d2)
    have d3 := bt d2 cX3
    obtain ⟨X4, hX4⟩ : ∃ X, X3.alloc (.cells #[.int .i64 7, .string ⟨#[]⟩, .slice none 0 0, .slice (some ⟨X2.heap.size, 0, none⟩) 2 2] 25) = X := ⟨_, rfl⟩
    have cX4 : Below X3.heap.size X3 X4 := hX4 ▸ ba (b0 X3) _
    have d4 := bt d3 cX4
    have pOUT : X4.heap[X3.heap.size]? = some (.cells #[.int .i64 7, .string ⟨#[]⟩, .slice none 0 0, .slice (some ⟨X2.heap.size, 0, none⟩) 2 2] 25) := hX4 ▸ heap_alloc_new X3 _
    obtain ⟨X5, hX5⟩ : ∃ X, X4.alloc (.cells #[.int .i64 19, .string (text op), .slice none 0 0, .slice (some ⟨ob, 0, none⟩) 1 1] 25) = X := ⟨_, rfl⟩
    have cX5 : Below X4.heap.size X4 X5 := hX5 ▸ ba (b0 X4) _
    have m5 : Exs X5 (.slice (some ⟨X4.heap.size, 0, none⟩) 1 1) [tE op e] := hX5 ▸ Exs.one1 (iT X4 d4)
    have d5 := bt d4 cX5
    obtain ⟨X6, hX6⟩ : ∃ X, X5.alloc (.cells #[.int .i64 e.kind, .string (text e.s), .slice ao an ac, .slice po pn pc, .int .i64 19, .string (text op), .slice none 0 0, .slice (some ⟨ob, 0, none⟩) 1 1] 25) = X := ⟨_, rfl⟩
    have cX6 : Below X5.heap.size X5 X6 := hX6 ▸ ba (b0 X5) _
    have m6 : Exs X6 (.slice (some ⟨X5.heap.size, 0, none⟩) 2 2) [e, tE op e] := hX6 ▸ Exs.two (iX X5 d5) (iT X5 d5)
    have d6 := bt d5 cX6
    obtain ⟨X7, hX7⟩ : ∃ X, X6.alloc (.cells #[.int .i64 19, .string (text op), .slice none 0 0, .slice (some ⟨ob, 0, none⟩) 1 1] 25) = X := ⟨_, rfl⟩
    have cX7 : Below X6.heap.size X6 X7 := hX7 ▸ ba (b0 X6) _
    have m7 : Exs X7 (.slice (some ⟨X6.heap.size, 0, none⟩) 1 1) [tE op e] := hX7 ▸ Exs.one1 (iT X6 d6)
    have d7 := bt d6 cX7
    obtain ⟨X8, hX8⟩ : ∃ X, X7.alloc (.cells #[.int .i64 19, .string (text op), .slice none 0 0, .slice (some ⟨ob, 0, none⟩) 1 1] 25) = X := ⟨_, rfl⟩
    have cX8 : Below X7.heap.size X7 X8 := hX8 ▸ ba (b0 X7) _
    have m8 : Exs X8 (.slice (some ⟨X7.heap.size, 0, none⟩) 1 1) [tE op e] := hX8 ▸ Exs.one1 (iT X7 d7)
    have d8 := bt d7 cX8
    obtain ⟨X9, hX9⟩ : ∃ X, X8.alloc (.cells #[.int .i64 e.kind, .string (text e.s), .slice ao an ac, .slice po pn pc, .int .i64 16, .string ⟨#[]⟩, .slice none 0 0, .slice (some ⟨X7.heap.size, 0, none⟩) 1 1] 25) = X := ⟨_, rfl⟩
    have cX9 : Below X8.heap.size X8 X9 := hX9 ▸ ba (b0 X8) _
    have m9 : Exs X9 (.slice (some ⟨X8.heap.size, 0, none⟩) 2 2) [e, .mk 16 [] [] [tE op e]] := hX9 ▸ Exs.two (iX X8 d8) (IsE.mk0 16 [] m8)
    have d9 := bt d8 cX9
    obtain ⟨XA, hXA⟩ : ∃ X, X9.alloc (.cells #[.int .i64 7, .string ⟨#[]⟩, .slice none 0 0, .slice (some ⟨X2.heap.size, 0, none⟩) 2 2, .int .i64 4, .string ⟨#[]⟩, .slice none 0 0, .slice (some ⟨X4.heap.size, 0, none⟩) 1 1, .int .i64 16, .string ⟨#[]⟩, .slice none 0 0, .slice (some ⟨X5.heap.size, 0, none⟩) 2 2, .int .i64 19, .string ⟨#[60]⟩, .slice none 0 0, .slice (some ⟨X6.heap.size, 0, none⟩) 1 1, .int .i64 7, .string ⟨#[]⟩, .slice none 0 0, .slice (some ⟨X8.heap.size, 0, none⟩) 2 2] 25) = X := ⟨_, rfl⟩
    have cXA : Below X9.heap.size X9 XA := hXA ▸ ba (b0 X9) _
    have mA : Exs XA (.slice (some ⟨X9.heap.size, 0, none⟩) 5 5) (fiveE op e) := by
      rw [← hXA]
      exact Exs.made [(.mk 7 [] [] [tE op e, e], .slice none 0 0, .slice (some ⟨X2.heap.size, 0, none⟩) 2 2), (.mk 4 [] [] [tE op e], .slice none 0 0, .slice (some ⟨X4.heap.size, 0, none⟩) 1 1), (.mk 16 [] [] [e, tE op e], .slice none 0 0, .slice (some ⟨X5.heap.size, 0, none⟩) 2 2), (.mk 19 [60] [] [tE op e], .slice none 0 0, .slice (some ⟨X6.heap.size, 0, none⟩) 1 1), (.mk 7 [] [] [e, .mk 16 [] [] [tE op e]], .slice none 0 0, .slice (some ⟨X8.heap.size, 0, none⟩) 2 2)] (by
        intro x hx
        simp only [List.mem_cons, List.not_mem_nil, or_false] at hx
        rcases hx with rfl | rfl | rfl | rfl | rfl
        · exact IsE.mk0 7 [] (m3.later (bt cX4 (bt cX5 (bt cX6 (bt cX7 (bt cX8 cX9))))))
        · exact IsE.mk0 4 [] (m5.later (bt cX6 (bt cX7 (bt cX8 cX9))))
        · exact IsE.mk0 16 [] (m6.later (bt cX7 (bt cX8 cX9)))
        · exact IsE.mk0 19 [60] (m7.later (bt cX8 cX9))
        · exact IsE.mk0 7 [] m9) (by simp)
    have dA := bt d9 cXA
    obtain ⟨x10, x11, x12, x13⟩ := box_cells (cX wc b0c)
    obtain ⟨x20, x21, x22, x23⟩ := box_cells (cT wc b0c)
    obtain ⟨x30, x31, x32, x33⟩ := box_cells (cX X2 d2)
    obtain ⟨x40, x41, x42, x43⟩ := box_cells (cT X2 d2)
    have x50 : X4.cell? ⟨X3.heap.size, 0, none⟩ = some (.int .i64 7) := by rw [Lib.cell_of_heap pOUT]; rfl
    have x51 : X4.cell? ⟨X3.heap.size, 1, none⟩ = some (.string ⟨#[]⟩) := by rw [Lib.cell_of_heap pOUT]; rfl
    have x52 : X4.cell? ⟨X3.heap.size, 2, none⟩ = some (.slice none 0 0) := by rw [Lib.cell_of_heap pOUT]; rfl
    have x53 : X4.cell? ⟨X3.heap.size, 3, none⟩ = some (.slice (some ⟨X2.heap.size, 0, none⟩) 2 2) := by rw [Lib.cell_of_heap pOUT]; rfl
    obtain ⟨x60, x61, x62, x63⟩ := box_cells (cT X4 d4)
    obtain ⟨x70, x71, x72, x73⟩ := box_cells (cX X5 d5)
    obtain ⟨x80, x81, x82, x83⟩ := box_cells (cT X5 d5)
    obtain ⟨x90, x91, x92, x93⟩ := box_cells (cT X6 d6)
    obtain ⟨x100, x101, x102, x103⟩ := box_cells (cX X7 d7)
    obtain ⟨x110, x111, x112, x113⟩ := box_cells (cT X7 d7)
    have HMA := hid mA
    have HDA := hid dA
    have HCX := hid cX
    have HCT := hid cT
    have HIT := hid iT
    have HIX := hid iX
    have HM1 := hid m1
    have HPI := hid pIN
    have HB2A := hid (bt cX3 (bt cX4 (bt cX5 (bt cX6 (bt cX7 (bt cX8 (bt cX9 cXA)))))))
    have HB12 := hid cX2
    clear mA dA cX cT iT iX m1 pIN pOUT m3 m5 m6 m7 m8 m9 d1 d2 d3 d4 d5 d6 d7 d8 d9 cX1 cX2 cX3 cX4 cX5 cX6 cX7 cX8 cX9 cXA hlo hck hks hms hdep
    go_wp2_with fail
    clear x10 x11 x12 x13 x20 x21 x22 x23 x30 x31 x32 x33 x40 x41 x42 x43 x50 x51 x52 x53 x60 x61 x62 x63 x70 x71 x72 x73 x80 x81 x82 x83 x90 x91 x92 x93 x100 x101 x102 x103 x110 x111 x112 x113 a0 a1 a2 a3 hX1 hX2 hX3 hX4 hX5 hX6 hX7 hX8 hX9 hXA
    have HFA := hid (fun (W : World) (hW : Below wc.heap.size wc W) => HW.out W (bt HB4.out (bt HBC.out hW)))
    go_loopg [69] 5 (fun gk iv X => ∃ i : Nat, iv = .int .i64 i ∧ i + gk = 5 ∧ Hid (Below XA.heap.size XA X))
    case atStart => exact ⟨0, rfl, by omega, hid (b0 XA)⟩
    case round =>
      rename World => X
      obtain ⟨i, rfl, hig, HBX⟩ := hrel
      by_cases hi : i < 5
      · have hi5 : i < (fiveE op e).length := hi
        obtain ⟨bk, ok, nv1, pv1, ix, e0, e1, e2, e3, is1⟩ := (HMA.out.later HBX.out).at i hi5
        have h17 := HL17.out _ (List.getElem_mem hi5)
        have hff := HLF.out _ (List.getElem_mem hi5)
        have hmm := HLM.out _ (List.getElem_mem hi5)
        have ix' := ix .i64
        generalize (fiveE op e)[i] = y at *
        obtain ⟨xn, xp⟩ := is1.parts
        obtain ⟨xo, xl, xc, rfl⟩ := Strs.form xn
        obtain ⟨yo, yl, yc, rfl⟩ := xp.form
        have BY := ba (b0 X) (.cells #[.int .i64 y.kind, .string (text y.s), .slice xo xl xc, .slice yo yl yc] 25)
        have CKy := hid (Check_any y xo xl xc yo yl yc _ (HFA.out _ (bt HDA.out (bt HBX.out BY))) (is1.later BY) hff hmm)
        rw [h17] at CKy
        have HBY := hid BY
        unfold exV at CKy
        clear ix is1 BY xn xp h17 hff hmm
        go_wp2_with fail
        refine CKy.out.mono ?_
        rintro r w5 ⟨rfl, hb5⟩
        have HB5 := hid (bt HBX.out (bt HBY.out hb5))
        clear hb5 e0 e1 e2 e3
        go_wp2
        go_roundg (gk - 1)
        case measure => omega
        case rel => exact ⟨i + 1, by go_num, by omega, HB5⟩
      · have HZ := hid (bt HDA.out HBX.out)
        have hmt : (tE op e).mass ≤ 2000000 ∧ (Ex.mk 7 [] [] [e, tE op e]).mass ≤ 2000000 ∧ (tE op e).size ≤ 2000000 := by
          have h1 := HME.out
          have h2 := tests_len hop
          have h3 := size_mass (tE op e)
          have h4 : (tE op e).mass ≤ 2000000 := by simp [tE, Ex.mass, massL, namesMass]; omega
          refine ⟨h4, ?_, by omega⟩
          simp [tE, Ex.mass, massL, namesMass]; omega
        have iIN : ∀ W, Below X.heap.size X W → IsE W (.mk 7 [] [] [e, tE op e]) (.slice none 0 0) (.slice (some ⟨wc.heap.size, 0, none⟩) 2 2) := fun W hW => IsE.mk0 7 [] (HM1.out.later (bt HB12.out (bt HB2A.out (bt HBX.out hW))))
        have fT := tE_fit (op := op) HF.out
        have CT := hid (fun (W : World) (hW : Below X.heap.size X W) => Check_any (tE op e) none 0 0 (some ⟨ob, 0, none⟩) 1 1 W (HFA.out W (bt HZ.out hW)) (HIT.out W (bt HZ.out hW)) fT hmt.1)
        have CI := hid (fun (W : World) (hW : Below X.heap.size X W) => Check_any (.mk 7 [] [] [e, tE op e]) none 0 0 (some ⟨wc.heap.size, 0, none⟩) 2 2 W (HFA.out W (bt HZ.out hW)) (iIN W hW) ⟨by decide, HF.out, fT, trivial⟩ hmt.2.1)
        simp only [show checkV (tE op e) = 0 from HT0.out] at CT
        simp only [show checkV (.mk 7 [] [] [e, tE op e]) = 0 from HI0.out] at CI
        have FI := hid (fun (W : World) (hW : Below X.heap.size X W) => Free_any (.mk 7 [] [] [e, tE op e]) none 0 0 (some ⟨wc.heap.size, 0, none⟩) 2 2 W (iIN W hW) hmt.2.1)
        simp only [show freeV (.mk 7 [] [] [e, tE op e]) = freeV e from HIF.out] at FI
        have FX := hid (fun (W : World) (hW : Below X.heap.size X W) => FR.out W (bt HB4.out (bt HBC.out (bt HZ.out hW))))
        have NI := hid (fun (W : World) (hW : Below X.heap.size X W) => Count_any (.mk 7 [] [] [e, tE op e]) none 0 0 (some ⟨wc.heap.size, 0, none⟩) 2 2 W (iIN W hW) (by have := size_mass (Ex.mk 7 [] [] [e, tE op e]); omega))
        have hsi : (((Ex.mk 7 [] [] [e, tE op e]).size : Nat) : Int) = 2 * (e.size : Int) + 2 := by have := HIS.out; unfold tE; omega
        simp only [hsi] at NI
        have NX := hid (fun (W : World) (hW : Below X.heap.size X W) => CN.out W (bt HB4.out (bt HBC.out (bt HZ.out hW))))
        have SM := hid (fun (W : World) (v1 v2 : Value) (h1 : Strs W v1 (freeV e)) (h2 : Strs W v2 (freeV e)) => (same_any v1 v2 (freeV e) (freeV e) W h1 h2).mono (R' := fun r w' => r = .returned (.bool true) ∧ Below W.heap.size W w') (by
          rintro r w' ⟨rfl, hb⟩
          exact ⟨by rw [decide_eq_true rfl], hb⟩))
        have HS := hid (show ∀ Z, Below X.heap.size X Z → (Below X.heap.size X Z ∧ Z.cell? ⟨w.heap.size, 0, none⟩ = some (.int .i64 e.kind) ∧ Z.cell? ⟨w.heap.size, 1, none⟩ = some (.string (text e.s)) ∧ Z.cell? ⟨w.heap.size, 2, none⟩ = some (.slice ao an ac) ∧ Z.cell? ⟨w.heap.size, 3, none⟩ = some (.slice po pn pc) ∧ Z.cell? ⟨tb, 0, none⟩ = some (.int .i64 19) ∧ Z.cell? ⟨tb, 1, none⟩ = some (.string (text op)) ∧ Z.cell? ⟨tb, 2, none⟩ = some (.slice none 0 0) ∧ Z.cell? ⟨tb, 3, none⟩ = some (.slice (some ⟨ob, 0, none⟩) 1 1) ∧ Z.cell? ⟨X1.heap.size, 0, none⟩ = some (.int .i64 7) ∧ Z.cell? ⟨X1.heap.size, 1, none⟩ = some (.string (text [])) ∧ Z.cell? ⟨X1.heap.size, 2, none⟩ = some (.slice none 0 0) ∧ Z.cell? ⟨X1.heap.size, 3, none⟩ = some (.slice (some ⟨wc.heap.size, 0, none⟩) 2 2)) from fun Z hZ => by
          obtain ⟨a0, a1, a2, a3⟩ := box_cells (HCX.out Z (bt HZ.out hZ))
          obtain ⟨b0, b1, b2, b3⟩ := box_cells (HCT.out Z (bt HZ.out hZ))
          have pz := (((bt HB2A.out (bt HBX.out hZ)).block _ (lt_of_some HPI.out)).trans HPI.out)
          exact ⟨hZ, a0, a1, a2, a3, b0, b1, b2, b3, by rw [Lib.cell_of_heap pz]; rfl, by rw [Lib.cell_of_heap pz]; rfl, by rw [Lib.cell_of_heap pz]; rfl, by rw [Lib.cell_of_heap pz]; rfl⟩)
        have HS0 := HS.out X.drew (bdrew X 1)
        have hw1 : IntKind.i64.wrap (2 * (e.size : Int)) = 2 * (e.size : Int) := wrap_ok (by omega) (by omega)
        have hw2 : IntKind.i64.wrap (2 * (e.size : Int) + 2) = 2 * (e.size : Int) + 2 := wrap_ok (by omega) (by omega)
        have HEND := hid (bt HBV.out (bt HB4.out (bt HBC.out HZ.out)))
        unfold exV at CT CI FI FX NI NX
        simp only [tE, Ex.kind, Ex.s] at CT CI FI NI
        clear hmt iIN fT hsi HIT HIX HCX HCT HM1 HPI HB2A HB12 HMA HDA HL17 HLF HLM HT0 HI0 HIF HIS HFA HXT HPT
        clear HE HP2 HW HF HX AL CK FR DP CN hkb hdb hdb2
        go_wp2_with fail
        go_region_held3 (fun X_ => (Below X.heap.size X X_ ∧ X_.cell? ⟨w.heap.size, 0, none⟩ = some (.int .i64 e.kind) ∧ X_.cell? ⟨w.heap.size, 1, none⟩ = some (.string (text e.s)) ∧ X_.cell? ⟨w.heap.size, 2, none⟩ = some (.slice ao an ac) ∧ X_.cell? ⟨w.heap.size, 3, none⟩ = some (.slice po pn pc) ∧ X_.cell? ⟨tb, 0, none⟩ = some (.int .i64 19) ∧ X_.cell? ⟨tb, 1, none⟩ = some (.string (text op)) ∧ X_.cell? ⟨tb, 2, none⟩ = some (.slice none 0 0) ∧ X_.cell? ⟨tb, 3, none⟩ = some (.slice (some ⟨ob, 0, none⟩) 1 1) ∧ X_.cell? ⟨X1.heap.size, 0, none⟩ = some (.int .i64 7) ∧ X_.cell? ⟨X1.heap.size, 1, none⟩ = some (.string (text [])) ∧ X_.cell? ⟨X1.heap.size, 2, none⟩ = some (.slice none 0 0) ∧ X_.cell? ⟨X1.heap.size, 3, none⟩ = some (.slice (some ⟨wc.heap.size, 0, none⟩) 2 2))) (first | exact HSx | exact HS0) (first
          | (go_at_call 21
             with_reducible refine (CT.out _ ?_).mono ?_
             (first | exact HSx.1 | exact HS0.1)
             rintro ev wx ⟨rfl, hb⟩
             first | have HSx := HS.out _ (bt HSx.1 hb) | have HSx := HS.out _ (bt HS0.1 hb))
          | (go_at_call 21
             with_reducible refine (CI.out _ ?_).mono ?_
             (first | exact HSx.1 | exact HS0.1)
             rintro ev wx ⟨rfl, hb⟩
             first | have HSx := HS.out _ (bt HSx.1 hb) | have HSx := HS.out _ (bt HS0.1 hb))
          | (go_at_call 17
             with_reducible refine (FI.out _ ?_).mono ?_
             (first | exact HSx.1 | exact HS0.1)
             rintro ev wx ⟨vi, rfl, hvi, hb⟩
             have HVI := hid hvi
             clear hvi
             first | have HSx := HS.out _ (bt HSx.1 hb) | have HSx := HS.out _ (bt HS0.1 hb))
          | (go_at_call 17
             with_reducible refine (FX.out _ ?_).mono ?_
             (first | exact HSx.1 | exact HS0.1)
             rintro ev wx ⟨vx, rfl, hvx, hb⟩
             have HVX := hid hvx
             have HVJ := hid (HVI.out.below hb (Nat.le_refl _))
             clear hvx
             first | have HSx := HS.out _ (bt HSx.1 hb) | have HSx := HS.out _ (bt HS0.1 hb))
          | (go_at_call 16
             refine (SM.out _ _ _ HVJ.out HVX.out).mono ?_
             rintro ev wx ⟨rfl, hb⟩
             first | have HSx := HS.out _ (bt HSx.1 hb) | have HSx := HS.out _ (bt HS0.1 hb))
          | (go_at_call 24
             with_reducible refine (NI.out _ ?_).mono ?_
             (first | exact HSx.1 | exact HS0.1)
             rintro ev wx ⟨rfl, hb⟩
             first | have HSx := HS.out _ (bt HSx.1 hb) | have HSx := HS.out _ (bt HS0.1 hb))
          | (go_at_call 24
             with_reducible refine (NX.out _ ?_).mono ?_
             (first | exact HSx.1 | exact HS0.1)
             rintro ev wx ⟨rfl, hb⟩
             first | have HSx := HS.out _ (bt HSx.1 hb) | have HSx := HS.out _ (bt HS0.1 hb)))
        all_goals go_wp2
        all_goals go_ret
        all_goals exact ⟨rfl, bt HEND.out HSx.1⟩
end Go.Proofs.YtlhhjocfbafoeaaGreatDoor.Xp
