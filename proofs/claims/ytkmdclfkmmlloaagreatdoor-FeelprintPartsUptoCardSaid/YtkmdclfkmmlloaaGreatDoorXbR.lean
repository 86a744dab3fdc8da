/- Layer 11: contracts of write, Print, Bare. | Layer 11: contracts of the closures that make expressions. | Layer 11: the document's examples. | Layer 11: contract of the statements' plain: tokens without parentheses. | Layer 11: walk of FeelprintLexes. | Layer 11: contracts of the statements' index and counts. | Layer 11: contract of the statements' signs: how many brackets there are. -/
import Derived.Test.YtkmdclfkmmlloaaGreatDoorXbP
import Derived.Test.YtkmdclfkmmlloaaGreatDoorXpE
import Derived.Test.YtkmdclfkmmlloaaGreatDoorXpG
import Derived.Test.YtkmdclfkmmlloaaGreatDoorXbG
import Derived.BigQuiet
set_option linter.unusedVariables false
set_option linter.unusedSimpArgs false
namespace Go.Proofs.YtkmdclfkmmlloaaGreatDoor.Fp
open Go Go.Proofs.YtkmdclfkmmlloaaGreatDoor Go.Proofs.YtkmdclfkmmlloaaGreatDoor.Xp Go.RowKit
set_option maxRecDepth 100000

theorem wriS : (Tryz.prog.info? 69).map (·.size) = some 23 := by kernel_rfl
theorem wcells_one (m : Int) : (wcells (.pointer none) (.slice none 0 0) m).toArray.all (·.oneCell') = true := by kernel_rfl
/-- What write answers. -/
def writeV (m : Nat) (e : Ex) : Value := .tuple #[.string (text (if checkV e = 0 then prV m e else [])), .int .i64 (checkV e)]
set_option maxHeartbeats 8000000 in
theorem write_any (e : Ex) (ao : Option Addr) (an ac : Nat) (po : Option Addr) (pn pc : Nat) (m : Nat) (hm : m ≤ 9) (w : World) (hw : Num.Fit w) (h : IsE w e (.slice ao an ac) (.slice po pn pc)) (hf : e.fit) (hms : e.mass ≤ 70000) :
    Calls Tryz.prog 24 #[exV e (.slice ao an ac) (.slice po pn pc), .int .i64 m] w fun r w' => r = .returned (writeV m e) ∧ Below w.heap.size w w' := by
  obtain ⟨V, hV⟩ : ∃ V, w.alloc (.cells #[.int .i64 e.kind, .string (text e.s), .slice ao an ac, .slice po pn pc] 25) = V := ⟨_, rfl⟩
  have hbV : Below w.heap.size w V := by rw [← hV]; exact ba (b0 w) _
  have hbk : V.heap[w.heap.size]? = some (.cells #[.int .i64 e.kind, .string (text e.s), .slice ao an ac, .slice po pn pc] 25) := by rw [← hV]; exact heap_alloc_new w _
  have hx : ExAt V w.heap.size 0 e (.slice ao an ac) (.slice po pn pc) := ⟨by rw [Lib.cell_of_heap hbk]; rfl, by rw [Lib.cell_of_heap hbk]; rfl, by rw [Lib.cell_of_heap hbk]; rfl, by rw [Lib.cell_of_heap hbk]; rfl, h.later hbV⟩
  have c0 := hx.c0
  have c1 := hx.c1
  have c2 := hx.c2
  have c3 := hx.c3
  simp only [Nat.zero_add] at c1 c2 c3
  have CK := hid (Check_any e ao an ac po pn pc V (hw.at hbV) (h.later hbV) hf (by omega))
  have HX := hid hx
  have HB := hid hbV
  have HR : Hid (checkV e = 0 → Rt e ∧ lng (flat m e) ≤ 2000000 ∧ prV m e ≠ []) := hid (fun hc => by
    have hr := Rt.check hc
    refine ⟨hr, hr.small m hms, fun hn => ?_⟩
    have := hr.pos m
    rw [lng_def] at this
    unfold prV at hn
    rw [hn] at this
    simp at this)
  have HV : Hid (writeV m e = .tuple #[.string (text (if checkV e = 0 then prV m e else [])), .int .i64 (checkV e)]) := hid rfl
  unfold exV at CK ⊢
  clear hx hbV hbk hms hf h hw
  generalize checkV e = ce at *
  go_enter Tryz.func24, Tryz.ntmps24
  go_wp2_with fail
  refine CK.out.mono ?_
  rintro r w1 ⟨rfl, hb1⟩
  have HB1 := hid hb1
  clear hb1 c0 c1 c2 c3
  by_cases hc : ce = 0
  · subst hc
    obtain ⟨hr, hlg, hne⟩ := HR.out rfl
    have HRT := hid hr
    have HLG := hid hlg
    have HNE := hid hne
    clear hr hlg hne
    go_wp2_with fail
    have KA := kinds_any w1
    unfold funs at KA
    refine KA.mono ?_
    rintro r w2 ⟨rfl, hb2⟩
    have HB2 := hid (HB1.out.trans (hb2.mono HB1.out.size))
    clear hb2 KA
    obtain ⟨V2, hV2⟩ : ∃ V2, w2.alloc (.cells #[.pointer none, .slice none 0 0, .int .i64 0, .nilFunc, .nilFunc, .nilFunc, .nilFunc, .nilFunc, .nilFunc, .nilFunc, .nilFunc, .nilFunc, .nilFunc, .nilFunc, .nilFunc, .nilFunc, .nilFunc, .nilFunc, .nilFunc, .nilFunc, .nilFunc, .nilFunc, .nilFunc] 69) = V2 := ⟨_, rfl⟩
    have hp : V2.heap[w2.heap.size]? = some (.cells #[.pointer none, .slice none 0 0, .int .i64 0, .nilFunc, .nilFunc, .nilFunc, .nilFunc, .nilFunc, .nilFunc, .nilFunc, .nilFunc, .nilFunc, .nilFunc, .nilFunc, .nilFunc, .nilFunc, .nilFunc, .nilFunc, .nilFunc, .nilFunc, .nilFunc, .nilFunc, .nilFunc] 69 (0, 0)) := by rw [← hV2]; exact heap_alloc_new w2 _
    have hb3 : Below w2.heap.size w2 V2 := by rw [← hV2]; exact ba (b0 w2) _
    have hz3 : w2.heap.size + 1 ≤ V2.heap.size := by rw [← hV2]; simp
    have HP := hid hp
    have HB3 := hid hb3
    have HZ3 := hid hz3
    clear hp hb3 hz3
    go_wp2_with (refine wpList_store_row rfl _ _ _ rfl w2.heap.size (wcells (.pointer none) (.slice none 0 0) m).toArray rfl rfl _ _ HP.out wriS rfl (wcells_one m) ?_)
    obtain ⟨g1, g2⟩ := setRow_facts V2 w2.heap.size w2.heap.size _ (wcells (.pointer none) (.slice none 0 0) m).toArray _ HP.out (Nat.le_refl _)
    have G1 := hid g1
    have G2 := hid (HB3.out.trans g2)
    have GZ := hid (Nat.le_trans HZ3.out g2.size)
    generalize V2.setRow w2.heap.size (wcells (.pointer none) (.slice none 0 0) m).toArray = V3 at *
    clear g1 g2
    obtain ⟨R, hR⟩ : ∃ R : Rm, R = ⟨w2, w2.heap.size + 1, w2.heap.size, m⟩ := ⟨_, rfl⟩
    have hwr : R.wr [] V3 := by
      rw [hR]
      exact .inl ⟨Nat.le_refl _, Nat.lt_succ_self _, GZ.out, G2.out, _, G1.out, World.ownsRow_nil _ _ _ _⟩
    have hWH : Writes R 33 #[.pointer (some ⟨w2.heap.size, 0, none⟩), .pointer (some ⟨w.heap.size, 0, none⟩)] (flat m e) := by
      have := whole_any R (by rw [hR]; exact hm) HRT.out w.heap.size 0 _ _ (by rw [hR]; exact HX.out.later HB2.out)
      rw [hR] at this ⊢
      exact this
    have hST : ∀ W, R.wr (prV m e) W → Calls Tryz.prog 34 #[.pointer (some ⟨w2.heap.size, 0, none⟩)] W fun r w' => r = .returned (.string (text (prV m e))) ∧ Below w2.heap.size w2 w' := fun W hW => by
      rw [hR] at hW
      exact String_wr (prV m e) W hW HNE.out
    have WH := hid (hWH [] V3 hwr (by rw [List.length_nil, Nat.zero_add]; exact HLG.out))
    have ST := hid hST
    clear hWH hwr hST hR
    go_wp2_with fail
    refine WH.out.mono ?_
    rintro r w4 ⟨rfl, h4⟩
    rw [List.nil_append] at h4
    have H4 := hid h4
    clear h4
    go_wp2_with fail
    refine (ST.out w4 H4.out).mono ?_
    rintro r w5 ⟨rfl, hb5⟩
    have HB5 := hid hb5
    clear hb5
    go_wp2
    go_ret2
    refine ⟨by rw [HV.out]; rfl, ?_⟩
    have h1 := HB.out.trans (HB2.out.mono HB.out.size)
    exact h1.trans (HB5.out.mono h1.size)
  · have HC := hid hc
    have hcb : (ce != 0) = true := by rw [bne_iff_ne]; exact hc
    have hcb2 : (ce == 0) = false := by rw [beq_eq_false_iff_ne]; exact hc
    clear hc
    go_wp2
    go_ret2
    exact ⟨by rw [HV.out, if_neg HC.out]; rfl, HB.out.trans (HB1.out.mono HB.out.size)⟩
set_option maxHeartbeats 4000000 in
theorem Print_any (e : Ex) (ao : Option Addr) (an ac : Nat) (po : Option Addr) (pn pc : Nat) (w : World) (hw : Num.Fit w) (h : IsE w e (.slice ao an ac) (.slice po pn pc)) (hf : e.fit) (hms : e.mass ≤ 70000) :
    Calls Tryz.prog 9 #[exV e (.slice ao an ac) (.slice po pn pc)] w fun r w' => r = .returned (writeV 0 e) ∧ Below w.heap.size w w' := by
  obtain ⟨V, hV⟩ : ∃ V, w.alloc (.cells #[.int .i64 e.kind, .string (text e.s), .slice ao an ac, .slice po pn pc] 25) = V := ⟨_, rfl⟩
  have hbV : Below w.heap.size w V := by rw [← hV]; exact ba (b0 w) _
  have hbk : V.heap[w.heap.size]? = some (.cells #[.int .i64 e.kind, .string (text e.s), .slice ao an ac, .slice po pn pc] 25) := by rw [← hV]; exact heap_alloc_new w _
  have c0 : V.cell? ⟨w.heap.size, 0, none⟩ = some (.int .i64 e.kind) := by rw [Lib.cell_of_heap hbk]; rfl
  have c1 : V.cell? ⟨w.heap.size, 1, none⟩ = some (.string (text e.s)) := by rw [Lib.cell_of_heap hbk]; rfl
  have c2 : V.cell? ⟨w.heap.size, 2, none⟩ = some (.slice ao an ac) := by rw [Lib.cell_of_heap hbk]; rfl
  have c3 : V.cell? ⟨w.heap.size, 3, none⟩ = some (.slice po pn pc) := by rw [Lib.cell_of_heap hbk]; rfl
  have CW : Hid (Calls Tryz.prog 24 #[exV e (.slice ao an ac) (.slice po pn pc), .int .i64 0] V fun r w' => r = .returned (writeV 0 e) ∧ Below V.heap.size V w') := hid (write_any e ao an ac po pn pc 0 (by omega) V (hw.at hbV) (h.later hbV) hf hms)
  have HB := hid hbV
  have HV : Hid (writeV 0 e = .tuple #[.string (text (if checkV e = 0 then prV 0 e else [])), .int .i64 (checkV e)]) := hid rfl
  unfold exV at CW ⊢
  rw [HV.out] at CW ⊢
  generalize (if checkV e = 0 then prV 0 e else []) = x at *
  generalize checkV e = ce at *
  clear hbV hbk hms hf h hw HV
  go_enter Tryz.func9, Tryz.ntmps9
  go_wp2_with fail
  refine CW.out.mono ?_
  rintro r w1 ⟨rfl, hb1⟩
  have HB1 := hid hb1
  clear hb1 c0 c1 c2 c3
  go_wp2
  go_ret2
  exact ⟨rfl, HB.out.trans (HB1.out.mono HB.out.size)⟩
set_option maxHeartbeats 4000000 in
theorem Bare_any (e : Ex) (ao : Option Addr) (an ac : Nat) (po : Option Addr) (pn pc : Nat) (w : World) (hw : Num.Fit w) (h : IsE w e (.slice ao an ac) (.slice po pn pc)) (hf : e.fit) (hms : e.mass ≤ 70000) :
    Calls Tryz.prog 10 #[exV e (.slice ao an ac) (.slice po pn pc)] w fun r w' => r = .returned (writeV 9 e) ∧ Below w.heap.size w w' := by
  obtain ⟨V, hV⟩ : ∃ V, w.alloc (.cells #[.int .i64 e.kind, .string (text e.s), .slice ao an ac, .slice po pn pc] 25) = V := ⟨_, rfl⟩
  have hbV : Below w.heap.size w V := by rw [← hV]; exact ba (b0 w) _
  have hbk : V.heap[w.heap.size]? = some (.cells #[.int .i64 e.kind, .string (text e.s), .slice ao an ac, .slice po pn pc] 25) := by rw [← hV]; exact heap_alloc_new w _
  have c0 : V.cell? ⟨w.heap.size, 0, none⟩ = some (.int .i64 e.kind) := by rw [Lib.cell_of_heap hbk]; rfl
  have c1 : V.cell? ⟨w.heap.size, 1, none⟩ = some (.string (text e.s)) := by rw [Lib.cell_of_heap hbk]; rfl
  have c2 : V.cell? ⟨w.heap.size, 2, none⟩ = some (.slice ao an ac) := by rw [Lib.cell_of_heap hbk]; rfl
  have c3 : V.cell? ⟨w.heap.size, 3, none⟩ = some (.slice po pn pc) := by rw [Lib.cell_of_heap hbk]; rfl
  have CW : Hid (Calls Tryz.prog 24 #[exV e (.slice ao an ac) (.slice po pn pc), .int .i64 9] V fun r w' => r = .returned (writeV 9 e) ∧ Below V.heap.size V w') := hid (write_any e ao an ac po pn pc 9 (by omega) V (hw.at hbV) (h.later hbV) hf hms)
  have HB := hid hbV
  have HV : Hid (writeV 9 e = .tuple #[.string (text (if checkV e = 0 then prV 9 e else [])), .int .i64 (checkV e)]) := hid rfl
  unfold exV at CW ⊢
  rw [HV.out] at CW ⊢
  generalize (if checkV e = 0 then prV 9 e else []) = x at *
  generalize checkV e = ce at *
  clear hbV hbk hms hf h hw HV
  go_enter Tryz.func10, Tryz.ntmps10
  go_wp2_with fail
  refine CW.out.mono ?_
  rintro r w1 ⟨rfl, hb1⟩
  have HB1 := hid hb1
  clear hb1 c0 c1 c2 c3
  go_wp2
  go_ret2
  exact ⟨rfl, HB.out.trans (HB1.out.mono HB.out.size)⟩
end Go.Proofs.YtkmdclfkmmlloaaGreatDoor.Fp
namespace Go.Proofs.YtkmdclfkmmlloaaGreatDoor.Fp
open Go Go.Proofs.YtkmdclfkmmlloaaGreatDoor Go.Proofs.YtkmdclfkmmlloaaGreatDoor.Xp Go.RowKit
set_option maxRecDepth 100000
theorem num_is (W : World) (k : Int) (s : Nam) : IsE W (.mk k s [] []) (.slice none 0 0) (.slice none 0 0) := IsE.of (Row.nil 1 W) (Exs.nil W)
theorem made2 {w : World} {a b : Ex} {na pa nb pb : Value} (ha : IsE w a na pa) (hb : IsE w b nb pb) :
    Exs (w.alloc (.cells #[.int .i64 a.kind, .string (text a.s), na, pa, .int .i64 b.kind, .string (text b.s), nb, pb] 25)) (.slice (some ⟨w.heap.size, 0, none⟩) 2 2) [a, b] :=
  Exs.made [(a, na, pa), (b, nb, pb)] (by
    intro x hx
    simp only [List.mem_cons, List.not_mem_nil, or_false] at hx
    rcases hx with rfl | rfl
    · exact ha
    · exact hb) (by simp)
theorem made1 {w : World} {a : Ex} {na pa : Value} (ha : IsE w a na pa) :
    Exs (w.alloc (.cells #[.int .i64 a.kind, .string (text a.s), na, pa] 25)) (.slice (some ⟨w.heap.size, 0, none⟩) 1 1) [a] :=
  Exs.made [(a, na, pa)] (by
    intro x hx
    simp only [List.mem_cons, List.not_mem_nil, or_false] at hx
    rcases hx with rfl
    exact ha) (by simp)
set_option maxHeartbeats 1000000 in
theorem num0_any (s : Nam) (w : World) : Calls Tryz.prog 19 #[.string (text s)] w fun e w' => e = .returned (.agg #[.int .i64 0, .string (text s), .slice none 0 0, .slice none 0 0]) ∧ Below w.heap.size w w' := by
  have B1 := hid (ba (b0 w) (.cells #[.int .i64 0, .string (text s), .slice none 0 0, .slice none 0 0] 25))
  go_enter Tryz.func19, Tryz.ntmps19
  go_wp2
  refine bodyPost_ret (Num.results_one rfl _ _ w.heap.size #[.int .i64 0, .string (text s), .slice none 0 0, .slice none 0 0] rfl (run_loadVar_row _ _ _ _ _ _ _ (heap_alloc_new w _) Tryz.underlying25 rfl sizeEx)) rfl ?_
  exact ⟨rfl, B1.out⟩
set_option maxHeartbeats 4000000 in
theorem bin0_any (s : Nam) (a b : Ex) (xo : Option Addr) (xn xc : Nat) (ko : Option Addr) (kn kc : Nat) (yo : Option Addr) (yn yc : Nat) (lo : Option Addr) (ln lc : Nat) (w : World)
    (ha : IsE w a (.slice xo xn xc) (.slice ko kn kc)) (hb : IsE w b (.slice yo yn yc) (.slice lo ln lc)) :
    Calls Tryz.prog 20 #[.string (text s), exV a (.slice xo xn xc) (.slice ko kn kc), exV b (.slice yo yn yc) (.slice lo ln lc)] w fun e w' => ∃ g, e = .returned (.agg #[.int .i64 5, .string (text s), .slice none 0 0, .slice (some ⟨g, 0, none⟩) 2 2]) ∧ IsE w' (.mk 5 s [] [a, b]) (.slice none 0 0) (.slice (some ⟨g, 0, none⟩) 2 2) ∧ Below w.heap.size w w' := by
  unfold exV
  obtain ⟨V2, hV2⟩ : ∃ V2, (w.alloc (.cells #[.int .i64 a.kind, .string (text a.s), .slice xo xn xc, .slice ko kn kc] 25)).alloc (.cells #[.int .i64 b.kind, .string (text b.s), .slice yo yn yc, .slice lo ln lc] 25) = V2 := ⟨_, rfl⟩
  have z2 : V2.heap.size = w.heap.size + 1 + 1 := by rw [← hV2]; simp
  have b2 : Below w.heap.size w V2 := by rw [← hV2]; exact ba (ba (b0 w) _) _
  obtain ⟨V3, hV3⟩ : ∃ V3, V2.alloc (.cells #[.int .i64 5, .string (text s), .slice none 0 0, .slice (some ⟨w.heap.size + 1 + 1 + 1, 0, none⟩) 2 2] 25) = V3 := ⟨_, rfl⟩
  have b3 : Below w.heap.size w V3 := by rw [← hV3]; exact b2.trans ((ba (b0 V2) _).mono b2.size)
  have z3 : V3.heap.size = w.heap.size + 1 + 1 + 1 := by rw [← hV3]; simp [z2]
  have h3 : V3.heap[w.heap.size + 1 + 1]? = some (.cells #[.int .i64 5, .string (text s), .slice none 0 0, .slice (some ⟨w.heap.size + 1 + 1 + 1, 0, none⟩) 2 2] 25) := by rw [← hV3, ← z2]; exact heap_alloc_new V2 _
  have hm := made2 (w := V3) (ha.later b3) (hb.later b3)
  rw [z3] at hm
  have h4 := (Lib.alloc_old V3 (.cells #[.int .i64 a.kind, .string (text a.s), .slice xo xn xc, .slice ko kn kc, .int .i64 b.kind, .string (text b.s), .slice yo yn yc, .slice lo ln lc] 25) (w.heap.size + 1 + 1) (by rw [z3]; omega)).trans h3
  have HM := hid hm
  have H4 := hid h4
  have B4 := hid (ba b3 (.cells #[.int .i64 a.kind, .string (text a.s), .slice xo xn xc, .slice ko kn kc, .int .i64 b.kind, .string (text b.s), .slice yo yn yc, .slice lo ln lc] 25))
  have HV := hid hV2
  have HV3 := hid hV3
  clear hm h4 h3 z3 b3 b2 z2 ha hb hV2 hV3
  go_enter Tryz.func20, Tryz.ntmps20
  go_wp2
  rw [HV.out, HV3.out]
  refine bodyPost_ret (Num.results_one rfl _ _ (w.heap.size + 1 + 1) #[.int .i64 5, .string (text s), .slice none 0 0, .slice (some ⟨w.heap.size + 1 + 1 + 1, 0, none⟩) 2 2] rfl (run_loadVar_row _ _ _ _ _ _ _ H4.out Tryz.underlying25 rfl sizeEx)) rfl ?_
  exact ⟨_, rfl, IsE.of (Row.nil 1 _) HM.out, B4.out⟩
set_option maxHeartbeats 4000000 in
theorem neg0_any (a : Ex) (xo : Option Addr) (xn xc : Nat) (ko : Option Addr) (kn kc : Nat) (w : World) (ha : IsE w a (.slice xo xn xc) (.slice ko kn kc)) :
    Calls Tryz.prog 21 #[exV a (.slice xo xn xc) (.slice ko kn kc)] w fun e w' => ∃ g, e = .returned (.agg #[.int .i64 4, .string ⟨#[]⟩, .slice none 0 0, .slice (some ⟨g, 0, none⟩) 1 1]) ∧ IsE w' (.mk 4 [] [] [a]) (.slice none 0 0) (.slice (some ⟨g, 0, none⟩) 1 1) ∧ Below w.heap.size w w' := by
  unfold exV
  obtain ⟨V2, hV2⟩ : ∃ V2, w.alloc (.cells #[.int .i64 a.kind, .string (text a.s), .slice xo xn xc, .slice ko kn kc] 25) = V2 := ⟨_, rfl⟩
  have z2 : V2.heap.size = w.heap.size + 1 := by rw [← hV2]; simp
  have b2 : Below w.heap.size w V2 := by rw [← hV2]; exact ba (b0 w) _
  obtain ⟨V3, hV3⟩ : ∃ V3, V2.alloc (.cells #[.int .i64 4, .string ⟨#[]⟩, .slice none 0 0, .slice (some ⟨w.heap.size + 1 + 1, 0, none⟩) 1 1] 25) = V3 := ⟨_, rfl⟩
  have b3 : Below w.heap.size w V3 := by rw [← hV3]; exact b2.trans ((ba (b0 V2) _).mono b2.size)
  have z3 : V3.heap.size = w.heap.size + 1 + 1 := by rw [← hV3]; simp [z2]
  have h3 : V3.heap[w.heap.size + 1]? = some (.cells #[.int .i64 4, .string ⟨#[]⟩, .slice none 0 0, .slice (some ⟨w.heap.size + 1 + 1, 0, none⟩) 1 1] 25) := by rw [← hV3, ← z2]; exact heap_alloc_new V2 _
  have hm := made1 (w := V3) (ha.later b3)
  rw [z3] at hm
  have h4 := (Lib.alloc_old V3 (.cells #[.int .i64 a.kind, .string (text a.s), .slice xo xn xc, .slice ko kn kc] 25) (w.heap.size + 1) (by rw [z3]; omega)).trans h3
  have HM := hid hm
  have H4 := hid h4
  have B4 := hid (ba b3 (.cells #[.int .i64 a.kind, .string (text a.s), .slice xo xn xc, .slice ko kn kc] 25))
  have HV := hid hV2
  have HV3 := hid hV3
  clear hm h4 h3 z3 b3 b2 z2 ha hV2 hV3
  go_enter Tryz.func21, Tryz.ntmps21
  go_wp2
  rw [HV.out, HV3.out]
  refine bodyPost_ret (Num.results_one rfl _ _ (w.heap.size + 1) #[.int .i64 4, .string ⟨#[]⟩, .slice none 0 0, .slice (some ⟨w.heap.size + 1 + 1, 0, none⟩) 1 1] rfl (run_loadVar_row _ _ _ _ _ _ _ H4.out Tryz.underlying25 rfl sizeEx)) rfl ?_
  exact ⟨_, rfl, IsE.of (Row.nil 1 _) HM.out, B4.out⟩
end Go.Proofs.YtkmdclfkmmlloaaGreatDoor.Fp
namespace Go.Proofs.YtkmdclfkmmlloaaGreatDoor.Fp
open Go Go.Proofs.YtkmdclfkmmlloaaGreatDoor Go.Proofs.YtkmdclfkmmlloaaGreatDoor.Xp Go.RowKit
set_option maxRecDepth 100000
def ex0 : Ex := (.mk 5 [42] [] [(.mk 5 [43] [] [(.mk 0 [49] [] []), (.mk 0 [50] [] [])]), (.mk 0 [51] [] [])])
theorem ex0_fit : ex0.fit := by simp [ex0, Ex.fit, fitL]; decide
theorem ex0_says : writeV 0 ex0 = .tuple #[.string ⟨#[40, 49, 32, 43, 32, 50, 41, 32, 42, 32, 51]⟩, .int .i64 0] := by
  have h1 : checkV ex0 = 0 := by decide +kernel
  have h2 : prV 0 ex0 = [40, 49, 32, 43, 32, 50, 41, 32, 42, 32, 51] := by decide +kernel
  unfold writeV
  rw [h1, h2]; rfl
def ex1 : Ex := (.mk 5 [43] [] [(.mk 0 [49] [] []), (.mk 5 [42] [] [(.mk 0 [50] [] []), (.mk 0 [51] [] [])])])
theorem ex1_fit : ex1.fit := by simp [ex1, Ex.fit, fitL]; decide
theorem ex1_says : writeV 0 ex1 = .tuple #[.string ⟨#[49, 32, 43, 32, 50, 32, 42, 32, 51]⟩, .int .i64 0] := by
  have h1 : checkV ex1 = 0 := by decide +kernel
  have h2 : prV 0 ex1 = [49, 32, 43, 32, 50, 32, 42, 32, 51] := by decide +kernel
  unfold writeV
  rw [h1, h2]; rfl
def ex2 : Ex := (.mk 4 [] [] [(.mk 4 [] [] [(.mk 0 [53] [] [])])])
theorem ex2_fit : ex2.fit := by simp [ex2, Ex.fit, fitL]; decide
theorem ex2_says : writeV 0 ex2 = .tuple #[.string ⟨#[45, 45, 53]⟩, .int .i64 0] := by
  have h1 : checkV ex2 = 0 := by decide +kernel
  have h2 : prV 0 ex2 = [45, 45, 53] := by decide +kernel
  unfold writeV
  rw [h1, h2]; rfl
def ex3 : Ex := (.mk 5 [43] [] [(.mk 0 [49] [] []), (.mk 0 [50] [] [])])
theorem ex3_fit : ex3.fit := by simp [ex3, Ex.fit, fitL]; decide
theorem ex3_says : writeV 9 ex3 = .tuple #[.string ⟨#[40, 49, 41, 32, 43, 32, 40, 50, 41]⟩, .int .i64 0] := by
  have h1 : checkV ex3 = 0 := by decide +kernel
  have h2 : prV 9 ex3 = [40, 49, 41, 32, 43, 32, 40, 50, 41] := by decide +kernel
  unfold writeV
  rw [h1, h2]; rfl
set_option maxHeartbeats 16000000 in
theorem alive_any (w : World) (hw : Num.Fit w) : Calls Tryz.prog 7 #[] w fun e w' => e = .returned (.bool true) ∧ Below w.heap.size w w' := by
  have HW := hid hw
  have HB0 := hid (b0 w)
  clear hw
  go_enter Tryz.func7, Tryz.ntmps7
  have C1 : Hid (Calls Tryz.prog 19 #[.string ⟨#[49]⟩] w fun e w' => e = .returned (.agg #[.int .i64 0, .string ⟨#[49]⟩, .slice none 0 0, .slice none 0 0]) ∧ Below w.heap.size w w') := hid (num0_any [49] w)
  go_wp2_with fail
  refine C1.out.mono ?_
  rintro e w1 ⟨rfl, hb⟩
  have HB1 := hid (bt HB0.out hb)
  clear hb C1
  have C2 : Hid (Calls Tryz.prog 19 #[.string ⟨#[50]⟩] w1 fun e w' => e = .returned (.agg #[.int .i64 0, .string ⟨#[50]⟩, .slice none 0 0, .slice none 0 0]) ∧ Below w1.heap.size w1 w') := hid (num0_any [50] w1)
  go_wp2_with fail
  refine C2.out.mono ?_
  rintro e w2 ⟨rfl, hb⟩
  have HB2 := hid (bt HB1.out hb)
  clear hb C2
  have C3 : Hid (Calls Tryz.prog 20 #[.string ⟨#[43]⟩, .agg #[.int .i64 0, .string ⟨#[49]⟩, .slice none 0 0, .slice none 0 0], .agg #[.int .i64 0, .string ⟨#[50]⟩, .slice none 0 0, .slice none 0 0]] w2 fun e w' => ∃ g, e = .returned (.agg #[.int .i64 5, .string ⟨#[43]⟩, .slice none 0 0, .slice (some ⟨g, 0, none⟩) 2 2]) ∧ IsE w' (.mk 5 [43] [] [(.mk 0 [49] [] []), (.mk 0 [50] [] [])]) (.slice none 0 0) (.slice (some ⟨g, 0, none⟩) 2 2) ∧ Below w2.heap.size w2 w') := hid (bin0_any [43] (.mk 0 [49] [] []) (.mk 0 [50] [] []) none 0 0 none 0 0 none 0 0 none 0 0 w2 (num_is w2 0 [49]) (num_is w2 0 [50]))
  go_wp2_with fail
  refine C3.out.mono ?_
  rintro e w3 ⟨g1, rfl, hi, hb⟩
  have HB3 := hid (bt HB2.out hb)
  have Ig1 := hid hi
  clear hb C3 hi
  have C4 : Hid (Calls Tryz.prog 19 #[.string ⟨#[51]⟩] w3 fun e w' => e = .returned (.agg #[.int .i64 0, .string ⟨#[51]⟩, .slice none 0 0, .slice none 0 0]) ∧ Below w3.heap.size w3 w') := hid (num0_any [51] w3)
  go_wp2_with fail
  refine C4.out.mono ?_
  rintro e w4 ⟨rfl, hb⟩
  have HB4 := hid (bt HB3.out hb)
  have Ig1 := hid (Ig1.out.later hb)
  clear hb C4
  have C5 : Hid (Calls Tryz.prog 20 #[.string ⟨#[42]⟩, .agg #[.int .i64 5, .string ⟨#[43]⟩, .slice none 0 0, .slice (some ⟨g1, 0, none⟩) 2 2], .agg #[.int .i64 0, .string ⟨#[51]⟩, .slice none 0 0, .slice none 0 0]] w4 fun e w' => ∃ g, e = .returned (.agg #[.int .i64 5, .string ⟨#[42]⟩, .slice none 0 0, .slice (some ⟨g, 0, none⟩) 2 2]) ∧ IsE w' (.mk 5 [42] [] [(.mk 5 [43] [] [(.mk 0 [49] [] []), (.mk 0 [50] [] [])]), (.mk 0 [51] [] [])]) (.slice none 0 0) (.slice (some ⟨g, 0, none⟩) 2 2) ∧ Below w4.heap.size w4 w') := hid (bin0_any [42] (.mk 5 [43] [] [(.mk 0 [49] [] []), (.mk 0 [50] [] [])]) (.mk 0 [51] [] []) none 0 0 (some ⟨g1, 0, none⟩) 2 2 none 0 0 none 0 0 w4 Ig1.out (num_is w4 0 [51]))
  go_wp2_with fail
  refine C5.out.mono ?_
  rintro e w5 ⟨g2, rfl, hi, hb⟩
  have HB5 := hid (bt HB4.out hb)
  have Ig1 := hid (Ig1.out.later hb)
  have Ig2 := hid hi
  clear hb C5 hi Ig1
  have C6 : Hid (Calls Tryz.prog 9 #[.agg #[.int .i64 5, .string ⟨#[42]⟩, .slice none 0 0, .slice (some ⟨g2, 0, none⟩) 2 2]] w5 fun e w' => e = .returned (.tuple #[.string ⟨#[40, 49, 32, 43, 32, 50, 41, 32, 42, 32, 51]⟩, .int .i64 0]) ∧ Below w5.heap.size w5 w') := hid (by
    have := Print_any ex0 none 0 0 (some ⟨g2, 0, none⟩) 2 2 w5 (HW.out.at HB5.out) Ig2.out ex0_fit (by decide +kernel)
    rw [ex0_says] at this
    exact this)
  go_wp2_with fail
  refine C6.out.mono ?_
  rintro e w6 ⟨rfl, hb⟩
  have HB6 := hid (bt HB5.out hb)
  have Ig2 := hid (Ig2.out.later hb)
  clear hb C6 Ig2
  have C7 : Hid (Calls Tryz.prog 19 #[.string ⟨#[49]⟩] w6 fun e w' => e = .returned (.agg #[.int .i64 0, .string ⟨#[49]⟩, .slice none 0 0, .slice none 0 0]) ∧ Below w6.heap.size w6 w') := hid (num0_any [49] w6)
  go_wp2_with fail
  refine C7.out.mono ?_
  rintro e w7 ⟨rfl, hb⟩
  have HB7 := hid (bt HB6.out hb)
  clear hb C7
  have C8 : Hid (Calls Tryz.prog 19 #[.string ⟨#[50]⟩] w7 fun e w' => e = .returned (.agg #[.int .i64 0, .string ⟨#[50]⟩, .slice none 0 0, .slice none 0 0]) ∧ Below w7.heap.size w7 w') := hid (num0_any [50] w7)
  go_wp2_with fail
  refine C8.out.mono ?_
  rintro e w8 ⟨rfl, hb⟩
  have HB8 := hid (bt HB7.out hb)
  clear hb C8
  have C9 : Hid (Calls Tryz.prog 19 #[.string ⟨#[51]⟩] w8 fun e w' => e = .returned (.agg #[.int .i64 0, .string ⟨#[51]⟩, .slice none 0 0, .slice none 0 0]) ∧ Below w8.heap.size w8 w') := hid (num0_any [51] w8)
  go_wp2_with fail
  refine C9.out.mono ?_
  rintro e w9 ⟨rfl, hb⟩
  have HB9 := hid (bt HB8.out hb)
  clear hb C9
  have C10 : Hid (Calls Tryz.prog 20 #[.string ⟨#[42]⟩, .agg #[.int .i64 0, .string ⟨#[50]⟩, .slice none 0 0, .slice none 0 0], .agg #[.int .i64 0, .string ⟨#[51]⟩, .slice none 0 0, .slice none 0 0]] w9 fun e w' => ∃ g, e = .returned (.agg #[.int .i64 5, .string ⟨#[42]⟩, .slice none 0 0, .slice (some ⟨g, 0, none⟩) 2 2]) ∧ IsE w' (.mk 5 [42] [] [(.mk 0 [50] [] []), (.mk 0 [51] [] [])]) (.slice none 0 0) (.slice (some ⟨g, 0, none⟩) 2 2) ∧ Below w9.heap.size w9 w') := hid (bin0_any [42] (.mk 0 [50] [] []) (.mk 0 [51] [] []) none 0 0 none 0 0 none 0 0 none 0 0 w9 (num_is w9 0 [50]) (num_is w9 0 [51]))
  go_wp2_with fail
  refine C10.out.mono ?_
  rintro e w10 ⟨g3, rfl, hi, hb⟩
  have HB10 := hid (bt HB9.out hb)
  have Ig3 := hid hi
  clear hb C10 hi
  have C11 : Hid (Calls Tryz.prog 20 #[.string ⟨#[43]⟩, .agg #[.int .i64 0, .string ⟨#[49]⟩, .slice none 0 0, .slice none 0 0], .agg #[.int .i64 5, .string ⟨#[42]⟩, .slice none 0 0, .slice (some ⟨g3, 0, none⟩) 2 2]] w10 fun e w' => ∃ g, e = .returned (.agg #[.int .i64 5, .string ⟨#[43]⟩, .slice none 0 0, .slice (some ⟨g, 0, none⟩) 2 2]) ∧ IsE w' (.mk 5 [43] [] [(.mk 0 [49] [] []), (.mk 5 [42] [] [(.mk 0 [50] [] []), (.mk 0 [51] [] [])])]) (.slice none 0 0) (.slice (some ⟨g, 0, none⟩) 2 2) ∧ Below w10.heap.size w10 w') := hid (bin0_any [43] (.mk 0 [49] [] []) (.mk 5 [42] [] [(.mk 0 [50] [] []), (.mk 0 [51] [] [])]) none 0 0 none 0 0 none 0 0 (some ⟨g3, 0, none⟩) 2 2 w10 (num_is w10 0 [49]) Ig3.out)
  go_wp2_with fail
  refine C11.out.mono ?_
  rintro e w11 ⟨g4, rfl, hi, hb⟩
  have HB11 := hid (bt HB10.out hb)
  have Ig3 := hid (Ig3.out.later hb)
  have Ig4 := hid hi
  clear hb C11 hi Ig3
  have C12 : Hid (Calls Tryz.prog 9 #[.agg #[.int .i64 5, .string ⟨#[43]⟩, .slice none 0 0, .slice (some ⟨g4, 0, none⟩) 2 2]] w11 fun e w' => e = .returned (.tuple #[.string ⟨#[49, 32, 43, 32, 50, 32, 42, 32, 51]⟩, .int .i64 0]) ∧ Below w11.heap.size w11 w') := hid (by
    have := Print_any ex1 none 0 0 (some ⟨g4, 0, none⟩) 2 2 w11 (HW.out.at HB11.out) Ig4.out ex1_fit (by decide +kernel)
    rw [ex1_says] at this
    exact this)
  go_wp2_with fail
  refine C12.out.mono ?_
  rintro e w12 ⟨rfl, hb⟩
  have HB12 := hid (bt HB11.out hb)
  have Ig4 := hid (Ig4.out.later hb)
  clear hb C12 Ig4
  have C13 : Hid (Calls Tryz.prog 19 #[.string ⟨#[53]⟩] w12 fun e w' => e = .returned (.agg #[.int .i64 0, .string ⟨#[53]⟩, .slice none 0 0, .slice none 0 0]) ∧ Below w12.heap.size w12 w') := hid (num0_any [53] w12)
  go_wp2_with fail
  refine C13.out.mono ?_
  rintro e w13 ⟨rfl, hb⟩
  have HB13 := hid (bt HB12.out hb)
  clear hb C13
  have C14 : Hid (Calls Tryz.prog 21 #[.agg #[.int .i64 0, .string ⟨#[53]⟩, .slice none 0 0, .slice none 0 0]] w13 fun e w' => ∃ g, e = .returned (.agg #[.int .i64 4, .string ⟨#[]⟩, .slice none 0 0, .slice (some ⟨g, 0, none⟩) 1 1]) ∧ IsE w' (.mk 4 [] [] [(.mk 0 [53] [] [])]) (.slice none 0 0) (.slice (some ⟨g, 0, none⟩) 1 1) ∧ Below w13.heap.size w13 w') := hid (neg0_any (.mk 0 [53] [] []) none 0 0 none 0 0 w13 (num_is w13 0 [53]))
  go_wp2_with fail
  refine C14.out.mono ?_
  rintro e w14 ⟨g5, rfl, hi, hb⟩
  have HB14 := hid (bt HB13.out hb)
  have Ig5 := hid hi
  clear hb C14 hi
  have C15 : Hid (Calls Tryz.prog 21 #[.agg #[.int .i64 4, .string ⟨#[]⟩, .slice none 0 0, .slice (some ⟨g5, 0, none⟩) 1 1]] w14 fun e w' => ∃ g, e = .returned (.agg #[.int .i64 4, .string ⟨#[]⟩, .slice none 0 0, .slice (some ⟨g, 0, none⟩) 1 1]) ∧ IsE w' (.mk 4 [] [] [(.mk 4 [] [] [(.mk 0 [53] [] [])])]) (.slice none 0 0) (.slice (some ⟨g, 0, none⟩) 1 1) ∧ Below w14.heap.size w14 w') := hid (neg0_any (.mk 4 [] [] [(.mk 0 [53] [] [])]) none 0 0 (some ⟨g5, 0, none⟩) 1 1 w14 Ig5.out)
  go_wp2_with fail
  refine C15.out.mono ?_
  rintro e w15 ⟨g6, rfl, hi, hb⟩
  have HB15 := hid (bt HB14.out hb)
  have Ig5 := hid (Ig5.out.later hb)
  have Ig6 := hid hi
  clear hb C15 hi Ig5
  have C16 : Hid (Calls Tryz.prog 9 #[.agg #[.int .i64 4, .string ⟨#[]⟩, .slice none 0 0, .slice (some ⟨g6, 0, none⟩) 1 1]] w15 fun e w' => e = .returned (.tuple #[.string ⟨#[45, 45, 53]⟩, .int .i64 0]) ∧ Below w15.heap.size w15 w') := hid (by
    have := Print_any ex2 none 0 0 (some ⟨g6, 0, none⟩) 1 1 w15 (HW.out.at HB15.out) Ig6.out ex2_fit (by decide +kernel)
    rw [ex2_says] at this
    exact this)
  go_wp2_with fail
  refine C16.out.mono ?_
  rintro e w16 ⟨rfl, hb⟩
  have HB16 := hid (bt HB15.out hb)
  have Ig6 := hid (Ig6.out.later hb)
  clear hb C16 Ig6
  have C17 : Hid (Calls Tryz.prog 19 #[.string ⟨#[49]⟩] w16 fun e w' => e = .returned (.agg #[.int .i64 0, .string ⟨#[49]⟩, .slice none 0 0, .slice none 0 0]) ∧ Below w16.heap.size w16 w') := hid (num0_any [49] w16)
  go_wp2_with fail
  refine C17.out.mono ?_
  rintro e w17 ⟨rfl, hb⟩
  have HB17 := hid (bt HB16.out hb)
  clear hb C17
  have C18 : Hid (Calls Tryz.prog 19 #[.string ⟨#[50]⟩] w17 fun e w' => e = .returned (.agg #[.int .i64 0, .string ⟨#[50]⟩, .slice none 0 0, .slice none 0 0]) ∧ Below w17.heap.size w17 w') := hid (num0_any [50] w17)
  go_wp2_with fail
  refine C18.out.mono ?_
  rintro e w18 ⟨rfl, hb⟩
  have HB18 := hid (bt HB17.out hb)
  clear hb C18
  have C19 : Hid (Calls Tryz.prog 20 #[.string ⟨#[43]⟩, .agg #[.int .i64 0, .string ⟨#[49]⟩, .slice none 0 0, .slice none 0 0], .agg #[.int .i64 0, .string ⟨#[50]⟩, .slice none 0 0, .slice none 0 0]] w18 fun e w' => ∃ g, e = .returned (.agg #[.int .i64 5, .string ⟨#[43]⟩, .slice none 0 0, .slice (some ⟨g, 0, none⟩) 2 2]) ∧ IsE w' (.mk 5 [43] [] [(.mk 0 [49] [] []), (.mk 0 [50] [] [])]) (.slice none 0 0) (.slice (some ⟨g, 0, none⟩) 2 2) ∧ Below w18.heap.size w18 w') := hid (bin0_any [43] (.mk 0 [49] [] []) (.mk 0 [50] [] []) none 0 0 none 0 0 none 0 0 none 0 0 w18 (num_is w18 0 [49]) (num_is w18 0 [50]))
  go_wp2_with fail
  refine C19.out.mono ?_
  rintro e w19 ⟨g7, rfl, hi, hb⟩
  have HB19 := hid (bt HB18.out hb)
  have Ig7 := hid hi
  clear hb C19 hi
  have C20 : Hid (Calls Tryz.prog 10 #[.agg #[.int .i64 5, .string ⟨#[43]⟩, .slice none 0 0, .slice (some ⟨g7, 0, none⟩) 2 2]] w19 fun e w' => e = .returned (.tuple #[.string ⟨#[40, 49, 41, 32, 43, 32, 40, 50, 41]⟩, .int .i64 0]) ∧ Below w19.heap.size w19 w') := hid (by
    have := Bare_any ex3 none 0 0 (some ⟨g7, 0, none⟩) 2 2 w19 (HW.out.at HB19.out) Ig7.out ex3_fit (by decide +kernel)
    rw [ex3_says] at this
    exact this)
  go_wp2_with fail
  refine C20.out.mono ?_
  rintro e w20 ⟨rfl, hb⟩
  have HB20 := hid (bt HB19.out hb)
  have Ig7 := hid (Ig7.out.later hb)
  clear hb C20 Ig7
  go_wp2
  go_ret
  exact ⟨rfl, HB20.out⟩
end Go.Proofs.YtkmdclfkmmlloaaGreatDoor.Fp
namespace Go.Proofs.YtkmdclfkmmlloaaGreatDoor.Fp
open Go Go.Proofs.YtkmdclfkmmlloaaGreatDoor Go.Proofs.YtkmdclfkmmlloaaGreatDoor.Utf Go.Proofs.YtkmdclfkmmlloaaGreatDoor.Fx Go.RowKit
set_option maxRecDepth 100000

end Go.Proofs.YtkmdclfkmmlloaaGreatDoor.Fp
namespace Go.Proofs.YtkmdclfkmmlloaaGreatDoor.Fp
open Go Go.Proofs.YtkmdclfkmmlloaaGreatDoor Go.Proofs.YtkmdclfkmmlloaaGreatDoor.Utf Go.Proofs.YtkmdclfkmmlloaaGreatDoor.Fl Go.Proofs.YtkmdclfkmmlloaaGreatDoor.Fx Go.Proofs.YtkmdclfkmmlloaaGreatDoor.Xp Go.RowKit
set_option maxRecDepth 100000
/-- What the statements ask of the world. -/
def FitP (w : World) : Prop := Num.Fit w ∧ Fx.Fit w
theorem FitP.at {w X : World} (h : FitP w) (hb : Below w.heap.size w X) : FitP X := ⟨h.1.at hb, h.2.below hb (Nat.le_refl _)⟩
theorem Good.few : ∀ {a : List It} {m : List UInt8}, Good a m → (tkL a).length ≤ (txtL a).length
  | [], _, _ => Nat.le_refl _
  | .bl :: a, m, h => by
    have := Good.few (a := a) h
    show (tkL a).length ≤ (32 :: txtL a).length
    rw [List.length_cons]; omega
  | .tk k s :: a, m, h => by
    have h1 := Good.ne h
    have := Good.few h.2.2
    show ((k, s) :: tkL a).length ≤ ((It.tk k s).txt ++ txtL a).length
    rw [List.length_cons, List.length_append]; omega
/-- What is known of the texts' tokens. -/
theorem texts_facts {e : Ex} (hc : checkV e = 0) (hs : Small e) (m : Nat) : ∃ ts : List Lx, check (prV m e) = (prV m e).length ∧ lexp 0 (prV m e) = .ok (ts ++ [⟨5, (prV m e).length, []⟩]) ∧ ts.map (fun t => (t.kind, t.s)) = tkL (flat m e) ∧ (prV m e).length ≤ 60000 ∧ ts.length ≤ 60000 := by
  have hr := Rt.check hc
  have hg := hr.good m [] Stop.nil
  obtain ⟨ts, h1, h2⟩ := Good.lex 0 hg
  have hl := hr.lng m
  obtain ⟨s1, s2⟩ := hs
  have hlen : (prV m e).length ≤ 60000 := by
    show (txtL (flat m e)).length ≤ _
    rw [← lng_def]; omega
  refine ⟨ts, Good.check hg, by rw [Nat.zero_add] at h1; exact h1, h2, hlen, ?_⟩
  have h3 := congrArg List.length h2
  rw [List.length_map] at h3
  have h4 := Good.few hg
  have h5 : (prV m e).length = (txtL (flat m e)).length := rfl
  omega
end Go.Proofs.YtkmdclfkmmlloaaGreatDoor.Fp
namespace Go.Proofs.YtkmdclfkmmlloaaGreatDoor.Fp
open Go Go.Proofs.YtkmdclfkmmlloaaGreatDoor Go.Proofs.YtkmdclfkmmlloaaGreatDoor.Xp Go.RowKit
set_option maxRecDepth 100000

theorem cut_at (s : List UInt8) (i n : Nat) : (text s).extract i (i + n) = text ((s.drop i).take n) := by
  rw [text_cut, Nat.add_sub_cancel_left]
set_option maxHeartbeats 8000000 in
theorem index_any (a t r : List UInt8) (w : World) (hl : (a ++ (t ++ r)).length ≤ 1000000) :
    Calls Tryz.prog 16 #[.string (text (a ++ (t ++ r))), .string (text t)] w fun e w' => ∃ i : Nat, e = .returned (.int .i64 i) ∧ i ≤ a.length ∧ i + t.length ≤ (a ++ (t ++ r)).length ∧ w = w' := by
  have hal : a.length + t.length ≤ (a ++ (t ++ r)).length := by simp
  have HA := hid (show ((a ++ (t ++ r)).drop a.length).take t.length = t by rw [List.drop_left, List.take_left])
  generalize a ++ (t ++ r) = s at *
  have z1 := text_size s
  have z2 := text_size t
  go_enter Tryz.func16, Tryz.ntmps16
  go_wp2_with fail
  go_loopg [5] a.length (fun gk iv X => ∃ i : Nat, iv = .int .i64 i ∧ i + gk = a.length ∧ X = w)
  case atStart => exact ⟨0, rfl, by omega, rfl⟩
  case round =>
    rename World => X
    obtain ⟨i, rfl, hig, rfl⟩ := hrel
    have hx := cut_at s i t.length
    have hin : i + t.length ≤ s.length := by omega
    by_cases c : (s.drop i).take t.length = t
    · rw [c] at hx
      have q1 : ((text t).toList == (text t).toList) = true := by simp
      have HC := hid c
      clear c
      go_wp2
      go_ret
      exact ⟨i, rfl, by omega, hin, rfl⟩
    · have hne : i ≠ a.length := fun e => c (by rw [e]; exact HA.out)
      have q1 : ((text ((s.drop i).take t.length)).toList == (text t).toList) = false := by
        rw [Num.text_list, Num.text_list, beq_eq_false_iff_ne]; exact c
      clear c
      generalize (s.drop i).take t.length = x at *
      go_wp2
      go_roundg (gk - 1)
      case measure => omega
      case rel => exact ⟨i + 1, rfl, by omega, rfl⟩
theorem own_le : ∀ (N : Nat) (e : Ex), e.size ≤ N → own e + 1 ≤ 2 * e.size ∧ half e ≤ e.size := by
  intro N
  induction N with
  | zero => intro e h; have := e.size_pos; omega
  | succ N ih =>
    intro e h
    obtain ⟨k, s, nm, l⟩ := e
    rw [own_eq, half_eq, size_mk] at *
    have key : ∀ l : List Ex, sizeL l ≤ N → ownL l ≤ 2 * sizeL l ∧ halfL l ≤ sizeL l := by
      intro l
      induction l with
      | nil => intro _; simp [ownL, halfL]
      | cons x l ihl =>
        intro hs
        simp only [sizeL] at hs
        have h1 := ih x (by omega)
        have h2 := ihl (by omega)
        simp only [ownL, halfL, sizeL]
        split <;> omega
    have := key l (by omega)
    constructor
    · split
      · omega
      · split <;> omega
    · split <;> omega
theorem ownL_take (l : List Ex) (i : Nat) (h : i < l.length) : ownL (l.take (i + 1)) = ownL (l.take i) + (own l[i] + (if l[i].kind = 19 then 0 else 1)) := by
  induction l generalizing i with
  | nil => simp at h
  | cons x l ih =>
    cases i with
    | zero => simp [ownL]
    | succ i =>
      have := ih i (by simpa using h)
      simp only [List.take_succ_cons, ownL, List.getElem_cons_succ]
      omega
theorem halfL_take (l : List Ex) (i : Nat) (h : i < l.length) : halfL (l.take (i + 1)) = halfL (l.take i) + half l[i] := by
  induction l generalizing i with
  | nil => simp at h
  | cons x l ih =>
    cases i with
    | zero => simp [halfL]
    | succ i =>
      have := ih i (by simpa using h)
      simp only [List.take_succ_cons, halfL, List.getElem_cons_succ]
      omega
theorem ownL_le (l : List Ex) (i : Nat) : ownL (l.take i) ≤ 2 * sizeL l ∧ halfL (l.take i) ≤ sizeL l := by
  induction l generalizing i with
  | nil => simp [ownL, halfL]
  | cons x l ih =>
    cases i with
    | zero => simp [ownL, halfL]
    | succ i =>
      have h1 := own_le _ x (Nat.le_refl _)
      have h2 := ih i
      simp only [List.take_succ_cons, ownL, halfL, sizeL]
      split <;> omega
/-- Of a part. -/
theorem Rt.part {e : Ex} (h : Rt e) : ∀ x ∈ e.l, Rt x := by
  cases h with
  | neg ha _ => intro x hx; simp only [Ex.l, List.mem_cons, List.not_mem_nil, or_false] at hx; subst hx; exact ha
  | bin _ ha hb _ _ => intro x hx; simp only [Ex.l, List.mem_cons, List.not_mem_nil, or_false] at hx; rcases hx with rfl | rfl <;> assumption
  | btw ha hb hc _ _ _ => intro x hx; simp only [Ex.l, List.mem_cons, List.not_mem_nil, or_false] at hx; rcases hx with rfl | rfl | rfl <;> assumption
  | inn ha hb _ => intro x hx; simp only [Ex.l, List.mem_cons, List.not_mem_nil, or_false] at hx; rcases hx with rfl | rfl <;> assumption
  | path _ ha _ => intro x hx; simp only [Ex.l, List.mem_cons, List.not_mem_nil, or_false] at hx; subst hx; exact ha
  | filt ha hb _ _ => intro x hx; simp only [Ex.l, List.mem_cons, List.not_mem_nil, or_false] at hx; rcases hx with rfl | rfl <;> assumption
  | call ha hl _ _ => intro x hx; simp only [Ex.l, List.mem_cons] at hx; rcases hx with rfl | hx <;> first | exact ha | exact hl _ hx
  | cond ha hb hc _ _ _ => intro x hx; simp only [Ex.l, List.mem_cons, List.not_mem_nil, or_false] at hx; rcases hx with rfl | rfl | rfl <;> assumption
  | bnd _ _ ha hb _ _ => intro x hx; simp only [Ex.l, List.mem_cons, List.not_mem_nil, or_false] at hx; rcases hx with rfl | rfl <;> assumption
  | func _ ha _ => intro x hx; simp only [Ex.l, List.mem_cons, List.not_mem_nil, or_false] at hx; subst hx; exact ha
  | list hl _ => exact hl
  | map _ _ hl _ => exact hl
  | span _ ha hb _ _ => intro x hx; simp only [Ex.l, List.mem_cons, List.not_mem_nil, or_false] at hx; rcases hx with rfl | rfl <;> assumption
  | test _ ha _ => intro x hx; simp only [Ex.l, List.mem_cons, List.not_mem_nil, or_false] at hx; subst hx; exact ha
  | _ => intro x hx; simp [Ex.l] at hx
theorem Rt.spans {e : Ex} (h : Rt e) (hk : e.kind = 18) : e.s = [91, 93] ∨ e.s = [91, 41] ∨ e.s = [40, 93] ∨ e.s = [40, 41] := by
  cases h with
  | span h _ _ _ _ => simpa [Xp.spans, Ex.s] using h
  | bnd hk2 _ _ _ _ _ => simp only [Ex.kind] at hk; omega
  | _ => simp [Ex.kind] at hk
set_option maxHeartbeats 32000000 in
theorem counts_any : ∀ (N : Nat) (e : Ex) (ao : Option Addr) (an ac : Nat) (po : Option Addr) (pn pc : Nat) (w : World), e.size ≤ N → Rt e → IsE w e (.slice ao an ac) (.slice po pn pc) → e.size ≤ 1000000 →
    Calls Tryz.prog 15 #[exV e (.slice ao an ac) (.slice po pn pc)] w fun r w' => r = .returned (.tuple #[.int .i64 (own e), .int .i64 (half e)]) ∧ Below w.heap.size w w' := by
  intro N
  induction N with
  | zero => intro e ao an ac po pn pc w hN; have := e.size_pos; omega
  | succ N ih =>
    intro e ao an ac po pn pc w hN hr h hz
    have hkids := hr.part
    have hspan := hr.spans
    obtain ⟨k, s, nm, l⟩ := e
    obtain ⟨V, hV⟩ : ∃ V, w.alloc (.cells #[.int .i64 k, .string (text s), .slice ao an ac, .slice po pn pc] 25) = V := ⟨_, rfl⟩
    have BV : Below w.heap.size w V := hV ▸ ba (b0 w) _
    have P2 : V.heap[w.heap.size]? = some (.cells #[.int .i64 k, .string (text s), .slice ao an ac, .slice po pn pc] 25) := hV ▸ heap_alloc_new w _
    obtain ⟨a0, a1, a2, a3⟩ := box_cells P2
    have hp := (h.later BV).parts.2
    rw [size_mk] at hN hz
    simp only [Ex.l, Ex.kind, Ex.s] at hkids hspan hp
    have plen := fun X => hp.len 3 X
    have hle := hp.le
    have HO := hid (own_eq k s nm l)
    have HH := hid (half_eq k s nm l)
    have HP := hid hp
    have HK := hid hkids
    have HIH := hid ih
    have HBV := hid BV
    have HT := hid (ownL_take l)
    have HT2 := hid (halfL_take l)
    have HLE := hid (ownL_le l)
    have HSZ := hid (fun i (hi : i < l.length) => sizeL_mem (List.getElem_mem hi : l[i] ∈ l))
    have HOL := hid (fun e => own_le _ e (Nat.le_refl _))
    have HN := hid hN
    have HZ := hid hz
    unfold exV
    simp only [Ex.kind, Ex.s]
    clear ih h hkids hp BV P2 hr hN hz
    have hcase : (k = 10 ∨ k = 15) ∨ (k = 18 ∧ (s = [91, 93] ∨ s = [91, 41] ∨ s = [40, 93] ∨ s = [40, 41])) ∨ (k ≠ 10 ∧ k ≠ 15 ∧ k ≠ 18) := by
      by_cases h1 : k = 10 ∨ k = 15
      · exact .inl h1
      · by_cases h2 : k = 18
        · exact .inr (.inl ⟨h2, hspan h2⟩)
        · exact .inr (.inr ⟨fun c => h1 (.inl c), fun c => h1 (.inr c), h2⟩)
    clear hspan
    rcases hcase with (rfl | rfl) | ⟨rfl, hs⟩ | ⟨h1, h2, h3⟩
    · go_enter Tryz.func15, Tryz.ntmps15
      go_wp2_with fail
      clear a0 a1 a2 a3
      go_loopg [51, 4, 5] l.length (fun gk iv nv hv X => ∃ i n h : Nat, iv = .int .i64 i ∧ nv = .int .i64 n ∧ hv = .int .i64 h ∧ i + gk = l.length ∧ n ≤ 3000000 ∧ h ≤ 3000000 ∧ Hid (n = 1 + ownL (l.take i)) ∧ Hid (h = 0 + halfL (l.take i)) ∧ Hid (Below V.heap.size V X))
      case atStart => exact ⟨0, 1, 0, rfl, rfl, rfl, by omega, by omega, by omega, hid (by simp [ownL]), hid (by simp [halfL]), by first | exact hid (b0 V) | exact hid (below_drewN (b0 V) _)⟩
      case round =>
        rename World => X
        obtain ⟨i, n, h, rfl, rfl, rfl, hig, hn3, hh3, HCN, HCH, HX⟩ := hrel
        by_cases hi : i < l.length
        · obtain ⟨b1, o1, nv1, pv1, ix, e0, e1, e2, e3, is1⟩ := (HP.out.later HX.out).at i hi
          have hps := HSZ.out i hi
          have hol := HOL.out l[i]
          have ht := HT.out i hi
          have ht2 := HT2.out i hi
          have hle2 := HLE.out i
          have hle3 := HLE.out (i + 1)
          have hrx := HK.out l[i] (List.getElem_mem hi)
          have hn2 := HN.out
          have hz2 := HZ.out
          obtain ⟨y, hy⟩ : ∃ y, l[i] = y := ⟨_, rfl⟩
          rw [hy] at e0 e1 is1 hps hol ht ht2 hrx
          have hcn := HCN.out
          have hch := HCH.out
          have kc : n + own y + 1 ≤ 3000000 ∧ h + half y ≤ 3000000 := by omega
          obtain ⟨kc1, kc2⟩ := kc
          have HOY : Hid (own y ≤ 2000000) := hid (by omega)
          have HHY : Hid (half y ≤ 1000000) := hid (by omega)
          have hoy := HOY.out
          have hhy := HHY.out
          obtain ⟨xn, xp⟩ := is1.parts
          obtain ⟨xo, xl, xc, rfl⟩ := Strs.form xn
          obtain ⟨yo, yl, yc, rfl⟩ := xp.form
          obtain ⟨Y, hY⟩ : ∃ Y, X.alloc (.cells #[.int .i64 y.kind, .string (text y.s), .slice xo xl xc, .slice yo yl yc] 25) = Y := ⟨_, rfl⟩
          have BY : Below X.heap.size X Y := hY ▸ ba (b0 X) _
          have PY : Y.heap[X.heap.size]? = some (.cells #[.int .i64 y.kind, .string (text y.s), .slice xo xl xc, .slice yo yl yc] 25) := hY ▸ heap_alloc_new X _
          obtain ⟨y0, y1, y2, y3⟩ := box_cells PY
          have CC := hid (HIH.out y xo xl xc yo yl yc Y (by omega) hrx (is1.later BY) (by omega))
          unfold exV at CC
          have HPY := hid PY
          have HBY := hid (bt HX.out BY)
          have HTT : Hid (n + own y + (if y.kind = 19 then 0 else 1) = 1 + ownL (l.take (i + 1))) := hid (by omega)
          have HTH : Hid (h + half y = 0 + halfL (l.take (i + 1))) := hid (by omega)
          clear hps hol ht ht2 hle2 hle3 hrx hn2 hz2 hcn hch xn xp is1 BY PY hy HOY HHY
          generalize own y = oy at *
          generalize half y = hy at *
          go_wp2_with fail
          refine CC.out.mono ?_
          rintro r w2 ⟨rfl, hb2⟩
          have HB2 := hid (bt HBY.out hb2)
          have yk : w2.cell? ⟨X.heap.size, 0, none⟩ = some (.int .i64 y.kind) := (box_cells ((hb2.block _ (World.block_lt_of_cell? _ ⟨X.heap.size, 0, none⟩ y0)).trans HPY.out)).1
          clear hb2 y0 y1 y2 y3 CC e0 e1 e2 e3
          by_cases h19 : y.kind = 19
          · rw [if_pos h19] at HTT
            rw [h19] at yk
            clear h19
            go_wp2
            go_roundg (gk - 1)
            case measure => omega
            case rel => exact ⟨i + 1, n + oy, h + hy, rfl, rfl, rfl, by omega, by omega, by omega, hid (by have := HTT.out; omega), HTH, HB2⟩
          · rw [if_neg h19] at HTT
            have q19 : (y.kind != 19) = true := by rw [bne_iff_ne]; exact h19
            clear h19
            generalize y.kind = kk at *
            go_wp2
            go_roundg (gk - 1)
            case measure => omega
            case rel => exact ⟨i + 1, n + oy + 1, h + hy, rfl, rfl, rfl, by omega, by omega, by omega, hid (by have := HTT.out; omega), HTH, HB2⟩
        · obtain rfl : i = l.length := by omega
          rw [List.take_length] at HCN HCH
          go_wp2
          go_ret2
          refine ⟨?_, HBV.out.trans (HX.out.mono HBV.out.size)⟩
          rw [HO.out, HH.out, HCN.out, HCH.out]
          rfl
    · go_enter Tryz.func15, Tryz.ntmps15
      go_wp2_with fail
      clear a0 a1 a2 a3
      go_loopg [51, 4, 5] l.length (fun gk iv nv hv X => ∃ i n h : Nat, iv = .int .i64 i ∧ nv = .int .i64 n ∧ hv = .int .i64 h ∧ i + gk = l.length ∧ n ≤ 3000000 ∧ h ≤ 3000000 ∧ Hid (n = 1 + ownL (l.take i)) ∧ Hid (h = 0 + halfL (l.take i)) ∧ Hid (Below V.heap.size V X))
      case atStart => exact ⟨0, 1, 0, rfl, rfl, rfl, by omega, by omega, by omega, hid (by simp [ownL]), hid (by simp [halfL]), by first | exact hid (b0 V) | exact hid (below_drewN (b0 V) _)⟩
      case round =>
        rename World => X
        obtain ⟨i, n, h, rfl, rfl, rfl, hig, hn3, hh3, HCN, HCH, HX⟩ := hrel
        by_cases hi : i < l.length
        · obtain ⟨b1, o1, nv1, pv1, ix, e0, e1, e2, e3, is1⟩ := (HP.out.later HX.out).at i hi
          have hps := HSZ.out i hi
          have hol := HOL.out l[i]
          have ht := HT.out i hi
          have ht2 := HT2.out i hi
          have hle2 := HLE.out i
          have hle3 := HLE.out (i + 1)
          have hrx := HK.out l[i] (List.getElem_mem hi)
          have hn2 := HN.out
          have hz2 := HZ.out
          obtain ⟨y, hy⟩ : ∃ y, l[i] = y := ⟨_, rfl⟩
          rw [hy] at e0 e1 is1 hps hol ht ht2 hrx
          have hcn := HCN.out
          have hch := HCH.out
          have kc : n + own y + 1 ≤ 3000000 ∧ h + half y ≤ 3000000 := by omega
          obtain ⟨kc1, kc2⟩ := kc
          have HOY : Hid (own y ≤ 2000000) := hid (by omega)
          have HHY : Hid (half y ≤ 1000000) := hid (by omega)
          have hoy := HOY.out
          have hhy := HHY.out
          obtain ⟨xn, xp⟩ := is1.parts
          obtain ⟨xo, xl, xc, rfl⟩ := Strs.form xn
          obtain ⟨yo, yl, yc, rfl⟩ := xp.form
          obtain ⟨Y, hY⟩ : ∃ Y, X.alloc (.cells #[.int .i64 y.kind, .string (text y.s), .slice xo xl xc, .slice yo yl yc] 25) = Y := ⟨_, rfl⟩
          have BY : Below X.heap.size X Y := hY ▸ ba (b0 X) _
          have PY : Y.heap[X.heap.size]? = some (.cells #[.int .i64 y.kind, .string (text y.s), .slice xo xl xc, .slice yo yl yc] 25) := hY ▸ heap_alloc_new X _
          obtain ⟨y0, y1, y2, y3⟩ := box_cells PY
          have CC := hid (HIH.out y xo xl xc yo yl yc Y (by omega) hrx (is1.later BY) (by omega))
          unfold exV at CC
          have HPY := hid PY
          have HBY := hid (bt HX.out BY)
          have HTT : Hid (n + own y + (if y.kind = 19 then 0 else 1) = 1 + ownL (l.take (i + 1))) := hid (by omega)
          have HTH : Hid (h + half y = 0 + halfL (l.take (i + 1))) := hid (by omega)
          clear hps hol ht ht2 hle2 hle3 hrx hn2 hz2 hcn hch xn xp is1 BY PY hy HOY HHY
          generalize own y = oy at *
          generalize half y = hy at *
          go_wp2_with fail
          refine CC.out.mono ?_
          rintro r w2 ⟨rfl, hb2⟩
          have HB2 := hid (bt HBY.out hb2)
          have yk : w2.cell? ⟨X.heap.size, 0, none⟩ = some (.int .i64 y.kind) := (box_cells ((hb2.block _ (World.block_lt_of_cell? _ ⟨X.heap.size, 0, none⟩ y0)).trans HPY.out)).1
          clear hb2 y0 y1 y2 y3 CC e0 e1 e2 e3
          by_cases h19 : y.kind = 19
          · rw [if_pos h19] at HTT
            rw [h19] at yk
            clear h19
            go_wp2
            go_roundg (gk - 1)
            case measure => omega
            case rel => exact ⟨i + 1, n + oy, h + hy, rfl, rfl, rfl, by omega, by omega, by omega, hid (by have := HTT.out; omega), HTH, HB2⟩
          · rw [if_neg h19] at HTT
            have q19 : (y.kind != 19) = true := by rw [bne_iff_ne]; exact h19
            clear h19
            generalize y.kind = kk at *
            go_wp2
            go_roundg (gk - 1)
            case measure => omega
            case rel => exact ⟨i + 1, n + oy + 1, h + hy, rfl, rfl, rfl, by omega, by omega, by omega, hid (by have := HTT.out; omega), HTH, HB2⟩
        · obtain rfl : i = l.length := by omega
          rw [List.take_length] at HCN HCH
          go_wp2
          go_ret2
          refine ⟨?_, HBV.out.trans (HX.out.mono HBV.out.size)⟩
          rw [HO.out, HH.out, HCN.out, HCH.out]
          rfl
    · rcases hs with rfl | rfl | rfl | rfl
      · rw [show text [91, 93] = ⟨#[91, 93]⟩ from rfl] at a1 hV ⊢
        go_enter Tryz.func15, Tryz.ntmps15
        go_wp2_with fail
        go_quiet (fail)
        go_wp2_with fail
        clear a0 a1 a2 a3
        go_loopg [51, 4, 5] l.length (fun gk iv nv hv X => ∃ i n h : Nat, iv = .int .i64 i ∧ nv = .int .i64 n ∧ hv = .int .i64 h ∧ i + gk = l.length ∧ n ≤ 3000000 ∧ h ≤ 3000000 ∧ Hid (n = 0 + ownL (l.take i)) ∧ Hid (h = 0 + halfL (l.take i)) ∧ Hid (Below V.heap.size V X))
        case atStart => exact ⟨0, 0, 0, rfl, rfl, rfl, by omega, by omega, by omega, hid (by simp [ownL]), hid (by simp [halfL]), by first | exact hid (b0 V) | exact hid (below_drewN (b0 V) _)⟩
        case round =>
          rename World => X
          obtain ⟨i, n, h, rfl, rfl, rfl, hig, hn3, hh3, HCN, HCH, HX⟩ := hrel
          by_cases hi : i < l.length
          · obtain ⟨b1, o1, nv1, pv1, ix, e0, e1, e2, e3, is1⟩ := (HP.out.later HX.out).at i hi
            have hps := HSZ.out i hi
            have hol := HOL.out l[i]
            have ht := HT.out i hi
            have ht2 := HT2.out i hi
            have hle2 := HLE.out i
            have hle3 := HLE.out (i + 1)
            have hrx := HK.out l[i] (List.getElem_mem hi)
            have hn2 := HN.out
            have hz2 := HZ.out
            obtain ⟨y, hy⟩ : ∃ y, l[i] = y := ⟨_, rfl⟩
            rw [hy] at e0 e1 is1 hps hol ht ht2 hrx
            have hcn := HCN.out
            have hch := HCH.out
            have kc : n + own y + 1 ≤ 3000000 ∧ h + half y ≤ 3000000 := by omega
            obtain ⟨kc1, kc2⟩ := kc
            have HOY : Hid (own y ≤ 2000000) := hid (by omega)
            have HHY : Hid (half y ≤ 1000000) := hid (by omega)
            have hoy := HOY.out
            have hhy := HHY.out
            obtain ⟨xn, xp⟩ := is1.parts
            obtain ⟨xo, xl, xc, rfl⟩ := Strs.form xn
            obtain ⟨yo, yl, yc, rfl⟩ := xp.form
            obtain ⟨Y, hY⟩ : ∃ Y, X.alloc (.cells #[.int .i64 y.kind, .string (text y.s), .slice xo xl xc, .slice yo yl yc] 25) = Y := ⟨_, rfl⟩
            have BY : Below X.heap.size X Y := hY ▸ ba (b0 X) _
            have PY : Y.heap[X.heap.size]? = some (.cells #[.int .i64 y.kind, .string (text y.s), .slice xo xl xc, .slice yo yl yc] 25) := hY ▸ heap_alloc_new X _
            obtain ⟨y0, y1, y2, y3⟩ := box_cells PY
            have CC := hid (HIH.out y xo xl xc yo yl yc Y (by omega) hrx (is1.later BY) (by omega))
            unfold exV at CC
            have HPY := hid PY
            have HBY := hid (bt HX.out BY)
            have HTT : Hid (n + own y + (if y.kind = 19 then 0 else 1) = 0 + ownL (l.take (i + 1))) := hid (by omega)
            have HTH : Hid (h + half y = 0 + halfL (l.take (i + 1))) := hid (by omega)
            clear hps hol ht ht2 hle2 hle3 hrx hn2 hz2 hcn hch xn xp is1 BY PY hy HOY HHY
            generalize own y = oy at *
            generalize half y = hy at *
            go_wp2_with fail
            refine CC.out.mono ?_
            rintro r w2 ⟨rfl, hb2⟩
            have HB2 := hid (bt HBY.out hb2)
            have yk : w2.cell? ⟨X.heap.size, 0, none⟩ = some (.int .i64 y.kind) := (box_cells ((hb2.block _ (World.block_lt_of_cell? _ ⟨X.heap.size, 0, none⟩ y0)).trans HPY.out)).1
            clear hb2 y0 y1 y2 y3 CC e0 e1 e2 e3
            by_cases h19 : y.kind = 19
            · rw [if_pos h19] at HTT
              rw [h19] at yk
              clear h19
              go_wp2
              go_roundg (gk - 1)
              case measure => omega
              case rel => exact ⟨i + 1, n + oy, h + hy, rfl, rfl, rfl, by omega, by omega, by omega, hid (by have := HTT.out; omega), HTH, HB2⟩
            · rw [if_neg h19] at HTT
              have q19 : (y.kind != 19) = true := by rw [bne_iff_ne]; exact h19
              clear h19
              generalize y.kind = kk at *
              go_wp2
              go_roundg (gk - 1)
              case measure => omega
              case rel => exact ⟨i + 1, n + oy + 1, h + hy, rfl, rfl, rfl, by omega, by omega, by omega, hid (by have := HTT.out; omega), HTH, HB2⟩
          · obtain rfl : i = l.length := by omega
            rw [List.take_length] at HCN HCH
            go_wp2
            go_ret2
            refine ⟨?_, HBV.out.trans (HX.out.mono HBV.out.size)⟩
            rw [HO.out, HH.out, HCN.out, HCH.out]
            rfl
      · rw [show text [91, 41] = ⟨#[91, 41]⟩ from rfl] at a1 hV ⊢
        go_enter Tryz.func15, Tryz.ntmps15
        go_wp2_with fail
        go_quiet (fail)
        go_wp2_with fail
        clear a0 a1 a2 a3
        go_loopg [51, 4, 5] l.length (fun gk iv nv hv X => ∃ i n h : Nat, iv = .int .i64 i ∧ nv = .int .i64 n ∧ hv = .int .i64 h ∧ i + gk = l.length ∧ n ≤ 3000000 ∧ h ≤ 3000000 ∧ Hid (n = 0 + ownL (l.take i)) ∧ Hid (h = 1 + halfL (l.take i)) ∧ Hid (Below V.heap.size V X))
        case atStart => exact ⟨0, 0, 1, rfl, rfl, rfl, by omega, by omega, by omega, hid (by simp [ownL]), hid (by simp [halfL]), by first | exact hid (b0 V) | exact hid (below_drewN (b0 V) _)⟩
        case round =>
          rename World => X
          obtain ⟨i, n, h, rfl, rfl, rfl, hig, hn3, hh3, HCN, HCH, HX⟩ := hrel
          by_cases hi : i < l.length
          · obtain ⟨b1, o1, nv1, pv1, ix, e0, e1, e2, e3, is1⟩ := (HP.out.later HX.out).at i hi
            have hps := HSZ.out i hi
            have hol := HOL.out l[i]
            have ht := HT.out i hi
            have ht2 := HT2.out i hi
            have hle2 := HLE.out i
            have hle3 := HLE.out (i + 1)
            have hrx := HK.out l[i] (List.getElem_mem hi)
            have hn2 := HN.out
            have hz2 := HZ.out
            obtain ⟨y, hy⟩ : ∃ y, l[i] = y := ⟨_, rfl⟩
            rw [hy] at e0 e1 is1 hps hol ht ht2 hrx
            have hcn := HCN.out
            have hch := HCH.out
            have kc : n + own y + 1 ≤ 3000000 ∧ h + half y ≤ 3000000 := by omega
            obtain ⟨kc1, kc2⟩ := kc
            have HOY : Hid (own y ≤ 2000000) := hid (by omega)
            have HHY : Hid (half y ≤ 1000000) := hid (by omega)
            have hoy := HOY.out
            have hhy := HHY.out
            obtain ⟨xn, xp⟩ := is1.parts
            obtain ⟨xo, xl, xc, rfl⟩ := Strs.form xn
            obtain ⟨yo, yl, yc, rfl⟩ := xp.form
            obtain ⟨Y, hY⟩ : ∃ Y, X.alloc (.cells #[.int .i64 y.kind, .string (text y.s), .slice xo xl xc, .slice yo yl yc] 25) = Y := ⟨_, rfl⟩
            have BY : Below X.heap.size X Y := hY ▸ ba (b0 X) _
            have PY : Y.heap[X.heap.size]? = some (.cells #[.int .i64 y.kind, .string (text y.s), .slice xo xl xc, .slice yo yl yc] 25) := hY ▸ heap_alloc_new X _
            obtain ⟨y0, y1, y2, y3⟩ := box_cells PY
            have CC := hid (HIH.out y xo xl xc yo yl yc Y (by omega) hrx (is1.later BY) (by omega))
            unfold exV at CC
            have HPY := hid PY
            have HBY := hid (bt HX.out BY)
            have HTT : Hid (n + own y + (if y.kind = 19 then 0 else 1) = 0 + ownL (l.take (i + 1))) := hid (by omega)
            have HTH : Hid (h + half y = 1 + halfL (l.take (i + 1))) := hid (by omega)
            clear hps hol ht ht2 hle2 hle3 hrx hn2 hz2 hcn hch xn xp is1 BY PY hy HOY HHY
            generalize own y = oy at *
            generalize half y = hy at *
            go_wp2_with fail
            refine CC.out.mono ?_
            rintro r w2 ⟨rfl, hb2⟩
            have HB2 := hid (bt HBY.out hb2)
            have yk : w2.cell? ⟨X.heap.size, 0, none⟩ = some (.int .i64 y.kind) := (box_cells ((hb2.block _ (World.block_lt_of_cell? _ ⟨X.heap.size, 0, none⟩ y0)).trans HPY.out)).1
            clear hb2 y0 y1 y2 y3 CC e0 e1 e2 e3
            by_cases h19 : y.kind = 19
            · rw [if_pos h19] at HTT
              rw [h19] at yk
              clear h19
              go_wp2
              go_roundg (gk - 1)
              case measure => omega
              case rel => exact ⟨i + 1, n + oy, h + hy, rfl, rfl, rfl, by omega, by omega, by omega, hid (by have := HTT.out; omega), HTH, HB2⟩
            · rw [if_neg h19] at HTT
              have q19 : (y.kind != 19) = true := by rw [bne_iff_ne]; exact h19
              clear h19
              generalize y.kind = kk at *
              go_wp2
              go_roundg (gk - 1)
              case measure => omega
              case rel => exact ⟨i + 1, n + oy + 1, h + hy, rfl, rfl, rfl, by omega, by omega, by omega, hid (by have := HTT.out; omega), HTH, HB2⟩
          · obtain rfl : i = l.length := by omega
            rw [List.take_length] at HCN HCH
            go_wp2
            go_ret2
            refine ⟨?_, HBV.out.trans (HX.out.mono HBV.out.size)⟩
            rw [HO.out, HH.out, HCN.out, HCH.out]
            rfl
      · rw [show text [40, 93] = ⟨#[40, 93]⟩ from rfl] at a1 hV ⊢
        go_enter Tryz.func15, Tryz.ntmps15
        go_wp2_with fail
        go_quiet (fail)
        go_wp2_with fail
        clear a0 a1 a2 a3
        go_loopg [51, 4, 5] l.length (fun gk iv nv hv X => ∃ i n h : Nat, iv = .int .i64 i ∧ nv = .int .i64 n ∧ hv = .int .i64 h ∧ i + gk = l.length ∧ n ≤ 3000000 ∧ h ≤ 3000000 ∧ Hid (n = 1 + ownL (l.take i)) ∧ Hid (h = 1 + halfL (l.take i)) ∧ Hid (Below V.heap.size V X))
        case atStart => exact ⟨0, 1, 1, rfl, rfl, rfl, by omega, by omega, by omega, hid (by simp [ownL]), hid (by simp [halfL]), by first | exact hid (b0 V) | exact hid (below_drewN (b0 V) _)⟩
        case round =>
          rename World => X
          obtain ⟨i, n, h, rfl, rfl, rfl, hig, hn3, hh3, HCN, HCH, HX⟩ := hrel
          by_cases hi : i < l.length
          · obtain ⟨b1, o1, nv1, pv1, ix, e0, e1, e2, e3, is1⟩ := (HP.out.later HX.out).at i hi
            have hps := HSZ.out i hi
            have hol := HOL.out l[i]
            have ht := HT.out i hi
            have ht2 := HT2.out i hi
            have hle2 := HLE.out i
            have hle3 := HLE.out (i + 1)
            have hrx := HK.out l[i] (List.getElem_mem hi)
            have hn2 := HN.out
            have hz2 := HZ.out
            obtain ⟨y, hy⟩ : ∃ y, l[i] = y := ⟨_, rfl⟩
            rw [hy] at e0 e1 is1 hps hol ht ht2 hrx
            have hcn := HCN.out
            have hch := HCH.out
            have kc : n + own y + 1 ≤ 3000000 ∧ h + half y ≤ 3000000 := by omega
            obtain ⟨kc1, kc2⟩ := kc
            have HOY : Hid (own y ≤ 2000000) := hid (by omega)
            have HHY : Hid (half y ≤ 1000000) := hid (by omega)
            have hoy := HOY.out
            have hhy := HHY.out
            obtain ⟨xn, xp⟩ := is1.parts
            obtain ⟨xo, xl, xc, rfl⟩ := Strs.form xn
            obtain ⟨yo, yl, yc, rfl⟩ := xp.form
            obtain ⟨Y, hY⟩ : ∃ Y, X.alloc (.cells #[.int .i64 y.kind, .string (text y.s), .slice xo xl xc, .slice yo yl yc] 25) = Y := ⟨_, rfl⟩
            have BY : Below X.heap.size X Y := hY ▸ ba (b0 X) _
            have PY : Y.heap[X.heap.size]? = some (.cells #[.int .i64 y.kind, .string (text y.s), .slice xo xl xc, .slice yo yl yc] 25) := hY ▸ heap_alloc_new X _
            obtain ⟨y0, y1, y2, y3⟩ := box_cells PY
            have CC := hid (HIH.out y xo xl xc yo yl yc Y (by omega) hrx (is1.later BY) (by omega))
            unfold exV at CC
            have HPY := hid PY
            have HBY := hid (bt HX.out BY)
            have HTT : Hid (n + own y + (if y.kind = 19 then 0 else 1) = 1 + ownL (l.take (i + 1))) := hid (by omega)
            have HTH : Hid (h + half y = 1 + halfL (l.take (i + 1))) := hid (by omega)
            clear hps hol ht ht2 hle2 hle3 hrx hn2 hz2 hcn hch xn xp is1 BY PY hy HOY HHY
            generalize own y = oy at *
            generalize half y = hy at *
            go_wp2_with fail
            refine CC.out.mono ?_
            rintro r w2 ⟨rfl, hb2⟩
            have HB2 := hid (bt HBY.out hb2)
            have yk : w2.cell? ⟨X.heap.size, 0, none⟩ = some (.int .i64 y.kind) := (box_cells ((hb2.block _ (World.block_lt_of_cell? _ ⟨X.heap.size, 0, none⟩ y0)).trans HPY.out)).1
            clear hb2 y0 y1 y2 y3 CC e0 e1 e2 e3
            by_cases h19 : y.kind = 19
            · rw [if_pos h19] at HTT
              rw [h19] at yk
              clear h19
              go_wp2
              go_roundg (gk - 1)
              case measure => omega
              case rel => exact ⟨i + 1, n + oy, h + hy, rfl, rfl, rfl, by omega, by omega, by omega, hid (by have := HTT.out; omega), HTH, HB2⟩
            · rw [if_neg h19] at HTT
              have q19 : (y.kind != 19) = true := by rw [bne_iff_ne]; exact h19
              clear h19
              generalize y.kind = kk at *
              go_wp2
              go_roundg (gk - 1)
              case measure => omega
              case rel => exact ⟨i + 1, n + oy + 1, h + hy, rfl, rfl, rfl, by omega, by omega, by omega, hid (by have := HTT.out; omega), HTH, HB2⟩
          · obtain rfl : i = l.length := by omega
            rw [List.take_length] at HCN HCH
            go_wp2
            go_ret2
            refine ⟨?_, HBV.out.trans (HX.out.mono HBV.out.size)⟩
            rw [HO.out, HH.out, HCN.out, HCH.out]
            rfl
      · rw [show text [40, 41] = ⟨#[40, 41]⟩ from rfl] at a1 hV ⊢
        go_enter Tryz.func15, Tryz.ntmps15
        go_wp2_with fail
        go_quiet (fail)
        go_wp2_with fail
        clear a0 a1 a2 a3
        go_loopg [51, 4, 5] l.length (fun gk iv nv hv X => ∃ i n h : Nat, iv = .int .i64 i ∧ nv = .int .i64 n ∧ hv = .int .i64 h ∧ i + gk = l.length ∧ n ≤ 3000000 ∧ h ≤ 3000000 ∧ Hid (n = 1 + ownL (l.take i)) ∧ Hid (h = 0 + halfL (l.take i)) ∧ Hid (Below V.heap.size V X))
        case atStart => exact ⟨0, 1, 0, rfl, rfl, rfl, by omega, by omega, by omega, hid (by simp [ownL]), hid (by simp [halfL]), by first | exact hid (b0 V) | exact hid (below_drewN (b0 V) _)⟩
        case round =>
          rename World => X
          obtain ⟨i, n, h, rfl, rfl, rfl, hig, hn3, hh3, HCN, HCH, HX⟩ := hrel
          by_cases hi : i < l.length
          · obtain ⟨b1, o1, nv1, pv1, ix, e0, e1, e2, e3, is1⟩ := (HP.out.later HX.out).at i hi
            have hps := HSZ.out i hi
            have hol := HOL.out l[i]
            have ht := HT.out i hi
            have ht2 := HT2.out i hi
            have hle2 := HLE.out i
            have hle3 := HLE.out (i + 1)
            have hrx := HK.out l[i] (List.getElem_mem hi)
            have hn2 := HN.out
            have hz2 := HZ.out
            obtain ⟨y, hy⟩ : ∃ y, l[i] = y := ⟨_, rfl⟩
            rw [hy] at e0 e1 is1 hps hol ht ht2 hrx
            have hcn := HCN.out
            have hch := HCH.out
            have kc : n + own y + 1 ≤ 3000000 ∧ h + half y ≤ 3000000 := by omega
            obtain ⟨kc1, kc2⟩ := kc
            have HOY : Hid (own y ≤ 2000000) := hid (by omega)
            have HHY : Hid (half y ≤ 1000000) := hid (by omega)
            have hoy := HOY.out
            have hhy := HHY.out
            obtain ⟨xn, xp⟩ := is1.parts
            obtain ⟨xo, xl, xc, rfl⟩ := Strs.form xn
            obtain ⟨yo, yl, yc, rfl⟩ := xp.form
            obtain ⟨Y, hY⟩ : ∃ Y, X.alloc (.cells #[.int .i64 y.kind, .string (text y.s), .slice xo xl xc, .slice yo yl yc] 25) = Y := ⟨_, rfl⟩
            have BY : Below X.heap.size X Y := hY ▸ ba (b0 X) _
            have PY : Y.heap[X.heap.size]? = some (.cells #[.int .i64 y.kind, .string (text y.s), .slice xo xl xc, .slice yo yl yc] 25) := hY ▸ heap_alloc_new X _
            obtain ⟨y0, y1, y2, y3⟩ := box_cells PY
            have CC := hid (HIH.out y xo xl xc yo yl yc Y (by omega) hrx (is1.later BY) (by omega))
            unfold exV at CC
            have HPY := hid PY
            have HBY := hid (bt HX.out BY)
            have HTT : Hid (n + own y + (if y.kind = 19 then 0 else 1) = 1 + ownL (l.take (i + 1))) := hid (by omega)
            have HTH : Hid (h + half y = 0 + halfL (l.take (i + 1))) := hid (by omega)
            clear hps hol ht ht2 hle2 hle3 hrx hn2 hz2 hcn hch xn xp is1 BY PY hy HOY HHY
            generalize own y = oy at *
            generalize half y = hy at *
            go_wp2_with fail
            refine CC.out.mono ?_
            rintro r w2 ⟨rfl, hb2⟩
            have HB2 := hid (bt HBY.out hb2)
            have yk : w2.cell? ⟨X.heap.size, 0, none⟩ = some (.int .i64 y.kind) := (box_cells ((hb2.block _ (World.block_lt_of_cell? _ ⟨X.heap.size, 0, none⟩ y0)).trans HPY.out)).1
            clear hb2 y0 y1 y2 y3 CC e0 e1 e2 e3
            by_cases h19 : y.kind = 19
            · rw [if_pos h19] at HTT
              rw [h19] at yk
              clear h19
              go_wp2
              go_roundg (gk - 1)
              case measure => omega
              case rel => exact ⟨i + 1, n + oy, h + hy, rfl, rfl, rfl, by omega, by omega, by omega, hid (by have := HTT.out; omega), HTH, HB2⟩
            · rw [if_neg h19] at HTT
              have q19 : (y.kind != 19) = true := by rw [bne_iff_ne]; exact h19
              clear h19
              generalize y.kind = kk at *
              go_wp2
              go_roundg (gk - 1)
              case measure => omega
              case rel => exact ⟨i + 1, n + oy + 1, h + hy, rfl, rfl, rfl, by omega, by omega, by omega, hid (by have := HTT.out; omega), HTH, HB2⟩
          · obtain rfl : i = l.length := by omega
            rw [List.take_length] at HCN HCH
            go_wp2
            go_ret2
            refine ⟨?_, HBV.out.trans (HX.out.mono HBV.out.size)⟩
            rw [HO.out, HH.out, HCN.out, HCH.out]
            rfl
    · have HO2 := hid (show own (.mk k s nm l) = 0 + ownL l by rw [HO.out, if_neg (by omega), if_neg (by omega)])
      have HH2 := hid (show half (.mk k s nm l) = 0 + halfL l by rw [HH.out, if_neg (by omega)])
      clear HO HH
      rename Hid (own (.mk k s nm l) = 0 + ownL l) => HO
      rename Hid (half (.mk k s nm l) = 0 + halfL l) => HH
      have q1 : (k == 10) = false := by rw [beq_eq_false_iff_ne]; exact h1
      have q2 : (k == 15) = false := by rw [beq_eq_false_iff_ne]; exact h2
      have q3 : (k == 18) = false := by rw [beq_eq_false_iff_ne]; exact h3
      go_enter Tryz.func15, Tryz.ntmps15
      go_wp2_with fail
      clear a0 a1 a2 a3
      go_loopg [51, 4, 5] l.length (fun gk iv nv hv X => ∃ i n h : Nat, iv = .int .i64 i ∧ nv = .int .i64 n ∧ hv = .int .i64 h ∧ i + gk = l.length ∧ n ≤ 3000000 ∧ h ≤ 3000000 ∧ Hid (n = 0 + ownL (l.take i)) ∧ Hid (h = 0 + halfL (l.take i)) ∧ Hid (Below V.heap.size V X))
      case atStart => exact ⟨0, 0, 0, rfl, rfl, rfl, by omega, by omega, by omega, hid (by simp [ownL]), hid (by simp [halfL]), by first | exact hid (b0 V) | exact hid (below_drewN (b0 V) _)⟩
      case round =>
        rename World => X
        obtain ⟨i, n, h, rfl, rfl, rfl, hig, hn3, hh3, HCN, HCH, HX⟩ := hrel
        by_cases hi : i < l.length
        · obtain ⟨b1, o1, nv1, pv1, ix, e0, e1, e2, e3, is1⟩ := (HP.out.later HX.out).at i hi
          have hps := HSZ.out i hi
          have hol := HOL.out l[i]
          have ht := HT.out i hi
          have ht2 := HT2.out i hi
          have hle2 := HLE.out i
          have hle3 := HLE.out (i + 1)
          have hrx := HK.out l[i] (List.getElem_mem hi)
          have hn2 := HN.out
          have hz2 := HZ.out
          obtain ⟨y, hy⟩ : ∃ y, l[i] = y := ⟨_, rfl⟩
          rw [hy] at e0 e1 is1 hps hol ht ht2 hrx
          have hcn := HCN.out
          have hch := HCH.out
          have kc : n + own y + 1 ≤ 3000000 ∧ h + half y ≤ 3000000 := by omega
          obtain ⟨kc1, kc2⟩ := kc
          have HOY : Hid (own y ≤ 2000000) := hid (by omega)
          have HHY : Hid (half y ≤ 1000000) := hid (by omega)
          have hoy := HOY.out
          have hhy := HHY.out
          obtain ⟨xn, xp⟩ := is1.parts
          obtain ⟨xo, xl, xc, rfl⟩ := Strs.form xn
          obtain ⟨yo, yl, yc, rfl⟩ := xp.form
          obtain ⟨Y, hY⟩ : ∃ Y, X.alloc (.cells #[.int .i64 y.kind, .string (text y.s), .slice xo xl xc, .slice yo yl yc] 25) = Y := ⟨_, rfl⟩
          have BY : Below X.heap.size X Y := hY ▸ ba (b0 X) _
          have PY : Y.heap[X.heap.size]? = some (.cells #[.int .i64 y.kind, .string (text y.s), .slice xo xl xc, .slice yo yl yc] 25) := hY ▸ heap_alloc_new X _
          obtain ⟨y0, y1, y2, y3⟩ := box_cells PY
          have CC := hid (HIH.out y xo xl xc yo yl yc Y (by omega) hrx (is1.later BY) (by omega))
          unfold exV at CC
          have HPY := hid PY
          have HBY := hid (bt HX.out BY)
          have HTT : Hid (n + own y + (if y.kind = 19 then 0 else 1) = 0 + ownL (l.take (i + 1))) := hid (by omega)
          have HTH : Hid (h + half y = 0 + halfL (l.take (i + 1))) := hid (by omega)
          clear hps hol ht ht2 hle2 hle3 hrx hn2 hz2 hcn hch xn xp is1 BY PY hy HOY HHY
          generalize own y = oy at *
          generalize half y = hy at *
          go_wp2_with fail
          refine CC.out.mono ?_
          rintro r w2 ⟨rfl, hb2⟩
          have HB2 := hid (bt HBY.out hb2)
          have yk : w2.cell? ⟨X.heap.size, 0, none⟩ = some (.int .i64 y.kind) := (box_cells ((hb2.block _ (World.block_lt_of_cell? _ ⟨X.heap.size, 0, none⟩ y0)).trans HPY.out)).1
          clear hb2 y0 y1 y2 y3 CC e0 e1 e2 e3
          by_cases h19 : y.kind = 19
          · rw [if_pos h19] at HTT
            rw [h19] at yk
            clear h19
            go_wp2
            go_roundg (gk - 1)
            case measure => omega
            case rel => exact ⟨i + 1, n + oy, h + hy, rfl, rfl, rfl, by omega, by omega, by omega, hid (by have := HTT.out; omega), HTH, HB2⟩
          · rw [if_neg h19] at HTT
            have q19 : (y.kind != 19) = true := by rw [bne_iff_ne]; exact h19
            clear h19
            generalize y.kind = kk at *
            go_wp2
            go_roundg (gk - 1)
            case measure => omega
            case rel => exact ⟨i + 1, n + oy + 1, h + hy, rfl, rfl, rfl, by omega, by omega, by omega, hid (by have := HTT.out; omega), HTH, HB2⟩
        · obtain rfl : i = l.length := by omega
          rw [List.take_length] at HCN HCH
          go_wp2
          go_ret2
          refine ⟨?_, HBV.out.trans (HX.out.mono HBV.out.size)⟩
          rw [HO.out, HH.out, HCN.out, HCH.out]
          rfl
end Go.Proofs.YtkmdclfkmmlloaaGreatDoor.Fp
namespace Go.Proofs.YtkmdclfkmmlloaaGreatDoor.Fp
open Go Go.Proofs.YtkmdclfkmmlloaaGreatDoor Go.Proofs.YtkmdclfkmmlloaaGreatDoor.Utf Go.Proofs.YtkmdclfkmmlloaaGreatDoor.Fl Go.Proofs.YtkmdclfkmmlloaaGreatDoor.Fx Go.RowKit
set_option maxRecDepth 100000

/-- How often a sign stands there. -/
def zc (b : UInt8) (l : List Lz) : Nat := l.countP fun t => decide (t.kind = 4) && decide (t.s = [b])
theorem zc_take (b : UInt8) (l : List Lz) (i : Nat) (hi : i < l.length) : zc b (l.take (i + 1)) = zc b (l.take i) + (if l[i].kind = 4 ∧ l[i].s = [b] then 1 else 0) := by
  unfold zc
  rw [List.take_succ_eq_append_getElem hi, List.countP_append]
  congr 1
  by_cases h : l[i].kind = 4 ∧ l[i].s = [b]
  · rw [if_pos h, List.countP_cons_of_pos (by simp [h.1, h.2])]; rfl
  · rw [if_neg h, List.countP_cons_of_neg (by simpa using h)]; rfl
theorem zc_le (b : UInt8) (l : List Lz) (i : Nat) : zc b (l.take i) ≤ l.length := by
  have h1 := List.countP_le_length (p := fun t : Lz => decide (t.kind = 4) && decide (t.s = [b])) (l := l.take i)
  rw [List.length_take] at h1
  unfold zc; omega
def brk : List UInt8 := [40, 91, 41, 93, 123, 125]
def six (f : UInt8 → Nat) : Array Value := #[.int .i64 (f 40), .int .i64 (f 91), .int .i64 (f 41), .int .i64 (f 93), .int .i64 (f 123), .int .i64 (f 125)]
/-- What is counted of a token, behind the first j brackets. -/
def add (f : UInt8 → Nat) (ss : List UInt8) (j : Nat) (b : UInt8) : Nat := f b + (if ss = [b] ∧ b ∈ brk.take j then 1 else 0)
theorem add_none (f : UInt8 → Nat) (ss : List UInt8) (j : Nat) (b : UInt8) (hb : brk[j]? = some b) (h : ss ≠ [b]) : add f ss (j + 1) = add f ss j := by
  have hj : j < brk.length := (List.getElem?_eq_some_iff.1 hb).1
  have hbj := (List.getElem?_eq_some_iff.1 hb).2
  funext c
  unfold add
  congr 1
  have e : (ss = [c] ∧ c ∈ brk.take (j + 1)) ↔ (ss = [c] ∧ c ∈ brk.take j) := by
    rw [List.take_succ_eq_append_getElem hj, List.mem_append, List.mem_singleton, hbj]
    constructor
    · rintro ⟨h1, h2 | h2⟩
      · exact ⟨h1, h2⟩
      · exact absurd (h2 ▸ h1) h
    · rintro ⟨h1, h2⟩
      exact ⟨h1, .inl h2⟩
  simp only [e]
theorem add_done (L : List Lz) (i : Nat) (hi : i < L.length) (h4 : L[i].kind = 4) (b : UInt8) (hb : b ∈ brk) : add (fun b => zc b (L.take i)) L[i].s 6 b = zc b (L.take (i + 1)) := by
  rw [zc_take b L i hi]
  unfold add
  have : brk.take 6 = brk := rfl
  rw [this]
  simp [h4, hb]
theorem six_ext {f g : UInt8 → Nat} (h : ∀ b ∈ brk, f b = g b) : six f = six g := by
  unfold six
  rw [h 40 (by decide), h 91 (by decide), h 41 (by decide), h 93 (by decide), h 123 (by decide), h 125 (by decide)]
theorem add_zero (f : UInt8 → Nat) (ss : List UInt8) : add f ss 0 = f := by
  funext b; unfold add; simp
theorem six_cell {w : World} {b : Nat} {f : UInt8 → Nat} {t : TypeId} (h : w.heap[b]? = some (.cells (six f) t (0, 0))) :
    w.cell? ⟨b, 0, none⟩ = some (.int .i64 (f 40)) ∧ w.cell? ⟨b, 1, none⟩ = some (.int .i64 (f 91)) ∧ w.cell? ⟨b, 2, none⟩ = some (.int .i64 (f 41)) ∧ w.cell? ⟨b, 3, none⟩ = some (.int .i64 (f 93)) ∧ w.cell? ⟨b, 4, none⟩ = some (.int .i64 (f 123)) ∧ w.cell? ⟨b, 5, none⟩ = some (.int .i64 (f 125)) := by
  refine ⟨?_, ?_, ?_, ?_, ?_, ?_⟩ <;> (rw [Lib.cell_of_heap h]; rfl)
theorem six_set0 {w : World} {nb : Nat} {f : UInt8 → Nat} {t : TypeId} (h : w.heap[nb]? = some (.cells (six (add f [40] 0)) t (0, 0))) :
    (w.setCell ⟨nb, 0, none⟩ (.int .i64 ((add f [40] 0 40 : Nat) + 1 : Int))).heap[nb]? = some (.cells (six (add f [40] 1)) t (0, 0)) := by
  have e : (w.setCell ⟨nb, 0, none⟩ (.int .i64 ((add f [40] 0 40 : Nat) + 1 : Int))).heap[nb]? = some (.cells ((six (add f [40] 0)).set! 0 (.int .i64 ((add f [40] 0 40 : Nat) + 1 : Int))) t (0, 0)) := by
    simp [World.setCell, Array.getElem?_modify, h]
  rw [e]
  simp [six, add, brk]
theorem six_set1 {w : World} {nb : Nat} {f : UInt8 → Nat} {t : TypeId} (h : w.heap[nb]? = some (.cells (six (add f [91] 1)) t (0, 0))) :
    (w.setCell ⟨nb, 1, none⟩ (.int .i64 ((add f [91] 1 91 : Nat) + 1 : Int))).heap[nb]? = some (.cells (six (add f [91] 2)) t (0, 0)) := by
  have e : (w.setCell ⟨nb, 1, none⟩ (.int .i64 ((add f [91] 1 91 : Nat) + 1 : Int))).heap[nb]? = some (.cells ((six (add f [91] 1)).set! 1 (.int .i64 ((add f [91] 1 91 : Nat) + 1 : Int))) t (0, 0)) := by
    simp [World.setCell, Array.getElem?_modify, h]
  rw [e]
  simp [six, add, brk]
theorem six_set2 {w : World} {nb : Nat} {f : UInt8 → Nat} {t : TypeId} (h : w.heap[nb]? = some (.cells (six (add f [41] 2)) t (0, 0))) :
    (w.setCell ⟨nb, 2, none⟩ (.int .i64 ((add f [41] 2 41 : Nat) + 1 : Int))).heap[nb]? = some (.cells (six (add f [41] 3)) t (0, 0)) := by
  have e : (w.setCell ⟨nb, 2, none⟩ (.int .i64 ((add f [41] 2 41 : Nat) + 1 : Int))).heap[nb]? = some (.cells ((six (add f [41] 2)).set! 2 (.int .i64 ((add f [41] 2 41 : Nat) + 1 : Int))) t (0, 0)) := by
    simp [World.setCell, Array.getElem?_modify, h]
  rw [e]
  simp [six, add, brk]
theorem six_set3 {w : World} {nb : Nat} {f : UInt8 → Nat} {t : TypeId} (h : w.heap[nb]? = some (.cells (six (add f [93] 3)) t (0, 0))) :
    (w.setCell ⟨nb, 3, none⟩ (.int .i64 ((add f [93] 3 93 : Nat) + 1 : Int))).heap[nb]? = some (.cells (six (add f [93] 4)) t (0, 0)) := by
  have e : (w.setCell ⟨nb, 3, none⟩ (.int .i64 ((add f [93] 3 93 : Nat) + 1 : Int))).heap[nb]? = some (.cells ((six (add f [93] 3)).set! 3 (.int .i64 ((add f [93] 3 93 : Nat) + 1 : Int))) t (0, 0)) := by
    simp [World.setCell, Array.getElem?_modify, h]
  rw [e]
  simp [six, add, brk]
theorem six_set4 {w : World} {nb : Nat} {f : UInt8 → Nat} {t : TypeId} (h : w.heap[nb]? = some (.cells (six (add f [123] 4)) t (0, 0))) :
    (w.setCell ⟨nb, 4, none⟩ (.int .i64 ((add f [123] 4 123 : Nat) + 1 : Int))).heap[nb]? = some (.cells (six (add f [123] 5)) t (0, 0)) := by
  have e : (w.setCell ⟨nb, 4, none⟩ (.int .i64 ((add f [123] 4 123 : Nat) + 1 : Int))).heap[nb]? = some (.cells ((six (add f [123] 4)).set! 4 (.int .i64 ((add f [123] 4 123 : Nat) + 1 : Int))) t (0, 0)) := by
    simp [World.setCell, Array.getElem?_modify, h]
  rw [e]
  simp [six, add, brk]
theorem six_set5 {w : World} {nb : Nat} {f : UInt8 → Nat} {t : TypeId} (h : w.heap[nb]? = some (.cells (six (add f [125] 5)) t (0, 0))) :
    (w.setCell ⟨nb, 5, none⟩ (.int .i64 ((add f [125] 5 125 : Nat) + 1 : Int))).heap[nb]? = some (.cells (six (add f [125] 6)) t (0, 0)) := by
  have e : (w.setCell ⟨nb, 5, none⟩ (.int .i64 ((add f [125] 5 125 : Nat) + 1 : Int))).heap[nb]? = some (.cells ((six (add f [125] 5)).set! 5 (.int .i64 ((add f [125] 5 125 : Nat) + 1 : Int))) t (0, 0)) := by
    simp [World.setCell, Array.getElem?_modify, h]
  rw [e]
  simp [six, add, brk]
theorem owns_set {B nb j : Nat} {w : World} {v : Value} {l : List Lz} (h : OwnL B w v l) (hb : nb < B) (u : Value) : OwnL B (w.setCell ⟨nb, j, none⟩ u) v l := ownsRow_setCell_below h hb u
theorem set_other {w : World} {nb j k : Nat} (u : Value) (h : k ≠ nb) : (w.setCell ⟨nb, j, none⟩ u).heap[k]? = w.heap[k]? := Below.heap_setCell w ⟨nb, j, none⟩ u k h
theorem below_set2 {B nb j : Nat} {w W : World} (h : Below B W w) (hb : B ≤ nb) (u : Value) : Below B W (w.setCell ⟨nb, j, none⟩ u) := h.trans (below_set w j u hb)
theorem six_size (w : World) (a : Addr) (u : Value) : (w.setCell a u).heap.size = w.heap.size := by simp [World.setCell]
def brkV : Array Value := #[.string ⟨#[40]⟩, .string ⟨#[91]⟩, .string ⟨#[41]⟩, .string ⟨#[93]⟩, .string ⟨#[123]⟩, .string ⟨#[125]⟩]
theorem brkV_cell {w : World} {b : Nat} {t : TypeId} (h : w.heap[b]? = some (.cells brkV t (0, 0))) :
    w.cell? ⟨b, 0, none⟩ = some (.string ⟨#[40]⟩) ∧ w.cell? ⟨b, 1, none⟩ = some (.string ⟨#[91]⟩) ∧ w.cell? ⟨b, 2, none⟩ = some (.string ⟨#[41]⟩) ∧ w.cell? ⟨b, 3, none⟩ = some (.string ⟨#[93]⟩) ∧ w.cell? ⟨b, 4, none⟩ = some (.string ⟨#[123]⟩) ∧ w.cell? ⟨b, 5, none⟩ = some (.string ⟨#[125]⟩) := by
  refine ⟨?_, ?_, ?_, ?_, ?_, ?_⟩ <;> (rw [Lib.cell_of_heap h]; rfl)
theorem six_one (f : UInt8 → Nat) : (six f).all (·.oneCell') = true := by kernel_rfl
theorem infoSix : (Tryz.prog.info? 39).map (·.size) = some 6 := by kernel_rfl
/-- How the world stands behind i tokens. -/
structure Cnt (w : World) (va : Value) (L : List Lz) (f : UInt8 → Nat) (X : World) : Prop where
  cnt : X.heap[w.heap.size + 1]? = some (.cells (six f) 39 (0, 0))
  res : X.heap[w.heap.size]? = some (.cells #[.int .i64 0, .int .i64 0, .int .i64 0, .int .i64 0, .int .i64 0, .int .i64 0] 39 (0, 0))
  own : OwnL (w.heap.size + 2) X va L
  old : Below w.heap.size w X
  top : w.heap.size + 2 ≤ X.heap.size
theorem Cnt.later {w X Y : World} {va : Value} {L : List Lz} {f : UInt8 → Nat} (h : Cnt w va L f X) (hb : Below X.heap.size X Y) : Cnt w va L f Y := by
  have := h.top
  exact ⟨(hb.block _ (by omega)).trans h.cnt, (hb.block _ (by omega)).trans h.res, h.own.later hb, h.old.trans (hb.mono (by omega)), Nat.le_trans h.top hb.size⟩
theorem Cnt.same {w X : World} {va : Value} {L : List Lz} {f g : UInt8 → Nat} (h : Cnt w va L f X) (e : ∀ b ∈ brk, f b = g b) : Cnt w va L g X := by
  have := six_ext e
  exact ⟨by rw [← this]; exact h.cnt, h.res, h.own, h.old, h.top⟩
theorem Cnt.set0 {w X : World} {va : Value} {L : List Lz} {f : UInt8 → Nat} (h : Cnt w va L (add f [40] 0) X) : Cnt w va L (add f [40] 1) (X.setCell ⟨w.heap.size + 1, 0, none⟩ (.int .i64 ((add f [40] 0 40 : Nat) + 1 : Int))) :=
  ⟨six_set0 h.cnt, by rw [set_other _ (by omega)]; exact h.res, owns_set h.own (by omega) _, below_set2 h.old (by omega) _, by rw [six_size]; exact h.top⟩
theorem Cnt.set1 {w X : World} {va : Value} {L : List Lz} {f : UInt8 → Nat} (h : Cnt w va L (add f [91] 1) X) : Cnt w va L (add f [91] 2) (X.setCell ⟨w.heap.size + 1, 1, none⟩ (.int .i64 ((add f [91] 1 91 : Nat) + 1 : Int))) :=
  ⟨six_set1 h.cnt, by rw [set_other _ (by omega)]; exact h.res, owns_set h.own (by omega) _, below_set2 h.old (by omega) _, by rw [six_size]; exact h.top⟩
theorem Cnt.set2 {w X : World} {va : Value} {L : List Lz} {f : UInt8 → Nat} (h : Cnt w va L (add f [41] 2) X) : Cnt w va L (add f [41] 3) (X.setCell ⟨w.heap.size + 1, 2, none⟩ (.int .i64 ((add f [41] 2 41 : Nat) + 1 : Int))) :=
  ⟨six_set2 h.cnt, by rw [set_other _ (by omega)]; exact h.res, owns_set h.own (by omega) _, below_set2 h.old (by omega) _, by rw [six_size]; exact h.top⟩
theorem Cnt.set3 {w X : World} {va : Value} {L : List Lz} {f : UInt8 → Nat} (h : Cnt w va L (add f [93] 3) X) : Cnt w va L (add f [93] 4) (X.setCell ⟨w.heap.size + 1, 3, none⟩ (.int .i64 ((add f [93] 3 93 : Nat) + 1 : Int))) :=
  ⟨six_set3 h.cnt, by rw [set_other _ (by omega)]; exact h.res, owns_set h.own (by omega) _, below_set2 h.old (by omega) _, by rw [six_size]; exact h.top⟩
theorem Cnt.set4 {w X : World} {va : Value} {L : List Lz} {f : UInt8 → Nat} (h : Cnt w va L (add f [123] 4) X) : Cnt w va L (add f [123] 5) (X.setCell ⟨w.heap.size + 1, 4, none⟩ (.int .i64 ((add f [123] 4 123 : Nat) + 1 : Int))) :=
  ⟨six_set4 h.cnt, by rw [set_other _ (by omega)]; exact h.res, owns_set h.own (by omega) _, below_set2 h.old (by omega) _, by rw [six_size]; exact h.top⟩
theorem Cnt.set5 {w X : World} {va : Value} {L : List Lz} {f : UInt8 → Nat} (h : Cnt w va L (add f [125] 5) X) : Cnt w va L (add f [125] 6) (X.setCell ⟨w.heap.size + 1, 5, none⟩ (.int .i64 ((add f [125] 5 125 : Nat) + 1 : Int))) :=
  ⟨six_set5 h.cnt, by rw [set_other _ (by omega)]; exact h.res, owns_set h.own (by omega) _, below_set2 h.old (by omega) _, by rw [six_size]; exact h.top⟩
set_option maxHeartbeats 64000000 in
theorem signs_any (s : List UInt8) (l : List Lx) (w : World) (hF : Fx.Fit w) (hs : s.length ≤ 100000) (hc : check s = s.length) (hl : lexp 0 s = .ok l) (hn : l.length ≤ 100001) :
    Calls Tryz.prog 14 #[.string (text s)] w fun e w' => e = .returned (.agg (six fun b => zc b (l.map lz))) ∧ Below w.heap.size w w' := by
  obtain ⟨V, hV⟩ : ∃ V, (w.alloc (.cells #[.int .i64 0, .int .i64 0, .int .i64 0, .int .i64 0, .int .i64 0, .int .i64 0] 39)).alloc (.cells #[.int .i64 0, .int .i64 0, .int .i64 0, .int .i64 0, .int .i64 0, .int .i64 0] 39) = V := ⟨_, rfl⟩
  have BV : Below w.heap.size w V := hV ▸ ba (ba (b0 w) _) _
  have zV : V.heap.size = w.heap.size + 2 := by rw [← hV]; simp
  have h1 : V.heap[w.heap.size + 1]? = some (.cells #[.int .i64 0, .int .i64 0, .int .i64 0, .int .i64 0, .int .i64 0, .int .i64 0] 39 (0, 0)) := by
    have := heap_alloc_new (w.alloc (.cells #[.int .i64 0, .int .i64 0, .int .i64 0, .int .i64 0, .int .i64 0, .int .i64 0] 39)) (.cells #[.int .i64 0, .int .i64 0, .int .i64 0, .int .i64 0, .int .i64 0, .int .i64 0] 39)
    rw [World.size_alloc] at this
    rw [← hV]; exact this
  have h0 : V.heap[w.heap.size]? = some (.cells #[.int .i64 0, .int .i64 0, .int .i64 0, .int .i64 0, .int .i64 0, .int .i64 0] 39 (0, 0)) := by
    rw [← hV]
    exact (Lib.alloc_old _ _ _ (by simp)).trans (heap_alloc_new w _)
  obtain ⟨L, hL⟩ : ∃ L, l.map lz = L := ⟨_, rfl⟩
  have hn2 : L.length ≤ 100001 := by rw [← hL, List.length_map]; exact hn
  have HCV : Hid (∀ (va : Value) (W : World), Below V.heap.size V W → OwnL V.heap.size W va L → Cnt w va L (fun b => zc b (L.take 0)) W) := hid (fun va W hW ho => by
    rw [zV] at ho hW
    exact ⟨(hW.block _ (by omega)).trans h1, (hW.block _ (by omega)).trans h0, ho, BV.trans (hW.mono (by omega)), by have := hW.size; omega⟩)
  have LX := hid (Lex_any s hs V (hF.1.below BV (Nat.le_refl _)) (hF.2.below BV (Nat.le_refl _)))
  have HC := hid hc
  have HL := hid hl
  have HLL := hid hL
  rw [hL]
  have HZ : Hid (∀ b i, zc b (L.take i) ≤ 100001) := hid (fun b i => Nat.le_trans (zc_le b L i) hn2)
  clear BV hc hl hF h1 h0 zV hn hL
  go_enter Tryz.func14, Tryz.ntmps14
  go_wp2_with fail
  refine LX.out.mono ?_
  rintro r w1 ⟨hg, hb1⟩
  obtain ⟨va, rfl, hoa⟩ := hg.ok HC.out HL.out
  rw [HLL.out] at hoa
  have hla : Lexs w1 va L := hoa.lexs (by omega)
  have alen := fun X => hla.len (P := Tryz.prog) 31 3 36 undLs X
  have HC0 := hid (HCV.out va w1 hb1 hoa)
  clear hg hoa hla hb1
  go_wp2_with fail
  go_loopg [19] L.length (fun gk iv X => ∃ i : Nat, iv = .int .i64 i ∧ i + gk = L.length ∧ Hid (Cnt w va L (fun b => zc b (L.take i)) X))
  case atStart => exact ⟨0, rfl, by omega, HC0⟩
  case round =>
    rename World => X
    obtain ⟨i, rfl, hig, HX⟩ := hrel
    by_cases hi : i < L.length
    · obtain ⟨b, o, ix, e0, e1, e2⟩ := (HX.out.own.lexs (by omega)).at (P := Tryz.prog) i hi 31 36 undLs sizL
      have hst : Hid (L[i].kind ≠ 4 → ∀ b ∈ brk, (fun b => zc b (L.take i)) b = (fun b => zc b (L.take (i + 1))) b) := hid (fun h4 b _ => by
        simp only
        rw [zc_take b L i hi, if_neg (fun c => h4 c.1)]; rfl)
      have had : Hid (L[i].kind = 4 → ∀ b ∈ brk, add (fun b => zc b (L.take i)) L[i].s 6 b = (fun b => zc b (L.take (i + 1))) b) := hid (fun h4 b hb => add_done L i hi h4 b hb)
      have hfz : Hid (∀ b, zc b (L.take i) ≤ 100001) := hid (fun b => HZ.out b i)
      obtain ⟨kk, pp, ss, hq⟩ : ∃ kk pp ss, L[i] = ⟨kk, pp, ss⟩ := ⟨_, _, _, rfl⟩
      rw [hq] at e0 e1 e2 hst had
      dsimp only at e0 e1 e2
      clear hq
      have htop := HX.out.top
      by_cases h4 : kk = 4
      · subst h4
        have HAD := hid (had.out rfl)
        clear hst had
        obtain ⟨Y, hY⟩ : ∃ Y, X.alloc (.cells #[.int .i64 4, .int .i64 pp, .string (text ss)] 36) = Y := ⟨_, rfl⟩
        have BY : Below X.heap.size X Y := hY ▸ ba (b0 X) _
        have PY : Y.heap[X.heap.size]? = some (.cells #[.int .i64 4, .int .i64 pp, .string (text ss)] 36 (0, 0)) := hY ▸ heap_alloc_new X _
        have zY : Y.heap.size = X.heap.size + 1 := by rw [← hY]; simp
        obtain ⟨Z, hZ⟩ : ∃ Z, Y.alloc (.cells #[.string ⟨#[40]⟩, .string ⟨#[91]⟩, .string ⟨#[41]⟩, .string ⟨#[93]⟩, .string ⟨#[123]⟩, .string ⟨#[125]⟩] 9) = Z := ⟨_, rfl⟩
        have BZ : Below Y.heap.size Y Z := hZ ▸ ba (b0 Y) _
        have PZ : Z.heap[Y.heap.size]? = some (.cells brkV 9 (0, 0)) := hZ ▸ heap_alloc_new Y _
        have PX : Z.heap[X.heap.size]? = some (.cells #[.int .i64 4, .int .i64 pp, .string (text ss)] 36 (0, 0)) := (BZ.block _ (by omega)).trans PY
        have HCZ := hid ((HX.out.later BY).later BZ)
        have HPZ := hid PZ
        have HPX := hid PX
        have y0 : Y.cell? ⟨X.heap.size, 0, none⟩ = some (.int .i64 4) := by rw [Lib.cell_of_heap PY]; rfl
        have zz : Z.heap.size = X.heap.size + 2 := by rw [← hZ]; simp [zY]
        rw [zY] at HPZ
        clear BY PY BZ PZ PX
        go_wp2_with fail
        clear e0 e1 e2 ix y0 hY hZ
        go_loopg [28] 6 (fun hk jv U => ∃ j : Nat, jv = .int .i64 j ∧ j + hk = 6 ∧ Hid (Cnt w va L (add (fun b => zc b (L.take i)) ss j) U) ∧ Hid (U.heap[X.heap.size + 1]? = some (.cells brkV 9 (0, 0))) ∧ Hid (U.heap[X.heap.size]? = some (.cells #[.int .i64 4, .int .i64 pp, .string (text ss)] 36 (0, 0))))
        case atStart => exact ⟨0, rfl, by omega, hid (by rw [add_zero]; exact HCZ.out), HPZ, HPX⟩
        case round =>
          rename World => U
          obtain ⟨j, rfl, hjg, HU, HUB, HUT⟩ := hrel
          obtain ⟨m0, m1, m2, m3, m4, m5⟩ := brkV_cell HUB.out
          have t2 : U.cell? ⟨X.heap.size, 2, none⟩ = some (.string (text ss)) := by rw [Lib.cell_of_heap HUT.out]; rfl
          by_cases hj : j < 6
          · have hjj : j = 0 ∨ j = 1 ∨ j = 2 ∨ j = 3 ∨ j = 4 ∨ j = 5 := by omega
            rcases hjj with rfl | rfl | rfl | rfl | rfl | rfl
            · by_cases hb : ss = [40]
              · subst hb
                obtain ⟨n0, n1, n2, n3, n4, n5⟩ := six_cell HU.out.cnt
                have f0 := Lib.frozen_of_heap HU.out.cnt 0
                have q1 : ((text [40]).toList == ([40] : List UInt8)) = true := Num.list_yes rfl
                have hlt : add (fun b => zc b (L.take i)) [40] 0 40 ≤ 100002 := by have := hfz.out 40; unfold add; dsimp only; split <;> omega
                have HN := hid HU.out.set0
                have HBN : Hid (((U.setCell ⟨w.heap.size + 1, 0, none⟩ (.int .i64 ((add (fun b => zc b (L.take i)) [40] 0 40 : Nat) + 1 : Int))).heap[X.heap.size + 1]? = some (.cells brkV 9 (0, 0)))) := hid (by rw [set_other _ (by omega)]; exact HUB.out)
                have HTN : Hid (((U.setCell ⟨w.heap.size + 1, 0, none⟩ (.int .i64 ((add (fun b => zc b (L.take i)) [40] 0 40 : Nat) + 1 : Int))).heap[X.heap.size]? = some (.cells #[.int .i64 4, .int .i64 pp, .string (text [40])] 36 (0, 0)))) := hid (by rw [set_other _ (by omega)]; exact HUT.out)
                generalize add (fun b => zc b (L.take i)) [40] 0 40 = an at *
                go_wp2
                go_roundg (gk - 1)
                case measure => omega
                case rel => exact ⟨1, rfl, by omega, HN, HBN, HTN⟩
              · have q1 : ((text ss).toList == ([40] : List UInt8)) = false := Num.list_no hb
                have HN := hid (add_none (fun b => zc b (L.take i)) ss 0 40 rfl hb)
                clear hb
                go_wp2
                go_roundg (gk - 1)
                case measure => omega
                case rel => exact ⟨1, rfl, by omega, hid (by rw [HN.out]; exact HU.out), HUB, HUT⟩
            · by_cases hb : ss = [91]
              · subst hb
                obtain ⟨n0, n1, n2, n3, n4, n5⟩ := six_cell HU.out.cnt
                have f0 := Lib.frozen_of_heap HU.out.cnt 1
                have q1 : ((text [91]).toList == ([91] : List UInt8)) = true := Num.list_yes rfl
                have hlt : add (fun b => zc b (L.take i)) [91] 1 91 ≤ 100002 := by have := hfz.out 91; unfold add; dsimp only; split <;> omega
                have HN := hid HU.out.set1
                have HBN : Hid (((U.setCell ⟨w.heap.size + 1, 1, none⟩ (.int .i64 ((add (fun b => zc b (L.take i)) [91] 1 91 : Nat) + 1 : Int))).heap[X.heap.size + 1]? = some (.cells brkV 9 (0, 0)))) := hid (by rw [set_other _ (by omega)]; exact HUB.out)
                have HTN : Hid (((U.setCell ⟨w.heap.size + 1, 1, none⟩ (.int .i64 ((add (fun b => zc b (L.take i)) [91] 1 91 : Nat) + 1 : Int))).heap[X.heap.size]? = some (.cells #[.int .i64 4, .int .i64 pp, .string (text [91])] 36 (0, 0)))) := hid (by rw [set_other _ (by omega)]; exact HUT.out)
                generalize add (fun b => zc b (L.take i)) [91] 1 91 = an at *
                go_wp2
                go_roundg (gk - 1)
                case measure => omega
                case rel => exact ⟨2, rfl, by omega, HN, HBN, HTN⟩
              · have q1 : ((text ss).toList == ([91] : List UInt8)) = false := Num.list_no hb
                have HN := hid (add_none (fun b => zc b (L.take i)) ss 1 91 rfl hb)
                clear hb
                go_wp2
                go_roundg (gk - 1)
                case measure => omega
                case rel => exact ⟨2, rfl, by omega, hid (by rw [HN.out]; exact HU.out), HUB, HUT⟩
            · by_cases hb : ss = [41]
              · subst hb
                obtain ⟨n0, n1, n2, n3, n4, n5⟩ := six_cell HU.out.cnt
                have f0 := Lib.frozen_of_heap HU.out.cnt 2
                have q1 : ((text [41]).toList == ([41] : List UInt8)) = true := Num.list_yes rfl
                have hlt : add (fun b => zc b (L.take i)) [41] 2 41 ≤ 100002 := by have := hfz.out 41; unfold add; dsimp only; split <;> omega
                have HN := hid HU.out.set2
                have HBN : Hid (((U.setCell ⟨w.heap.size + 1, 2, none⟩ (.int .i64 ((add (fun b => zc b (L.take i)) [41] 2 41 : Nat) + 1 : Int))).heap[X.heap.size + 1]? = some (.cells brkV 9 (0, 0)))) := hid (by rw [set_other _ (by omega)]; exact HUB.out)
                have HTN : Hid (((U.setCell ⟨w.heap.size + 1, 2, none⟩ (.int .i64 ((add (fun b => zc b (L.take i)) [41] 2 41 : Nat) + 1 : Int))).heap[X.heap.size]? = some (.cells #[.int .i64 4, .int .i64 pp, .string (text [41])] 36 (0, 0)))) := hid (by rw [set_other _ (by omega)]; exact HUT.out)
                generalize add (fun b => zc b (L.take i)) [41] 2 41 = an at *
                go_wp2
                go_roundg (gk - 1)
                case measure => omega
                case rel => exact ⟨3, rfl, by omega, HN, HBN, HTN⟩
              · have q1 : ((text ss).toList == ([41] : List UInt8)) = false := Num.list_no hb
                have HN := hid (add_none (fun b => zc b (L.take i)) ss 2 41 rfl hb)
                clear hb
                go_wp2
                go_roundg (gk - 1)
                case measure => omega
                case rel => exact ⟨3, rfl, by omega, hid (by rw [HN.out]; exact HU.out), HUB, HUT⟩
            · by_cases hb : ss = [93]
              · subst hb
                obtain ⟨n0, n1, n2, n3, n4, n5⟩ := six_cell HU.out.cnt
                have f0 := Lib.frozen_of_heap HU.out.cnt 3
                have q1 : ((text [93]).toList == ([93] : List UInt8)) = true := Num.list_yes rfl
                have hlt : add (fun b => zc b (L.take i)) [93] 3 93 ≤ 100002 := by have := hfz.out 93; unfold add; dsimp only; split <;> omega
                have HN := hid HU.out.set3
                have HBN : Hid (((U.setCell ⟨w.heap.size + 1, 3, none⟩ (.int .i64 ((add (fun b => zc b (L.take i)) [93] 3 93 : Nat) + 1 : Int))).heap[X.heap.size + 1]? = some (.cells brkV 9 (0, 0)))) := hid (by rw [set_other _ (by omega)]; exact HUB.out)
                have HTN : Hid (((U.setCell ⟨w.heap.size + 1, 3, none⟩ (.int .i64 ((add (fun b => zc b (L.take i)) [93] 3 93 : Nat) + 1 : Int))).heap[X.heap.size]? = some (.cells #[.int .i64 4, .int .i64 pp, .string (text [93])] 36 (0, 0)))) := hid (by rw [set_other _ (by omega)]; exact HUT.out)
                generalize add (fun b => zc b (L.take i)) [93] 3 93 = an at *
                go_wp2
                go_roundg (gk - 1)
                case measure => omega
                case rel => exact ⟨4, rfl, by omega, HN, HBN, HTN⟩
              · have q1 : ((text ss).toList == ([93] : List UInt8)) = false := Num.list_no hb
                have HN := hid (add_none (fun b => zc b (L.take i)) ss 3 93 rfl hb)
                clear hb
                go_wp2
                go_roundg (gk - 1)
                case measure => omega
                case rel => exact ⟨4, rfl, by omega, hid (by rw [HN.out]; exact HU.out), HUB, HUT⟩
            · by_cases hb : ss = [123]
              · subst hb
                obtain ⟨n0, n1, n2, n3, n4, n5⟩ := six_cell HU.out.cnt
                have f0 := Lib.frozen_of_heap HU.out.cnt 4
                have q1 : ((text [123]).toList == ([123] : List UInt8)) = true := Num.list_yes rfl
                have hlt : add (fun b => zc b (L.take i)) [123] 4 123 ≤ 100002 := by have := hfz.out 123; unfold add; dsimp only; split <;> omega
                have HN := hid HU.out.set4
                have HBN : Hid (((U.setCell ⟨w.heap.size + 1, 4, none⟩ (.int .i64 ((add (fun b => zc b (L.take i)) [123] 4 123 : Nat) + 1 : Int))).heap[X.heap.size + 1]? = some (.cells brkV 9 (0, 0)))) := hid (by rw [set_other _ (by omega)]; exact HUB.out)
                have HTN : Hid (((U.setCell ⟨w.heap.size + 1, 4, none⟩ (.int .i64 ((add (fun b => zc b (L.take i)) [123] 4 123 : Nat) + 1 : Int))).heap[X.heap.size]? = some (.cells #[.int .i64 4, .int .i64 pp, .string (text [123])] 36 (0, 0)))) := hid (by rw [set_other _ (by omega)]; exact HUT.out)
                generalize add (fun b => zc b (L.take i)) [123] 4 123 = an at *
                go_wp2
                go_roundg (gk - 1)
                case measure => omega
                case rel => exact ⟨5, rfl, by omega, HN, HBN, HTN⟩
              · have q1 : ((text ss).toList == ([123] : List UInt8)) = false := Num.list_no hb
                have HN := hid (add_none (fun b => zc b (L.take i)) ss 4 123 rfl hb)
                clear hb
                go_wp2
                go_roundg (gk - 1)
                case measure => omega
                case rel => exact ⟨5, rfl, by omega, hid (by rw [HN.out]; exact HU.out), HUB, HUT⟩
            · by_cases hb : ss = [125]
              · subst hb
                obtain ⟨n0, n1, n2, n3, n4, n5⟩ := six_cell HU.out.cnt
                have f0 := Lib.frozen_of_heap HU.out.cnt 5
                have q1 : ((text [125]).toList == ([125] : List UInt8)) = true := Num.list_yes rfl
                have hlt : add (fun b => zc b (L.take i)) [125] 5 125 ≤ 100002 := by have := hfz.out 125; unfold add; dsimp only; split <;> omega
                have HN := hid HU.out.set5
                have HBN : Hid (((U.setCell ⟨w.heap.size + 1, 5, none⟩ (.int .i64 ((add (fun b => zc b (L.take i)) [125] 5 125 : Nat) + 1 : Int))).heap[X.heap.size + 1]? = some (.cells brkV 9 (0, 0)))) := hid (by rw [set_other _ (by omega)]; exact HUB.out)
                have HTN : Hid (((U.setCell ⟨w.heap.size + 1, 5, none⟩ (.int .i64 ((add (fun b => zc b (L.take i)) [125] 5 125 : Nat) + 1 : Int))).heap[X.heap.size]? = some (.cells #[.int .i64 4, .int .i64 pp, .string (text [125])] 36 (0, 0)))) := hid (by rw [set_other _ (by omega)]; exact HUT.out)
                generalize add (fun b => zc b (L.take i)) [125] 5 125 = an at *
                go_wp2
                go_roundg (gk - 1)
                case measure => omega
                case rel => exact ⟨6, rfl, by omega, HN, HBN, HTN⟩
              · have q1 : ((text ss).toList == ([125] : List UInt8)) = false := Num.list_no hb
                have HN := hid (add_none (fun b => zc b (L.take i)) ss 5 125 rfl hb)
                clear hb
                go_wp2
                go_roundg (gk - 1)
                case measure => omega
                case rel => exact ⟨6, rfl, by omega, hid (by rw [HN.out]; exact HU.out), HUB, HUT⟩
          · obtain rfl : j = 6 := by omega
            have HN := hid (HU.out.same HAD.out)
            go_wp2
            go_roundg (L.length - (i + 1))
            case measure => omega
            case rel => exact ⟨i + 1, rfl, by omega, HN⟩
      · have HN := hid ((HX.out.later (ba (b0 X) (.cells #[.int .i64 kk, .int .i64 pp, .string (text ss)] 36))).same (hst.out h4))
        have q4 : (kk != 4) = true := by rw [bne_iff_ne]; exact h4
        clear h4 hst had
        go_wp2
        go_roundg (gk - 1)
        case measure => omega
        case rel => exact ⟨i + 1, rfl, by omega, HN⟩
    · obtain rfl : i = L.length := by omega
      rw [List.take_length] at HX
      go_wp2_with (first
        | (refine wpList_load_row rfl _ _ rfl (w.heap.size + 1) rfl _ _ _ _ HX.out.cnt Tryz.underlying39 rfl infoSix ?_)
        | (refine wpList_store_row rfl _ _ _ rfl w.heap.size (six fun b => zc b L) rfl rfl _ _ HX.out.res infoSix rfl (six_one _) ?_))
      obtain ⟨g1, g2⟩ := setRow_facts X w.heap.size w.heap.size _ (six fun b => zc b L) _ HX.out.res (Nat.le_refl _)
      have G1 := hid g1
      have G2 := hid (HX.out.old.trans g2)
      generalize X.setRow w.heap.size (six fun b => zc b L) = X2 at *
      clear g1 g2
      go_wp2
      refine bodyPost_ret (results_cell_row rfl _ _ _ _ (six fun b => zc b L) _ _ rfl G1.out Tryz.underlying39 rfl infoSix) rfl ?_
      exact ⟨rfl, G2.out⟩
end Go.Proofs.YtkmdclfkmmlloaaGreatDoor.Fp
