/- Layer 11: walk of FeelprintPairs. -/
import Derived.Test.YtkmdclfkmmlloaaGreatDoorXbR
import Derived.Test.YtkmdclfkmmlloaaGreatDoorXbQ
set_option linter.unusedVariables false
set_option linter.unusedSimpArgs false
namespace Go.Proofs.YtkmdclfkmmlloaaGreatDoor.Fp
open Go Go.Proofs.YtkmdclfkmmlloaaGreatDoor Go.Proofs.YtkmdclfkmmlloaaGreatDoor.Utf Go.Proofs.YtkmdclfkmmlloaaGreatDoor.Fl Go.Proofs.YtkmdclfkmmlloaaGreatDoor.Fx Go.Proofs.YtkmdclfkmmlloaaGreatDoor.Xp Go.RowKit
set_option maxRecDepth 100000
theorem zc_key (b : UInt8) (p : Nat) : ∀ ts : List Lx, zc b ((ts ++ [(⟨5, p, []⟩ : Lx)]).map lz) = (ts.map fun t : Lx => (t.kind, t.s)).count (4, [b])
  | [] => rfl
  | t :: ts => by
    have ih := zc_key b p ts
    unfold zc at ih ⊢
    rw [List.cons_append, List.map_cons, List.map_cons, List.count_cons]
    by_cases h : t.kind = 4 ∧ t.s = [b]
    · rw [List.countP_cons_of_pos (by unfold lz; simp [h.1, h.2]), ih, if_pos (by simp [h.1, h.2])]
    · rw [List.countP_cons_of_neg (by unfold lz; simp only [Bool.and_eq_true, decide_eq_true_eq]; exact fun c => h ⟨by omega, c.2⟩), ih, if_neg (by simpa using h)]; rfl
theorem plain_count (b : UInt8) (h : b ≠ 40 ∧ b ≠ 41) (l : List (Nat × List UInt8)) : (l.filter plainT).count (4, [b]) = l.count (4, [b]) := by
  rw [List.count_filter]
  unfold plainT
  simp [h.1, h.2]
theorem sum_ne {a b c d : Nat} (h : a + b = c + d) : ((a : Int) + b - c - d != 0) = false := by
  have : (a : Int) + b - c - d = 0 := by omega
  rw [this]; rfl
set_option maxHeartbeats 16000000 in
theorem FeelprintPairs_walk (e : Ex) (ao : Option Addr) (an ac : Nat) (po : Option Addr) (pn pc : Nat) (w : World) (hw : FitP w) (h : IsE w e (.slice ao an ac) (.slice po pn pc)) (hf : e.fit) (hm : e.mass ≤ 1100000) :
    Calls Tryz.prog 4 #[exV e (.slice ao an ac) (.slice po pn pc)] w fun r w' => r = .returned (.bool true) ∧ Below w.heap.size w w' := by
  obtain ⟨V, hV⟩ : ∃ V, w.alloc (.cells #[.int .i64 e.kind, .string (text e.s), .slice ao an ac, .slice po pn pc] 25) = V := ⟨_, rfl⟩
  have BV : Below w.heap.size w V := hV ▸ ba (b0 w) _
  have P2 : V.heap[w.heap.size]? = some (.cells #[.int .i64 e.kind, .string (text e.s), .slice ao an ac, .slice po pn pc] 25) := hV ▸ heap_alloc_new w _
  have hE := h.later BV
  have HW := hid (fun (W : World) (hW : Below V.heap.size V W) => (hw.at BV).at hW)
  have AL := hid (fun (W : World) (hW : Below V.heap.size V W) => alive_any W (HW.out W hW).1)
  have PR := hid (fun (hs : e.mass ≤ 70000) (W : World) (hW : Below V.heap.size V W) => Print_any e ao an ac po pn pc W (HW.out W hW).1 (hE.later hW) hf hs)
  have BR := hid (fun (hs : e.mass ≤ 70000) (W : World) (hW : Below V.heap.size V W) => Bare_any e ao an ac po pn pc W (HW.out W hW).1 (hE.later hW) hf hs)
  have LX := hid (fun (s : List UInt8) (hs : s.length ≤ 100000) (W : World) (hW : Below V.heap.size V W) => Lex_any s hs W (HW.out W hW).2.1 (HW.out W hW).2.2)
  have CK := hid (fun (hs : e.mass ≤ 1000000) (W : World) (hW : Below V.heap.size V W) => RCheck_full e ao an ac po pn pc W (hE.later hW) hs)
  have HE := hid hE
  have HBV := hid BV
  have HF := hid hf
  have HX := hid (show ∀ X, Below V.heap.size V X → X.cell? ⟨w.heap.size, 0, none⟩ = some (.int .i64 e.kind) ∧ X.cell? ⟨w.heap.size, 1, none⟩ = some (.string (text e.s)) ∧ X.cell? ⟨w.heap.size, 2, none⟩ = some (.slice ao an ac) ∧ X.cell? ⟨w.heap.size, 3, none⟩ = some (.slice po pn pc) from fun X hX => box_cells ((hX.block _ (World.block_lt_of_cell? _ ⟨w.heap.size, 0, none⟩ (box_cells P2).1)).trans P2))
  unfold exV at PR BR CK ⊢
  clear hw h BV P2 hE hf
  go_enter Tryz.func4, Tryz.ntmps4
  go_wp2_with fail
  refine (AL.out _ (b0 V)).mono ?_
  rintro r w1 ⟨rfl, hb1⟩
  obtain ⟨a0, a1, a2, a3⟩ := HX.out _ hb1
  have mk := made1 (HE.out.later hb1)
  have BL := ba (b0 w1) (.cells #[.int .i64 e.kind, .string (text e.s), .slice ao an ac, .slice po pn pc] 25)
  have GR := hid (Great_any _ _ _ mk (by
    intro x hx
    simp only [List.mem_cons, List.not_mem_nil, or_false] at hx
    subst hx
    omega))
  have HB1 := hid hb1
  have HBL := hid BL
  clear hb1 mk BL hV
  go_wp2_with fail
  refine GR.out.mono ?_
  rintro r w2 ⟨n, rfl, hn, hsm, hb2⟩
  have HB2 := hid (bt HB1.out (bt HBL.out hb2))
  have HSM := hid hsm
  clear hb2 hsm a0 a1 a2 a3 GR HBL HB1
  rcases hn with rfl | rfl
  case inr =>
    go_wp2_with fail
    refine (AL.out _ HB2.out).mono ?_
    rintro r w3 ⟨rfl, hb3⟩
    have HB3 := hid (bt HBV.out (bt HB2.out hb3))
    clear hb3
    go_wp2
    go_ret
    exact ⟨rfl, HB3.out⟩
  have hsml := HSM.out rfl e (List.mem_singleton.2 rfl)
  have hms := hsml.mass
  have HSE := hid hsml
  clear HSM hsml
  obtain ⟨a0, a1, a2, a3⟩ := HX.out _ HB2.out
  go_wp2_with fail
  refine (CK.out (by omega) _ HB2.out).mono ?_
  rintro r wc ⟨⟨x, rfl, hxc⟩, hbc⟩
  have HB2 := hid (bt HB2.out hbc)
  clear hbc a0 a1 a2 a3
  by_cases hc : x = 0
  case neg =>
    have hcb : (x == 0) = false := by rw [beq_eq_false_iff_ne]; exact hc
    have hcb2 : (x != 0) = true := by rw [bne_iff_ne]; exact hc
    clear hc
    go_wp2_with fail
    refine (AL.out _ HB2.out).mono ?_
    rintro r w4 ⟨rfl, hb4⟩
    have HB4 := hid (bt HBV.out (bt HB2.out hb4))
    clear hb4
    go_wp2
    go_ret
    exact ⟨rfl, HB4.out⟩
  subst hc
  have hc := hxc rfl
  clear hxc
  obtain ⟨a0, a1, a2, a3⟩ := HX.out _ HB2.out
  have hr := Rt.check hc
  obtain ⟨ts, t1, t2, t3, t4, t5⟩ := texts_facts hc HSE.out 0
  obtain ⟨us, u1, u2, u3, u4, u5⟩ := texts_facts hc HSE.out 9
  have HV0 : Hid (writeV 0 e = .tuple #[.string (text (prV 0 e)), .int .i64 0]) := hid (by unfold writeV; rw [if_pos hc, hc])
  have HV9 : Hid (writeV 9 e = .tuple #[.string (text (prV 9 e)), .int .i64 0]) := hid (by unfold writeV; rw [if_pos hc, hc])
  have hrel := hr.rel (m := 0) (m' := 9) (by omega)
  have hb0' := hr.bal 0
  have hb9 := hr.bal 9
  have hown := hr.own
  have key0 : ∀ b, zc b ((ts ++ [(⟨5, (prV 0 e).length, []⟩ : Lx)]).map lz) = cn b (flat 0 e) := fun b => by rw [zc_key, t3]; rfl
  have key9 : ∀ b, zc b ((us ++ [(⟨5, (prV 9 e).length, []⟩ : Lx)]).map lz) = cn b (flat 9 e) := fun b => by rw [zc_key, u3]; rfl
  have bound : ∀ (l : List Lx) (p : Nat) (b : UInt8), l.length ≤ 60000 → zc b ((l ++ [(⟨5, p, []⟩ : Lx)]).map lz) ≤ 60001 := fun l p b h => by
    have := zc_le b ((l ++ [(⟨5, p, []⟩ : Lx)]).map lz) ((l ++ [(⟨5, p, []⟩ : Lx)]).map lz).length
    rw [List.take_length] at this
    simp only [List.length_map, List.length_append, List.length_cons, List.length_nil] at this
    omega
  have b123 : cn 123 (flat 9 e) = cn 123 (flat 0 e) := by
    unfold cn
    rw [← plain_count 123 (by decide) (tkL (flat 9 e)), ← plain_count 123 (by decide) (tkL (flat 0 e)), hrel.same]
  have HBD : Hid (∀ b, cn b (flat 0 e) ≤ 60001 ∧ cn b (flat 9 e) ≤ 60001) := hid (fun b => ⟨by rw [← key0]; exact bound _ _ _ t5, by rw [← key9]; exact bound _ _ _ u5⟩)
  have HALL : Hid ((cn 40 (flat 0 e) + cn 91 (flat 0 e) = cn 41 (flat 0 e) + cn 93 (flat 0 e)) ∧ (cn 123 (flat 0 e) = cn 125 (flat 0 e)) ∧ (cn 40 (flat 9 e) + cn 91 (flat 9 e) = cn 41 (flat 9 e) + cn 93 (flat 9 e)) ∧ (half e = 0 → cn 40 (flat 0 e) = cn 41 (flat 0 e) ∧ cn 91 (flat 0 e) = cn 93 (flat 0 e)) ∧ cn 40 (flat 9 e) = own e ∧ cn 40 (flat 0 e) ≤ cn 40 (flat 9 e) ∧ cn 123 (flat 9 e) = cn 123 (flat 0 e)) :=
    hid ⟨hb0'.all, hb0'.curl, hb9.all, hb0'.each, hown, hrel.cnt, b123⟩
  have SA := hid (fun (W : World) (hW : Below V.heap.size V W) => signs_any (prV 0 e) (ts ++ [(⟨5, (prV 0 e).length, []⟩ : Lx)]) W (HW.out W hW).2 (by omega) t1 t2 (by simp; omega))
  have SB := hid (fun (W : World) (hW : Below V.heap.size V W) => signs_any (prV 9 e) (us ++ [(⟨5, (prV 9 e).length, []⟩ : Lx)]) W (HW.out W hW).2 (by omega) u1 u2 (by simp; omega))
  have s0 : six (fun b => zc b ((ts ++ [(⟨5, (prV 0 e).length, []⟩ : Lx)]).map lz)) = six (fun b => cn b (flat 0 e)) := six_ext fun b _ => key0 b
  have s9 : six (fun b => zc b ((us ++ [(⟨5, (prV 9 e).length, []⟩ : Lx)]).map lz)) = six (fun b => cn b (flat 9 e)) := six_ext fun b _ => key9 b
  rw [s0] at SA
  rw [s9] at SB
  have hsz := size_mass e
  have hol := own_le _ e (Nat.le_refl _)
  have CT := hid (fun (W : World) (hW : Below V.heap.size V W) => counts_any e.size e ao an ac po pn pc W (Nat.le_refl _) hr (HE.out.later hW) (by omega))
  unfold exV at CT
  clear hc hr t1 t2 t3 t4 t5 u1 u2 u3 u4 u5 hrel hb0' hb9 hown key0 key9 bound b123 s0 s9
  generalize prV 0 e = S at *
  generalize prV 9 e = T at *
  generalize hfa : (fun b => cn b (flat 0 e)) = fa at *
  generalize hfb : (fun b => cn b (flat 9 e)) = fb at *
  have HALL2 : Hid ((fa 40 + fa 91 = fa 41 + fa 93) ∧ (fa 123 = fa 125) ∧ (fb 40 + fb 91 = fb 41 + fb 93) ∧ (half e = 0 → fa 40 = fa 41 ∧ fa 91 = fa 93) ∧ fb 40 = own e ∧ fa 40 ≤ fb 40 ∧ fb 123 = fa 123) := hid (by rw [← hfa, ← hfb]; exact HALL.out)
  have HBD2 : Hid (∀ b, fa b ≤ 60001 ∧ fb b ≤ 60001) := hid (by rw [← hfa, ← hfb]; exact HBD.out)
  have HOLE := hid hol
  clear HALL HBD hfa hfb hol
  generalize own e = oo at *
  generalize half e = hh at *
  go_wp2_with fail
  refine (PR.out (by omega) _ HB2.out).mono ?_
  rintro r w3 ⟨rfl, hb3⟩
  have HB3 := hid (bt HB2.out hb3)
  clear hb3 a0 a1 a2 a3
  rw [HV0.out]
  obtain ⟨a0, a1, a2, a3⟩ := HX.out _ HB3.out
  go_wp2_with fail
  refine (BR.out (by omega) _ HB3.out).mono ?_
  rintro r w4 ⟨rfl, hb4⟩
  have HB4 := hid (bt HB3.out hb4)
  clear hb4 a0 a1 a2 a3
  rw [HV9.out]
  clear HV0 HV9
  go_wp2_with fail
  refine (SA.out _ HB4.out).mono ?_
  rintro r w5 ⟨rfl, hb5⟩
  have HB5 := hid (bt HB4.out hb5)
  clear hb5
  go_wp2_with fail
  refine (SB.out _ HB5.out).mono ?_
  rintro r w6 ⟨rfl, hb6⟩
  have HB6 := hid (bt HB5.out hb6)
  clear hb6
  obtain ⟨Y, hY⟩ : ∃ Y, (w6.alloc (.cells #[.int .i64 0, .int .i64 0, .int .i64 0, .int .i64 0, .int .i64 0, .int .i64 0] 39)).alloc (.cells #[.int .i64 0, .int .i64 0, .int .i64 0, .int .i64 0, .int .i64 0, .int .i64 0] 39) = Y := ⟨_, rfl⟩
  have BY : Below w6.heap.size w6 Y := hY ▸ ba (ba (b0 w6) _) _
  have zY : Y.heap.size = w6.heap.size + 2 := by rw [← hY]; simp
  have h1 : Y.heap[w6.heap.size + 1]? = some (.cells #[.int .i64 0, .int .i64 0, .int .i64 0, .int .i64 0, .int .i64 0, .int .i64 0] 39 (0, 0)) := by
    have := heap_alloc_new (w6.alloc (.cells #[.int .i64 0, .int .i64 0, .int .i64 0, .int .i64 0, .int .i64 0, .int .i64 0] 39)) (.cells #[.int .i64 0, .int .i64 0, .int .i64 0, .int .i64 0, .int .i64 0, .int .i64 0] 39)
    rw [World.size_alloc] at this
    rw [← hY]; exact this
  have h0 : Y.heap[w6.heap.size]? = some (.cells #[.int .i64 0, .int .i64 0, .int .i64 0, .int .i64 0, .int .i64 0, .int .i64 0] 39 (0, 0)) := by
    rw [← hY]
    exact (Lib.alloc_old _ _ _ (by simp)).trans (heap_alloc_new w6 _)
  obtain ⟨g1, g2⟩ := setRow_facts Y w6.heap.size w6.heap.size _ (six fa) _ h0 (Nat.le_refl _)
  have g3 : (Y.setRow w6.heap.size (six fa)).heap[w6.heap.size + 1]? = some (.cells #[.int .i64 0, .int .i64 0, .int .i64 0, .int .i64 0, .int .i64 0, .int .i64 0] 39 (0, 0)) := by
    simp only [World.setRow, Array.getElem?_modify]
    rw [if_neg (by omega)]; exact h1
  have H0 := hid h0
  have H3 := hid g3
  obtain ⟨Z, hZ⟩ : ∃ Z, Y.setRow w6.heap.size (six fa) = Z := ⟨_, rfl⟩
  rw [hZ] at g1 g2 g3 H3
  obtain ⟨k1, k2⟩ := setRow_facts Z (w6.heap.size + 1) w6.heap.size _ (six fb) _ g3 (by omega)
  have k3 : (Z.setRow (w6.heap.size + 1) (six fb)).heap[w6.heap.size]? = some (.cells (six fa) 39 (0, 0)) := by
    simp only [World.setRow, Array.getElem?_modify]
    rw [if_neg (by omega)]; exact g1
  obtain ⟨U, hU⟩ : ∃ U, Z.setRow (w6.heap.size + 1) (six fb) = U := ⟨_, rfl⟩
  rw [hU] at k1 k2 k3
  have HK1 := hid k1
  have HK3 := hid k3
  have HBU := hid (bt HB6.out (BY.trans (g2.trans k2)))
  have HZZ := hid hZ
  have HUU := hid hU
  clear BY zY h1 h0 g1 g2 g3 k1 k2 k3 hZ hU
  obtain ⟨a0, a1, a2, a3⟩ := HX.out _ HBU.out
  go_wp2_with (first
    | (refine wpList_store_row rfl _ _ _ rfl w6.heap.size (six fa) rfl rfl _ _ H0.out infoSix rfl (six_one _) ?_; rw [HZZ.out])
    | (refine wpList_store_row rfl _ _ _ rfl (w6.heap.size + 1) (six fb) rfl rfl _ _ H3.out infoSix rfl (six_one _) ?_; rw [HUU.out])
    | fail)
  clear H0 H3 HZZ HUU hY
  refine (CT.out _ HBU.out).mono ?_
  rintro r w7 ⟨rfl, hb7⟩
  have HB7 := hid (bt HBV.out (bt HBU.out hb7))
  have q7 := (hb7.block _ (Bld.block_lt HK3.out)).trans HK3.out
  have q8 := (hb7.block _ (Bld.block_lt HK1.out)).trans HK1.out
  obtain ⟨m0, m1, m2, m3, m4, m5⟩ := six_cell q7
  obtain ⟨n0, n1, n2, n3, n4, n5⟩ := six_cell q8
  obtain ⟨p1, p2, p3, p4, p5, p6, p7⟩ := HALL2.out
  have bd := HBD2.out
  have d0 := bd 40; have d1 := bd 91; have d2 := bd 41; have d3 := bd 93; have d4 := bd 123; have d5 := bd 125
  clear hb7 q7 q8 a0 a1 a2 a3 bd HALL2 HBD2 CT SA SB PR BR LX CK AL HK1 HK3
  rw [← p2] at m5
  rw [p7] at n4
  rw [p5] at n0 p3 p6 d0
  have e1 := sum_ne p1
  have e2 := sum_ne p3
  have P4 := hid p4
  have hle : (fa 40 : Int) ≤ (oo : Int) := by omega
  clear p1 p2 p3 p4 p5 p7
  generalize fa 40 = x0 at *
  generalize fa 91 = x1 at *
  generalize fa 41 = x2 at *
  generalize fa 93 = x3 at *
  generalize fa 123 = x4 at *
  generalize fb 91 = y1 at *
  generalize fb 41 = y2 at *
  generalize fb 93 = y3 at *
  by_cases hh0 : hh = 0
  · obtain ⟨z1, z2⟩ := P4.out hh0
    subst hh0
    subst z1
    subst z2
    go_wp2
    go_ret
    exact ⟨rfl, HB7.out⟩
  · have hhb : ((hh : Int) == 0) = false := by rw [beq_eq_false_iff_ne]; omega
    have hhb2 : (hh == 0) = false := by rw [beq_eq_false_iff_ne]; exact hh0
    clear hh0
    go_wp2
    go_ret
    exact ⟨rfl, HB7.out⟩
end Go.Proofs.YtkmdclfkmmlloaaGreatDoor.Fp
