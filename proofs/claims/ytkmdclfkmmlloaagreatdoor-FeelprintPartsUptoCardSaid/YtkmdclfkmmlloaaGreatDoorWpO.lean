/- Layer 11: walk of FeelprintParts. -/
import Derived.Test.YtkmdclfkmmlloaaGreatDoorXbR
import Derived.Test.YtkmdclfkmmlloaaGreatDoorXbQ
set_option linter.unusedVariables false
set_option linter.unusedSimpArgs false
namespace Go.Proofs.YtkmdclfkmmlloaaGreatDoor.Fp
open Go Go.Proofs.YtkmdclfkmmlloaaGreatDoor Go.Proofs.YtkmdclfkmmlloaaGreatDoor.Utf Go.Proofs.YtkmdclfkmmlloaaGreatDoor.Fl Go.Proofs.YtkmdclfkmmlloaaGreatDoor.Fx Go.Proofs.YtkmdclfkmmlloaaGreatDoor.Xp Go.RowKit
set_option maxRecDepth 100000
theorem row_many (m : Nat) : ∀ (l : List Ex) (f : Bool), 2 * l.length ≤ lng (rowF m f (flatL m l)) + 2 ∧ (f = false → 2 * l.length ≤ lng (rowF m f (flatL m l)))
  | [], f => ⟨by simp, by simp⟩
  | e :: l, f => by
    have h := (row_many m l false).2 rfl
    rw [flatL]
    have e1 : lng (rowF m f ((e, flat m e) :: flatL m l)) = lng (sep f) + (lng (prt m 0 (pt m e)) + lng (rowF m false (flatL m l))) := by
      show lng (sep f ++ (prt m 0 (pt m e) ++ rowF m false (flatL m l))) = _
      rw [lng_app, lng_app]
    rw [e1, List.length_cons]
    refine ⟨by omega, fun hf => ?_⟩
    subst hf
    have : lng (sep false) = 2 := rfl
    omega
theorem ent_many (m : Nat) : ∀ (nm : List Nam) (l : List Ex) (f : Bool), nm.length = l.length → 2 * l.length ≤ lng (entF m f nm (flatL m l))
  | [], [], f, _ => Nat.zero_le _
  | [], _ :: _, f, h => by simp at h
  | _ :: _, [], f, h => by simp at h
  | n :: nm, e :: l, f, h => by
    have ih := ent_many m nm l false (by simpa using h)
    rw [flatL]
    have e1 : lng (entF m f (n :: nm) ((e, flat m e) :: flatL m l)) = lng (sep f) + (lng (nmI n) + (1 + (1 + (lng (prt m 0 (pt m e)) + lng (entF m false nm (flatL m l)))))) := by
      show lng (sep f ++ (nmI n ++ (sg 58 :: .bl :: (prt m 0 (pt m e) ++ entF m false nm (flatL m l))))) = _
      rw [lng_app, lng_app, lng_sg, lng_bl, lng_app]
    rw [e1, List.length_cons]
    omega
theorem Rt.many {e : Ex} (h : Rt e) (m : Nat) : e.l.length ≤ Fp.lng (flat m e) := by
  cases h with
  | neg ha na => rw [fl4, lng_sg]; simp [Ex.l]
  | bin h ha hb na nb => rw [fl5, lng_app, lng_bl, lng_op, lng_bl]; simp [Ex.l]; omega
  | btw ha hb hc na nb nc => rw [fl6, lng_app, lng_bl, lng_ky, lng_bl, lng_app, lng_bl, lng_ky, lng_bl]; simp [Ex.l]; omega
  | inn ha hb na => rw [fl7, lng_app, lng_bl, lng_ky, lng_bl]; simp [Ex.l]; omega
  | path h ha na => rw [fl8, lng_app, lng_sg]; simp [Ex.l]; omega
  | filt ha hb na nb => rw [fl9, lng_app, lng_sg, lng_app, lng_sg]; simp [Ex.l]; omega
  | call ha hl na nl =>
    rename_i a l
    rw [fl10, lng_app, lng_sg, lng_app, lng_sg]
    have := (row_many m l true).1
    simp [Ex.l]; omega
  | cond ha hb hc na nb nc => rw [fl11, lng_ky, lng_bl, lng_app, lng_bl, lng_ky, lng_bl, lng_app, lng_bl, lng_ky, lng_bl]; simp [Ex.l]; omega
  | bnd hk h ha hb na nb => rw [fl12 m hk, lng_ky, lng_bl, lng_app, lng_bl]; simp [Ex.l]; omega
  | func h ha na => rw [fl15, lng_ky, lng_sg]; simp [Ex.l]; omega
  | list hl nl =>
    rename_i l
    rw [fl16, lng_sg, lng_app, lng_sg]
    have := (row_many m l true).1
    simp [Ex.l]; omega
  | map h he hl nl =>
    rename_i nm l
    rw [fl17, lng_sg, lng_app, lng_sg]
    have := ent_many m nm l true he
    simp [Ex.l]; omega
  | span h ha hb na nb => rw [fl18, lng_t4, lng_app, lng_t4]; simp [Ex.l]; omega
  | test h ha na => rw [fl19, lng_t4, lng_bl]; simp [Ex.l]; omega
  | _ => simp [Ex.l]
theorem part_fit {e : Ex} (hf : e.fit) {i : Nat} (hi : i < e.l.length) : e.l[i].fit := by
  obtain ⟨k, s, nm, l⟩ := e
  exact fitL_mem hf.2 _ (List.getElem_mem hi)
set_option maxHeartbeats 16000000 in
theorem FeelprintParts_walk (e : Ex) (ao : Option Addr) (an ac : Nat) (po : Option Addr) (pn pc : Nat) (w : World) (hw : Num.Fit w) (h : IsE w e (.slice ao an ac) (.slice po pn pc)) (hf : e.fit) (hm : e.mass ≤ 1100000) :
    Calls Tryz.prog 5 #[exV e (.slice ao an ac) (.slice po pn pc)] w fun r w' => r = .returned (.bool true) ∧ Below w.heap.size w w' := by
  obtain ⟨V, hV⟩ : ∃ V, w.alloc (.cells #[.int .i64 e.kind, .string (text e.s), .slice ao an ac, .slice po pn pc] 25) = V := ⟨_, rfl⟩
  have BV : Below w.heap.size w V := hV ▸ ba (b0 w) _
  have P2 : V.heap[w.heap.size]? = some (.cells #[.int .i64 e.kind, .string (text e.s), .slice ao an ac, .slice po pn pc] 25) := hV ▸ heap_alloc_new w _
  have hE := h.later BV
  have HW := hid (fun (W : World) (hW : Below V.heap.size V W) => (hw.at BV).at hW)
  have AL := hid (fun (W : World) (hW : Below V.heap.size V W) => alive_any W (HW.out W hW))
  have PR := hid (fun (hs : e.mass ≤ 70000) (W : World) (hW : Below V.heap.size V W) => Print_any e ao an ac po pn pc W (HW.out W hW) (hE.later hW) hf hs)
  have BR := hid (fun (hs : e.mass ≤ 70000) (W : World) (hW : Below V.heap.size V W) => Bare_any e ao an ac po pn pc W (HW.out W hW) (hE.later hW) hf hs)
  have CK := hid (fun (hs : e.mass ≤ 1000000) (W : World) (hW : Below V.heap.size V W) => RCheck_full e ao an ac po pn pc W (hE.later hW) hs)
  have HE := hid hE
  have HBV := hid BV
  have HF := hid hf
  have HX := hid (show ∀ X, Below V.heap.size V X → X.cell? ⟨w.heap.size, 0, none⟩ = some (.int .i64 e.kind) ∧ X.cell? ⟨w.heap.size, 1, none⟩ = some (.string (text e.s)) ∧ X.cell? ⟨w.heap.size, 2, none⟩ = some (.slice ao an ac) ∧ X.cell? ⟨w.heap.size, 3, none⟩ = some (.slice po pn pc) from fun X hX => box_cells ((hX.block _ (World.block_lt_of_cell? _ ⟨w.heap.size, 0, none⟩ (box_cells P2).1)).trans P2))
  unfold exV at PR BR CK ⊢
  clear hw h BV P2 hE hf
  go_enter Tryz.func5, Tryz.ntmps5
  go_wp2_with fail
  refine (AL.out _ (b0 V)).mono ?_
  rintro r w1 ⟨rfl, hb1⟩
  obtain ⟨a0, a1, a2, a3⟩ := HX.out _ hb1
  have mk := made1 (HE.out.later hb1)
  have BL := ba (b0 w1) (.cells #[.int .i64 e.kind, .string (text e.s), .slice ao an ac, .slice po pn pc] 25)
  have GR := hid (Great_any _ _ _ mk (by
    intro x hx
    simp only [List.mem_cons, List.not_mem_nil, or_false] at hx
    subst hx
    omega))
  have HB1 := hid hb1
  have HBL := hid BL
  clear hb1 mk BL hV
  go_wp2_with fail
  refine GR.out.mono ?_
  rintro r w2 ⟨n, rfl, hn, hsm, hb2⟩
  have HB2 := hid (bt HB1.out (bt HBL.out hb2))
  have HSM := hid hsm
  clear hb2 hsm a0 a1 a2 a3 GR HBL HB1
  rcases hn with rfl | rfl
  case inr =>
    go_wp2_with fail
    refine (AL.out _ HB2.out).mono ?_
    rintro r w3 ⟨rfl, hb3⟩
    have HB3 := hid (bt HBV.out (bt HB2.out hb3))
    clear hb3
    go_wp2
    go_ret
    exact ⟨rfl, HB3.out⟩
  have hsml := HSM.out rfl e (List.mem_singleton.2 rfl)
  have hms := hsml.mass
  have HSE := hid hsml
  clear HSM hsml
  obtain ⟨a0, a1, a2, a3⟩ := HX.out _ HB2.out
  go_wp2_with fail
  refine (CK.out (by omega) _ HB2.out).mono ?_
  rintro r wc ⟨⟨x, rfl, hxc⟩, hbc⟩
  have HB2 := hid (bt HB2.out hbc)
  clear hbc a0 a1 a2 a3
  by_cases hc : x = 0
  case neg =>
    have hcb : (x == 0) = false := by rw [beq_eq_false_iff_ne]; exact hc
    have hcb2 : (x != 0) = true := by rw [bne_iff_ne]; exact hc
    clear hc
    go_wp2_with fail
    refine (AL.out _ HB2.out).mono ?_
    rintro r w4 ⟨rfl, hb4⟩
    have HB4 := hid (bt HBV.out (bt HB2.out hb4))
    clear hb4
    go_wp2
    go_ret
    exact ⟨rfl, HB4.out⟩
  subst hc
  have hc := hxc rfl
  clear hxc
  obtain ⟨a0, a1, a2, a3⟩ := HX.out _ HB2.out
  have hr := Rt.check hc
  have HV0 : Hid (writeV 0 e = .tuple #[.string (text (prV 0 e)), .int .i64 0]) := hid (by unfold writeV; rw [if_pos hc, hc])
  have HLN : Hid ((prV 0 e).length ≤ 60000) := hid (by obtain ⟨_, _, _, _, h4, _⟩ := texts_facts hc HSE.out 0; exact h4)
  have hmany : e.l.length ≤ (prV 0 e).length := hr.many 0
  have HIN : Hid (InO (e.l.map (prV 0)) (prV 0 e)) := hid (by have := hr.order 0 []; rw [List.append_nil] at this; exact this)
  have HC := hid hc
  have plen := fun X => HE.out.parts.2.len 3 X
  have hle := HE.out.parts.2.le
  clear hc hr
  obtain ⟨S, hS⟩ : ∃ S, prV 0 e = S := ⟨_, rfl⟩
  rw [hS] at HV0 HLN hmany HIN
  clear hS
  have zS := text_size S
  go_wp2_with fail
  refine (PR.out (by omega) _ HB2.out).mono ?_
  rintro r w3 ⟨rfl, hb3⟩
  have HB3 := hid (bt HB2.out hb3)
  clear hb3 a0 a1 a2 a3
  rw [HV0.out]
  obtain ⟨a0, a1, a2, a3⟩ := HX.out _ HB3.out
  go_wp2_with fail
  clear a0 a1 a2 a3
  go_loopg [36, 5] e.l.length (fun gk iv rv X => ∃ i : Nat, ∃ rs : List UInt8, iv = .int .i64 i ∧ rv = .string (text rs) ∧ i + gk = e.l.length ∧ rs.length ≤ 60000 ∧ Hid (InO ((e.l.drop i).map (prV 0)) rs) ∧ Hid (Below V.heap.size V X))
  case atStart => exact ⟨0, S, rfl, rfl, by omega, HLN.out, HIN, HB3⟩
  case round =>
    rename World => X
    obtain ⟨i, rs, rfl, rfl, hig, hrs, HI, HBX⟩ := hrel
    by_cases hi : i < e.l.length
    · obtain ⟨b1, o1, nv1, pv1, ix, e0, e1, e2, e3, is1⟩ := (HE.out.parts.2.later HBX.out).at i hi
      have hpm := mass_part hi
      obtain ⟨hp0, _⟩ := checkV_part HC.out (List.getElem_mem hi)
      have hpf := part_fit HF.out hi
      have hin := HI.out
      rw [List.drop_eq_getElem_cons hi, List.map_cons] at hin
      obtain ⟨a, rr, hra, hrr⟩ := hin.first
      obtain ⟨y, hy⟩ : ∃ y, e.l[i] = y := ⟨_, rfl⟩
      rw [hy] at e0 e1 is1 hpm hp0 hpf hra
      obtain ⟨xn, xp⟩ := is1.parts
      obtain ⟨xo, xl, xc, rfl⟩ := Strs.form xn
      obtain ⟨yo, yl, yc, rfl⟩ := xp.form
      obtain ⟨Y, hY⟩ : ∃ Y, X.alloc (.cells #[.int .i64 y.kind, .string (text y.s), .slice xo xl xc, .slice yo yl yc] 25) = Y := ⟨_, rfl⟩
      have BY : Below X.heap.size X Y := hY ▸ ba (b0 X) _
      have PY : Y.heap[X.heap.size]? = some (.cells #[.int .i64 y.kind, .string (text y.s), .slice xo xl xc, .slice yo yl yc] 25) := hY ▸ heap_alloc_new X _
      obtain ⟨y0, y1, y2, y3⟩ := box_cells PY
      have PP := Print_any y xo xl xc yo yl yc Y (HW.out Y (bt HBX.out BY)) (is1.later BY) hpf (by omega)
      have hwy : writeV 0 y = .tuple #[.string (text (prV 0 y)), .int .i64 0] := by unfold writeV; rw [if_pos hp0, hp0]
      rw [hwy] at PP
      unfold exV at PP
      obtain ⟨T, hT⟩ : ∃ T, prV 0 y = T := ⟨_, rfl⟩
      rw [hT] at PP hra
      have PPH := hid PP
      have HBY := hid (bt HBX.out BY)
      have IN := hid (fun W => index_any a T rr W (by rw [← hra]; omega))
      rw [← hra] at IN
      have HRR : Hid (∀ j, j ≤ a.length → InO ((e.l.drop (i + 1)).map (prV 0)) (rs.drop (j + T.length))) := hid (fun j hj => by
        have h1 : rs.drop (a.length + T.length) = rr := by rw [hra, ← List.append_assoc, show a.length + T.length = (a ++ T).length by simp, List.drop_left]
        exact InO.drop (by rw [h1]; exact hrr) (by omega))
      have zT := text_size T
      have zR := text_size rs
      have hext : ∀ n, (text rs).extract n rs.length = text (rs.drop n) := fun n => by have := text_extract rs n; rw [text_size] at this; exact this
      clear is1 hpm hp0 hpf hin hra hrr xn xp BY PY PP hwy hy hT
      go_wp2_with fail
      refine PPH.out.mono ?_
      rintro r w4 ⟨rfl, hb4⟩
      have HB4 := hid (bt HBY.out hb4)
      clear hb4 y0 y1 y2 y3 ix e0 e1 e2 e3
      go_wp2_with fail
      refine (IN.out _).mono ?_
      rintro r w5 ⟨j, rfl, hj1, hj2, rfl⟩
      have HJ := hid (HRR.out j hj1)
      have hx := hext (j + T.length)
      have hdl : (rs.drop (j + T.length)).length ≤ 60000 := by rw [List.length_drop]; omega
      have hneg : ¬ ((j : Int) < 0) := by omega
      clear hext hj1
      generalize rs.drop (j + T.length) = rs2 at *
      go_wp2
      go_roundg (gk - 1)
      case measure => omega
      case rel => exact ⟨i + 1, rs2, rfl, by rw [← hx], by omega, hdl, HJ, HB4⟩
    · obtain ⟨a0, a1, a2, a3⟩ := HX.out _ HBX.out
      go_wp2
      go_ret
      refine ⟨?_, HBV.out.trans (HBX.out.mono HBV.out.size)⟩
      simp [hmany]
end Go.Proofs.YtkmdclfkmmlloaaGreatDoor.Fp
