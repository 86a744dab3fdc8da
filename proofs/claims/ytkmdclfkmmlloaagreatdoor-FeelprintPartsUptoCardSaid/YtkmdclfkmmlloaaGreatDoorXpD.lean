/- Layer 10: contracts of checkAlone, check, Check. -/
import Derived.Test.YtkmdclfkmmlloaaGreatDoorXpC
set_option linter.unusedVariables false
set_option linter.unusedSimpArgs false
namespace Go.Proofs.YtkmdclfkmmlloaaGreatDoor.Xp
open Go Go.Proofs.YtkmdclfkmmlloaaGreatDoor Go.Proofs.YtkmdclfkmmlloaaGreatDoor.Utf Go.Proofs.YtkmdclfkmmlloaaGreatDoor.Names Go.RowKit
set_option maxRecDepth 100000

theorem run_store_fn {P : Program} {w : World} {a : Addr} {m : Mode} (f : Fn) (l c : Array Value) : (store a (.func f l c) m).run P w = stored P w a (.func f l c) m := run_store P w a _ m rfl
theorem run_store_nofn {P : Program} {w : World} {a : Addr} {m : Mode} : (store a .nilFunc m).run P w = stored P w a .nilFunc m := run_store P w a _ m rfl
attribute [local go_sem] run_store_fn run_store_nofn
mutual
/-- All kinds are numbers that an int holds. -/
def Ex.fit : Ex → Prop
  | .mk k _ _ l => (Lit.int .i64 k).wf = true ∧ fitL l
def fitL : List Ex → Prop
  | [] => True
  | e :: r => e.fit ∧ fitL r
end
theorem fitL_mem : ∀ {l : List Ex}, fitL l → ∀ e ∈ l, e.fit
  | [], _, e, h => by cases h
  | x :: l, hf, e, h => by
    simp only [fitL] at hf
    rcases List.mem_cons.1 h with rfl | h
    · exact hf.1
    · exact fitL_mem hf.2 e h
set_option maxHeartbeats 8000000 in
theorem checkAlone_any {w : World} {mb b o : Nat} {e : Ex} {nv pv : Value} (hK : KindsAt w mb) (hX : ExAt w b o e nv pv) (hf : e.fit) (hm : e.mass ≤ 2000000) (t : Bool) :
    Calls Tryz.prog 103 #[.map (some mb), .pointer (some ⟨b, o, none⟩), .bool t] w fun r w' => r = .returned (.int .i64 (alone e.kind e.s e.nm e.l.length t)) ∧ Below w.heap.size w w' := by
  obtain ⟨k, s, nm, l⟩ := e
  have c0 := hX.c0
  have c1 := hX.c1
  have c2 := hX.c2
  have c3 := hX.c3
  have hn := hX.is.parts.1
  have hp := hX.is.parts.2
  simp only [Ex.kind, Ex.s, Ex.nm, Ex.l, Ex.fit, Ex.mass] at c0 c1 c2 c3 hn hp hf hm ⊢
  obtain ⟨no, nn, nc, rfl⟩ : ∃ o n c, nv = .slice o n c := by
    obtain ⟨⟨a, c, h1, _⟩, _⟩ := hn
    exact ⟨_, _, _, h1⟩
  obtain ⟨po, pn, pc, rfl⟩ := hp.form
  have nlen := fun W => hn.len (P := Tryz.prog) 22 3 9 undS W
  have plen := fun W => hp.len (ty := 3) W
  have hnl := namesMass_len nm
  have HNX := hid (show ∀ x ∈ nm, x.length ≤ 2000000 from fun x h => by have := namesMass_mem h; omega)
  have HNL := hid (show nm.length ≤ 2000000 by omega)
  have HSL := hid (show s.length ≤ 2000000 by omega)
  obtain ⟨r, hr⟩ : ∃ r, alone k s nm l.length t = r := ⟨_, rfl⟩
  rw [hr]
  have HRR := hid hr
  have HN := hid hn
  obtain ⟨ml, hml⟩ : ∃ ml, nm.length = ml := ⟨_, rfl⟩
  obtain ⟨pl, hpl⟩ : ∃ pl, l.length = pl := ⟨_, rfl⟩
  unfold alone at HRR
  rw [hml, hpl] at HRR
  rw [hml] at nlen
  rw [hpl] at plen
  have hblt : b < w.heap.size := World.block_lt_of_cell? _ _ c0
  rcases hK.look k hf.1 with ⟨hk, lk⟩ | ⟨hk, pg, pb, ng, nb, tg, tb, RO, lk⟩
  · have HR2 := hid (show r = 2 by rw [← HRR.out, if_pos hk])
    unfold zrow at lk
    clear hK hX hn hp hr hf hm hnl hk hml hpl
    go_enter Tryz.func103, Tryz.ntmps103
    go_wp2
    go_ret
    rw [HR2.out]
    exact ⟨rfl, ba (b0 w) _⟩
  · have HR1 := hid (HRR.out.symm.trans (if_neg (by rw [hk]; simp)))
    have ep := RO.ep
    have en := RO.en
    have et := RO.et
    have HRO := hid RO
    have HCP := hid (fun X => (RO.cp pl X).mono (fun e w' h => (⟨h.1, 0, h.2⟩ : e = .returned (.bool (partsOk k pl)) ∧ ∃ q, w' = X.drewN q)))
    have HCN := hid (fun X => (RO.cn ml pl X).mono (fun e w' h => (⟨h.1, 0, h.2⟩ : e = .returned (.bool (namesOk k ml pl)) ∧ ∃ q, w' = X.drewN q)))
    unfold rowV at lk
    have B1 := hid (ba (b0 w) (.cells #[.func (.func pg) #[] pb, .func (.func ng) #[] nb, .func (.func tg) #[] tb] 115))
    have P1 := hid (heap_alloc_new w (.cells #[.func (.func pg) #[] pb, .func (.func ng) #[] nb, .func (.func tg) #[] tb] 115))
    clear hK hX hn hp hr hf hm hnl hk hml hpl RO HRR
    cases hpo : partsOk k pl with
    | false =>
      have HR3 := hid (show r = 17 by rw [HR1.out, hpo]; simp)
      rw [hpo] at HCP
      clear hpo
      go_enter Tryz.func103, Tryz.ntmps103
      go_wp2
      go_quiet ((go_at_fn pg; exact Calls.quiet_of (HCP.out _)))
      go_wp2
      go_ret
      rw [HR3.out]
      exact ⟨rfl, ⟨B1.out.os, B1.out.tape, B1.out.output, B1.out.size, B1.out.block⟩⟩
    | true =>
      rw [hpo] at HCP
      cases hno : namesOk k ml pl with
      | false =>
        have HR3 := hid (show r = 17 by rw [HR1.out, hpo, hno]; simp)
        rw [hno] at HCN
        clear hpo hno
        go_enter Tryz.func103, Tryz.ntmps103
        go_wp2
        go_quiet ((first | (go_at_fn pg; exact Calls.quiet_of (HCP.out _)) | (go_at_fn ng; exact Calls.quiet_of (HCN.out _))))
        go_wp2
        go_ret
        rw [HR3.out]
        exact ⟨rfl, ⟨B1.out.os, B1.out.tape, B1.out.output, B1.out.size, B1.out.block⟩⟩
      | true =>
        have HR3 := hid (HR1.out.trans (if_neg (by rw [hpo, hno]; simp)))
        rw [hno] at HCN
        clear hpo hno HR1
        by_cases h19 : k = 19 ∧ t = false
        · have HR4 := hid (show r = 17 by rw [HR3.out, if_pos h19])
          obtain ⟨rfl, rfl⟩ := h19
          go_enter Tryz.func103, Tryz.ntmps103
          go_wp2
          go_quiet ((first | (go_at_fn pg; exact Calls.quiet_of (HCP.out _)) | (go_at_fn ng; exact Calls.quiet_of (HCN.out _))))
          go_wp2
          go_ret
          rw [HR4.out]
          exact ⟨rfl, ⟨B1.out.os, B1.out.tape, B1.out.output, B1.out.size, B1.out.block⟩⟩
        · have HR4 := hid (HR3.out.trans (if_neg h19))
          have h19' : ¬ k = 19 ∨ (k = 19 ∧ t = true) := by
            by_cases h : k = 19
            · right
              cases t
              · exact absurd ⟨h, rfl⟩ h19
              · exact ⟨h, rfl⟩
            · exact .inl h
          clear HR3 h19
          go_enter Tryz.func103, Tryz.ntmps103
          go_wp2
          go_quiet ((first | (go_at_fn pg; exact Calls.quiet_of (HCP.out _)) | (go_at_fn ng; exact Calls.quiet_of (HCN.out _))))
          rename_i nq
          obtain ⟨Y, hY⟩ : ∃ Y, (w.alloc (.cells #[.func (.func pg) #[] pb, .func (.func ng) #[] nb, .func (.func tg) #[] tb] 115)).drewN nq = Y := ⟨_, rfl⟩
          have HBY := hid (show Below w.heap.size w Y from by rw [← hY]; exact ⟨B1.out.os, B1.out.tape, B1.out.output, B1.out.size, B1.out.block⟩)
          have HPY := hid (show Y.heap[w.heap.size]? = some (.cells #[.func (.func pg) #[] pb, .func (.func ng) #[] nb, .func (.func tg) #[] tb] 115 (0, 0)) from by rw [← hY]; exact P1.out)
          rw [hY]
          have y1 := (HBY.out.cell (p := ⟨b, o + 1, none⟩) hblt).trans c1
          have y0 := (HBY.out.cell (p := ⟨b, o, none⟩) hblt).trans c0
          have y2 := (HBY.out.cell (p := ⟨b, o + 2, none⟩) hblt).trans c2
          have y7 : Y.cell? ⟨w.heap.size, 2, none⟩ = some (.func (.func tg) #[] tb) := by rw [Lib.cell_of_heap HPY.out]; rfl
          clear hY lk c0 c1 c2 c3
          have HCT := hid (fun X hX => HRO.out.ct X s hX HSL.out)
          obtain ⟨tv, htv⟩ : ∃ tv, txt k s = tv := ⟨_, rfl⟩
          rw [htv] at HCT HR4
          clear htv
          rcases h19' with h19 | ⟨rfl, rfl⟩
          all_goals (
            go_wp2
            go_region_with (
              go_at_fn tg
              refine (HCT.out _ ?hx).mono ?_
              case hx => first | exact HBY.out | exact ⟨HBY.out.os, HBY.out.tape, HBY.out.output, HBY.out.size, HBY.out.block⟩
              rintro r1 w2 ⟨rfl, hb2⟩
              have HB2 := hid (show Below w.heap.size w w2 from HBY.out.trans ((show Below Y.heap.size Y w2 from ⟨hb2.os, hb2.tape, hb2.output, hb2.size, hb2.block⟩).mono HBY.out.size))
              clear hb2)
            all_goals (
              by_cases ht : tv = 0
              · have HR5 := hid (show r = namesE nm by rw [HR4.out, if_neg (by simpa using ht)])
                have CN := hid (checkNames_any (.slice no nn nc) nm w2 (HN.out.below HB2.out (Nat.le_refl _)) HNX.out HNL.out)
                have z2 := (HB2.out.cell (p := ⟨b, o + 2, none⟩) hblt).trans ((HBY.out.cell (p := ⟨b, o + 2, none⟩) hblt).symm.trans y2)
                subst ht
                go_wp2_with fail
                refine CN.out.mono ?_
                rintro r2 w3 ⟨rfl, hb3⟩
                have HB3 := hid (bt HB2.out hb3)
                clear hb3
                go_wp2
                go_ret
                rw [HR5.out]
                exact ⟨rfl, HB3.out⟩
              · have HR5 := hid (show r = tv by rw [HR4.out, if_pos ht])
                go_wp2
                go_ret
                rw [HR5.out]
                exact ⟨rfl, HB2.out⟩))
end Go.Proofs.YtkmdclfkmmlloaaGreatDoor.Xp
