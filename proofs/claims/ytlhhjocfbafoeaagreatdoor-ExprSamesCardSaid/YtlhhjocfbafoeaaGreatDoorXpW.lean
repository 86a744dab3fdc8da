/- Layer 10: the walk of ExprSames. -/
import Derived.Test.YtlhhjocfbafoeaaGreatDoorXpG
import Derived.Test.YtlhhjocfbafoeaaGreatDoorXpV
import Derived.Deep.RegionHeld3
set_option linter.unusedVariables false
set_option linter.unusedSimpArgs false
namespace Go.Proofs.YtlhhjocfbafoeaaGreatDoor.Xp
open Go Go.Proofs.YtlhhjocfbafoeaaGreatDoor Go.RowKit
set_option maxRecDepth 100000
set_option maxHeartbeats 16000000 in
theorem ExprSames_walk (a b : Ex) (ao : Option Addr) (an ac : Nat) (po : Option Addr) (pn pc : Nat) (bo : Option Addr) (bn bc : Nat) (qo : Option Addr) (qn qc : Nat) (w : World) (hw : Num.Fit w)
    (h : IsE w a (.slice ao an ac) (.slice po pn pc)) (k : IsE w b (.slice bo bn bc) (.slice qo qn qc)) (hz : a.mass ≤ 1100000) (kz : b.mass ≤ 1100000) :
    Calls Tryz.prog 4 #[exV a (.slice ao an ac) (.slice po pn pc), exV b (.slice bo bn bc) (.slice qo qn qc)] w fun e w' => e = .returned (.bool true) ∧ Below w.heap.size w w' := by
  obtain ⟨V, hV⟩ : ∃ V, (w.alloc (.cells #[.int .i64 a.kind, .string (text a.s), .slice ao an ac, .slice po pn pc] 25)).alloc (.cells #[.int .i64 b.kind, .string (text b.s), .slice bo bn bc, .slice qo qn qc] 25) = V := ⟨_, rfl⟩
  obtain ⟨BV, P2, P3⟩ := two_boxes w _ _ V hV
  have AL := hid (fun (W : World) (hW : Below V.heap.size V W) => alive_any W ((hw.at BV).at hW))
  have HA := hid (h.later BV)
  have HB := hid (k.later BV)
  have HBV := hid BV
  have HP2 := hid P2
  have HP3 := hid P3
  have HZ := hid (And.intro hz kz)
  have s1 := size_mass a
  have s2 := size_mass b
  have HSZ := hid (show a.size ≤ 100000000 ∧ b.size ≤ 100000000 from ⟨by omega, by omega⟩)
  unfold exV
  clear hw h k BV P2 P3 hz kz s1 s2
  go_enter Tryz.func4, Tryz.ntmps4
  go_wp2_with fail
  refine (AL.out _ (b0 V)).mono ?_
  rintro e w1 ⟨rfl, hb1⟩
  obtain ⟨a0, a1, a2, a3⟩ := box_cells ((hb1.block _ (lt_of_some HP2.out)).trans HP2.out)
  obtain ⟨e0, e1, e2, e3⟩ := box_cells ((hb1.block _ (lt_of_some HP3.out)).trans HP3.out)
  have mk := Exs.made (w := w1) [(a, .slice ao an ac, .slice po pn pc), (b, .slice bo bn bc, .slice qo qn qc)] (by
    intro x hx
    simp only [List.mem_cons, List.not_mem_nil, or_false] at hx
    rcases hx with rfl | rfl
    · exact HA.out.later hb1
    · exact HB.out.later hb1) (by simp)
  have BL := ba (b0 w1) (.cells ([(a, Value.slice ao an ac, Value.slice po pn pc), (b, .slice bo bn bc, .slice qo qn qc)].flatMap ecells).toArray 25)
  have GR := hid (Great_any _ _ _ mk (by
    intro x hx
    simp only [List.map_cons, List.map_nil, List.mem_cons, List.not_mem_nil, or_false] at hx
    rcases hx with rfl | rfl
    · have := HZ.out.1; omega
    · have := HZ.out.2; omega))
  have HB1 := hid hb1
  have HBL := hid BL
  simp only [List.flatMap_cons, List.flatMap_nil, ecells, List.cons_append, List.nil_append, List.append_nil, List.length_cons, List.length_nil] at GR HBL
  clear hb1 mk BL hV
  go_wp2_with fail
  refine GR.out.mono ?_
  rintro e w2 ⟨n, rfl, hn, hsm, hb2⟩
  have HB2 := hid (bt HB1.out (bt HBL.out hb2))
  have HSM := hid hsm
  clear hb2 hsm a0 a1 a2 a3 e0 e1 e2 e3 GR HBL HB1
  rcases hn with rfl | rfl
  · obtain ⟨m0, hm0⟩ : ∃ m0 : Bool, (m0 = true ↔ a = b) := by
      by_cases e : a = b
      · exact ⟨true, by simp [e]⟩
      · exact ⟨false, by simp [e]⟩
    have SAB := hid (fun (W : World) (hW : Below V.heap.size V W) => (Same_any a b ao an ac po pn pc bo bn bc qo qn qc W (HA.out.later hW) (HB.out.later hW) HSZ.out.1 HSZ.out.2).mono (R' := fun r w' => r = .returned (.bool m0) ∧ Below W.heap.size W w') (by
      rintro r w' ⟨m, rfl, hm, hb⟩
      have : m = m0 := by cases m <;> cases m0 <;> simp_all
      exact ⟨by rw [this], hb⟩))
    have SBA := hid (fun (W : World) (hW : Below V.heap.size V W) => (Same_any b a bo bn bc qo qn qc ao an ac po pn pc W (HB.out.later hW) (HA.out.later hW) HSZ.out.2 HSZ.out.1).mono (R' := fun r w' => r = .returned (.bool m0) ∧ Below W.heap.size W w') (by
      rintro r w' ⟨m, rfl, hm, hb⟩
      have : m = m0 := by
        have : (m = true ↔ a = b) := hm.trans eq_comm
        cases m <;> cases m0 <;> simp_all
      exact ⟨by rw [this], hb⟩))
    have SAA := hid (fun (W : World) (hW : Below V.heap.size V W) => (Same_any a a ao an ac po pn pc ao an ac po pn pc W (HA.out.later hW) (HA.out.later hW) HSZ.out.1 HSZ.out.1).mono (R' := fun r w' => r = .returned (.bool true) ∧ Below W.heap.size W w') (by
      rintro r w' ⟨m, rfl, hm, hb⟩
      exact ⟨by rw [hm.2 rfl], hb⟩))
    have RAB := hid (fun (W : World) (hW : Below V.heap.size V W) => (RSame_any a.size a b ao an ac po pn pc bo bn bc qo qn qc W (Nat.le_refl _) (HA.out.later hW) (HB.out.later hW)).mono (R' := fun r w' => r = .returned (.bool m0) ∧ Below W.heap.size W w') (by
      rintro r w' ⟨m, rfl, hm, hb⟩
      have : m = m0 := by cases m <;> cases m0 <;> simp_all
      exact ⟨by rw [this], hb⟩))
    unfold exV at SAB SBA SAA RAB
    have HS := hid (show ∀ X, Below V.heap.size V X → (Below V.heap.size V X ∧ X.cell? ⟨w.heap.size, 0, none⟩ = some (.int .i64 a.kind) ∧ X.cell? ⟨w.heap.size, 1, none⟩ = some (.string (text a.s)) ∧ X.cell? ⟨w.heap.size, 2, none⟩ = some (.slice ao an ac) ∧ X.cell? ⟨w.heap.size, 3, none⟩ = some (.slice po pn pc) ∧ X.cell? ⟨w.heap.size + 1, 0, none⟩ = some (.int .i64 b.kind) ∧ X.cell? ⟨w.heap.size + 1, 1, none⟩ = some (.string (text b.s)) ∧ X.cell? ⟨w.heap.size + 1, 2, none⟩ = some (.slice bo bn bc) ∧ X.cell? ⟨w.heap.size + 1, 3, none⟩ = some (.slice qo qn qc)) from fun X hX => by
      obtain ⟨a0, a1, a2, a3⟩ := box_cells ((hX.block _ (lt_of_some HP2.out)).trans HP2.out)
      obtain ⟨e0, e1, e2, e3⟩ := box_cells ((hX.block _ (lt_of_some HP3.out)).trans HP3.out)
      exact ⟨hX, a0, a1, a2, a3, e0, e1, e2, e3⟩)
    have HS0 := HS.out w2.drew (bdrewB HB2.out 1)
    clear hm0 HA HB HSM HP2 HP3 HZ HSZ AL HB2
    cases m0
    all_goals
      go_wp2_with fail
      go_region_held3 (fun X => (Below V.heap.size V X ∧ X.cell? ⟨w.heap.size, 0, none⟩ = some (.int .i64 a.kind) ∧ X.cell? ⟨w.heap.size, 1, none⟩ = some (.string (text a.s)) ∧ X.cell? ⟨w.heap.size, 2, none⟩ = some (.slice ao an ac) ∧ X.cell? ⟨w.heap.size, 3, none⟩ = some (.slice po pn pc) ∧ X.cell? ⟨w.heap.size + 1, 0, none⟩ = some (.int .i64 b.kind) ∧ X.cell? ⟨w.heap.size + 1, 1, none⟩ = some (.string (text b.s)) ∧ X.cell? ⟨w.heap.size + 1, 2, none⟩ = some (.slice bo bn bc) ∧ X.cell? ⟨w.heap.size + 1, 3, none⟩ = some (.slice qo qn qc))) (first | exact HSx | exact HS0) (first
        | (go_at_call 19
           with_reducible refine (SAB.out _ ?_).mono ?_
           (first | exact HSx.1 | exact HS0.1)
           rintro ev wx ⟨rfl, hb⟩
           first | have HSx := HS.out _ (bt HSx.1 hb) | have HSx := HS.out _ (bt HS0.1 hb))
        | (go_at_call 19
           with_reducible refine (SBA.out _ ?_).mono ?_
           (first | exact HSx.1 | exact HS0.1)
           rintro ev wx ⟨rfl, hb⟩
           first | have HSx := HS.out _ (bt HSx.1 hb) | have HSx := HS.out _ (bt HS0.1 hb))
        | (go_at_call 19
           with_reducible refine (SAA.out _ ?_).mono ?_
           (first | exact HSx.1 | exact HS0.1)
           rintro ev wx ⟨rfl, hb⟩
           first | have HSx := HS.out _ (bt HSx.1 hb) | have HSx := HS.out _ (bt HS0.1 hb))
        | (go_at_call 20
           with_reducible refine (RAB.out _ ?_).mono ?_
           (first | exact HSx.1 | exact HS0.1)
           rintro ev wx ⟨rfl, hb⟩
           first | have HSx := HS.out _ (bt HSx.1 hb) | have HSx := HS.out _ (bt HS0.1 hb)))
      all_goals
        go_wp2
        go_ret
        exact ⟨rfl, bt HBV.out HSx.1⟩
  · go_wp2_with fail
    refine (AL.out _ HB2.out).mono ?_
    rintro e w3 ⟨rfl, hb3⟩
    have HB3 := hid (bt HBV.out (bt HB2.out hb3))
    clear hb3
    go_wp2
    go_ret
    exact ⟨rfl, HB3.out⟩
end Go.Proofs.YtlhhjocfbafoeaaGreatDoor.Xp
