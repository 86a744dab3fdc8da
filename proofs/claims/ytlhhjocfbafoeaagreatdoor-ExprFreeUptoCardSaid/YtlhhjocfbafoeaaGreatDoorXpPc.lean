/- Layer 10: the walk of ExprFree. -/
import Derived.Test.YtlhhjocfbafoeaaGreatDoorXpPa
import Derived.Test.YtlhhjocfbafoeaaGreatDoorXbT
set_option linter.unusedVariables false
set_option linter.unusedSimpArgs false
set_option linter.unusedSectionVars false
namespace Go.Proofs.YtlhhjocfbafoeaaGreatDoor.Xp
open Go Go.Proofs.YtlhhjocfbafoeaaGreatDoor Go.Proofs.YtlhhjocfbafoeaaGreatDoor.Utf Go.Proofs.YtlhhjocfbafoeaaGreatDoor.Names Go.Proofs.YtlhhjocfbafoeaaGreatDoor.Sc Go.RowKit
set_option maxRecDepth 100000
theorem bd_one {i n : Nat} (h : i < n) (hn : n ≤ 3500) : (0 + i) * 16 ≤ 140737488355328 ∧ 0 + i ≤ maxLen := by
  unfold maxLen; omega
theorem bd_two {i n : Nat} (h : i < n) (hn : n ≤ 3500) : (i + (n - (i + 1))) * 16 ≤ 140737488355328 ∧ i + (n - (i + 1)) ≤ maxLen := by
  unfold maxLen; omega
theorem put_self {l : List Nam} (h : Rise l) : put [] l = l := Rise.unique (put_rise l (by simp [Rise])) h fun z => by rw [put_mem]; simp
/-- All but one. -/
def less (l : List Nam) (i : Nat) : List Nam := l.take i ++ l.drop (i + 1)
theorem less_sub (l : List Nam) (i : Nat) : (less l i).Sublist l := by
  unfold less
  have h : (l.take i ++ l.drop (i + 1)).Sublist (l.take i ++ l.drop i) := List.Sublist.append_left (by
    rw [show l.drop (i + 1) = (l.drop i).drop 1 by rw [List.drop_drop]]
    exact List.drop_sublist 1 _) _
  rwa [List.take_append_drop] at h
theorem less_rise {l : List Nam} (h : Rise l) (i : Nat) : Rise (less l i) := List.Pairwise.sublist (less_sub l i) h
theorem less_out {l : List Nam} (h : l.Nodup) {i : Nat} (hi : i < l.length) : l[i] ∉ less l i := by
  intro hm
  have e : l = l.take i ++ l[i] :: l.drop (i + 1) := by rw [← List.drop_eq_getElem_cons hi, List.take_append_drop]
  have h2 := h
  rw [e, List.nodup_append] at h2
  unfold less at hm
  rcases List.mem_append.1 hm with hm | hm
  · exact h2.2.2 _ hm _ (List.mem_cons_self ..) rfl
  · exact (List.nodup_cons.1 h2.2.1).1 hm
section
variable {e : Ex} (hc : checkV e = 0) (hm : e.mass ≤ 9500)
include hc hm
theorem free_right : (freeV e).all rightB = true := by
  obtain ⟨hd, hk⟩ := checkV_zero.1 hc
  rw [List.all_eq_true]
  intro z hz
  exact fr_right e true [] z hk (((freeV_facts hd (by omega)).2 z).1 hz)
theorem free_rise : Rise (freeV e) := (freeV_facts (checkV_zero.1 hc).1 (by omega)).1
theorem free_few : (freeV e).length ≤ 3500 := by have := freeV_len e (by omega); omega
theorem free_in : scopedV (freeV e) e = 0 := by
  have hd := (checkV_zero.1 hc).1
  have hf := (freeV_facts hd (by omega)).2
  exact scoped_in (more := []) hd (free_rise hc hm).nodup (fun z hz => .inl (fr_nams e [] z ((hf z).1 hz))) (by simp; omega) (fun z hz => (hf z).2 hz)
theorem more_in {more : List Nam} (h50 : more.length ≤ 50) : scopedV (put (freeV e) more) e = 0 := by
  have hd := (checkV_zero.1 hc).1
  have hf := (freeV_facts hd (by omega)).2
  refine scoped_in (more := more) hd (put_rise more (free_rise hc hm)).nodup (fun z hz => ?_) (by omega) (fun z hz => (put_mem more _ z).2 (.inl ((hf z).2 hz)))
  rcases (put_mem more _ z).1 hz with h | h
  · exact .inl (fr_nams e [] z ((hf z).1 h))
  · exact .inr h
theorem less_no {i : Nat} (hi : i < (freeV e).length) : scopedV (less (freeV e) i) e = 13 := by
  have hd := (checkV_zero.1 hc).1
  have hf := (freeV_facts hd (by omega)).2
  exact scoped_out hd (less_rise (free_rise hc hm) i).nodup (fun z hz => fr_nams e [] z ((hf z).1 ((less_sub _ i).subset hz))) (by omega) ⟨_, (hf _).1 (List.getElem_mem hi), less_out (free_rise hc hm).nodup hi⟩
end
set_option maxHeartbeats 16000000 in
theorem ExprFree_walk (e : Ex) (ao : Option Addr) (an ac : Nat) (po : Option Addr) (pn pc : Nat) (v1 : Value) (more : List Nam) (w : World) (hw : Num.Fit w) (h : IsE w e (.slice ao an ac) (.slice po pn pc)) (hv1 : Strs w v1 more) (hf : e.fit) (hm : e.mass ≤ 1100000) (hx1 : ∀ x ∈ more, x.length ≤ 2000000) :
    Calls Tryz.prog 5 #[exV e (.slice ao an ac) (.slice po pn pc), v1] w fun r w' => r = .returned (.bool true) ∧ Below w.heap.size w w' := by
  obtain ⟨V, hV⟩ : ∃ V, w.alloc (.cells #[.int .i64 e.kind, .string (text e.s), .slice ao an ac, .slice po pn pc] 25) = V := ⟨_, rfl⟩
  have BV : Below w.heap.size w V := hV ▸ ba (b0 w) _
  have P2 : V.heap[w.heap.size]? = some (.cells #[.int .i64 e.kind, .string (text e.s), .slice ao an ac, .slice po pn pc] 25) := hV ▸ heap_alloc_new w _
  have hE := h.later BV
  have hsz := size_mass e
  obtain ⟨hl1, hl2⟩ := len_mass e
  have AL := hid (fun (W : World) (hW : Below V.heap.size V W) => alive_any W ((hw.at BV).at hW))
  have CK := hid (fun (W : World) (hW : Below V.heap.size V W) => Check_any e ao an ac po pn pc W ((hw.at BV).at hW) (hE.later hW) hf (by omega))
  have FR := hid (fun (W : World) (hW : Below V.heap.size V W) => Free_any e ao an ac po pn pc W (hE.later hW) (by omega))
  have DP := hid (fun (W : World) (hW : Below V.heap.size V W) => Depth_any e ao an ac po pn pc W (hE.later hW) (by omega))
  have CN := hid (fun (W : World) (hW : Below V.heap.size V W) => Count_any e ao an ac po pn pc W (hE.later hW) (by omega))
  have HE := hid hE
  have HBV := hid BV
  have HP2 := hid P2
  have HW := hid (fun (W : World) (hW : Below V.heap.size V W) => (hw.at BV).at hW)
  have HF := hid hf
  have HX := hid (show ∀ X, Below V.heap.size V X → X.cell? ⟨w.heap.size, 0, none⟩ = some (.int .i64 e.kind) ∧ X.cell? ⟨w.heap.size, 1, none⟩ = some (.string (text e.s)) ∧ X.cell? ⟨w.heap.size, 2, none⟩ = some (.slice ao an ac) ∧ X.cell? ⟨w.heap.size, 3, none⟩ = some (.slice po pn pc) from fun X hX => box_cells ((hX.block _ (lt_of_some P2)).trans P2))
  have HM1 := hid (fun (W : World) (hW : Below V.heap.size V W) => (hv1.below BV (Nat.le_refl _)).below hW (Nat.le_refl _))
  have mlen := fun X => hv1.len (P := Tryz.prog) 22 3 9 undS X
  have mle := hv1.le
  have HX1 := hid hx1
  unfold exV at CK FR DP CN ⊢
  clear hw h BV P2 hE hf hv1 hx1
  go_enter Tryz.func5, Tryz.ntmps5
  go_wp2_with fail
  refine (AL.out _ (b0 V)).mono ?_
  rintro r w1 ⟨rfl, hb1⟩
  obtain ⟨a0, a1, a2, a3⟩ := HX.out _ hb1
  have mk := Exs.made (w := w1) [(e, .slice ao an ac, .slice po pn pc)] (by
    intro x hx
    simp only [List.mem_cons, List.not_mem_nil, or_false] at hx
    subst hx
    exact HE.out.later hb1) (by simp)
  have BL := ba (b0 w1) (.cells ([(e, Value.slice ao an ac, Value.slice po pn pc)].flatMap ecells).toArray 25)
  have GR := hid (Great_any _ _ _ mk (by
    intro x hx
    simp only [List.map_cons, List.map_nil, List.mem_cons, List.not_mem_nil, or_false] at hx
    subst hx
    omega))
  have HB1 := hid hb1
  have HBL := hid BL
  simp only [List.flatMap_cons, List.flatMap_nil, ecells, List.cons_append, List.nil_append, List.append_nil, List.length_cons, List.length_nil] at GR HBL
  clear hb1 mk BL hV
  go_wp2_with fail
  refine GR.out.mono ?_
  rintro r w2 ⟨n, rfl, hn, hsm, hb2⟩
  have HB2 := hid (bt HB1.out (bt HBL.out hb2))
  have HSM := hid hsm
  clear hb2 hsm a0 a1 a2 a3 GR HBL HB1
  rcases hn with rfl | rfl
  case inr =>
    go_wp2_with fail
    refine (AL.out _ HB2.out).mono ?_
    rintro r w3 ⟨rfl, hb3⟩
    have HB3 := hid (bt HBV.out (bt HB2.out hb3))
    clear hb3
    go_wp2
    go_ret
    exact ⟨rfl, HB3.out⟩
  obtain ⟨a0, a1, a2, a3⟩ := HX.out _ HB2.out
  by_cases h50 : 50 < more.length
  case pos =>
    have h5i : (50 : Int) < (more.length : Int) := by omega
    go_wp2_with fail
    refine (AL.out _ HB2.out).mono ?_
    rintro r w9 ⟨rfl, hb9⟩
    have HB9 := hid (bt HBV.out (bt HB2.out hb9))
    clear hb9
    go_wp2
    go_ret
    exact ⟨rfl, HB9.out⟩
  have h5i : decide ((50 : Int) < (more.length : Int)) = false := decide_eq_false (by omega)
  have h5j : decide (50 < more.length) = false := decide_eq_false h50
  have H50 := hid (show more.length ≤ 50 by omega)
  clear h50
  go_wp2_with fail
  refine (CK.out _ HB2.out).mono ?_
  rintro r w3 ⟨rfl, hb3⟩
  have HB3 := hid (bt HB2.out hb3)
  clear hb3 a0 a1 a2 a3
  by_cases hc : checkV e = 0
  case neg =>
    have hcb : (checkV e == 0) = false := by rw [beq_eq_false_iff_ne]; exact hc
    have hcb2 : (checkV e != 0) = true := by rw [bne_iff_ne]; exact hc
    clear hc
    go_wp2_with fail
    refine (AL.out _ HB3.out).mono ?_
    rintro r w9 ⟨rfl, hb9⟩
    have HB9 := hid (bt HBV.out (bt HB3.out hb9))
    clear hb9
    go_wp2
    go_ret
    exact ⟨rfl, HB9.out⟩
  rw [hc]
  have hse := (show ∀ x ∈ [e], Small x from by simpa using HSM.out) e (by simp)
  have hml := hse.mass
  have HC := hid hc
  have HML := hid hml
  have hfew := free_few hc hml
  have HRI := hid (free_rise hc hml)
  have HRT := hid (free_right hc hml)
  have HIN := hid (free_in hc hml)
  have HFM := hid (fun z (hz : z ∈ freeV e) => freeV_mem (by omega) hz)
  clear hc hse hml HSM
  obtain ⟨a0, a1, a2, a3⟩ := HX.out _ HB3.out
  go_wp2_with fail
  refine (FR.out _ HB3.out).mono ?_
  rintro r w4 ⟨vf, rfl, hvf, hb4⟩
  obtain ⟨fo, fn, fc, rfl⟩ := Strs.form hvf
  have flen := fun X => hvf.len (P := Tryz.prog) 22 3 9 undS X
  have HB4 := hid (bt HB3.out hb4)
  have HVF := hid hvf
  clear hb4 a0 a1 a2 a3 hvf
  obtain ⟨L, hL⟩ : ∃ L, freeV e = L := ⟨_, rfl⟩
  have SC := hid (fun (W : World) (hW : Below V.heap.size V W) (p : Option Addr) (N : List Nam) (hs : ScAt W p N) => Scoped_any e ao an ac po pn pc p N W hs (HE.out.later hW) (by have := HML.out; omega))
  have HMI := hid (fun (h : more.length ≤ 50) => more_in HC.out HML.out h)
  have HLN := hid (fun i (hi : i < (freeV e).length) => less_no HC.out HML.out hi)
  rw [hL] at hfew HRI HRT HIN HFM flen HVF HMI
  simp only [hL] at HLN
  clear hL
  unfold exV at SC
  have NW := hid (New_any (.slice fo fn fc) L w4 HVF.out (by omega) HFM.out)
  go_wp2_with fail
  refine NW.out.mono ?_
  rintro r w5 ⟨p5, er, rfl, hg, hb5⟩
  rcases hg with ⟨_, _, h⟩ | ⟨_, _, _, h⟩ | ⟨rfl, _, _, _, hs⟩
  · rw [HRT.out] at h; cases h
  · rw [put_self HRI.out] at h; exfalso; omega
  rw [put_self HRI.out] at hs
  have HB5 := hid (bt HB4.out hb5)
  have HVF5 := hid (HVF.out.below hb5 (Nat.le_refl _))
  have HS5 := hid hs
  have S5 := hid (SC.out w5 (bt HB4.out hb5) p5 L hs)
  rw [HIN.out] at S5
  clear hb5 hs NW HVF
  obtain ⟨a0, a1, a2, a3⟩ := HX.out _ HB5.out
  go_wp2_with fail
  refine S5.out.mono ?_
  rintro r w6 ⟨rfl, hb6⟩
  have HB6 := hid (bt HB5.out hb6)
  have HVF6 := hid (HVF5.out.below hb6 (Nat.le_refl _))
  have W6 := hid (With_any p5 L v1 more w6 (HS5.out.later hb6) (HM1.out w6 (bt HB5.out hb6)) (by have := H50.out; omega) HX1.out)
  clear hb6 a0 a1 a2 a3 S5 HS5 HVF5
  go_wp2_with fail
  refine W6.out.mono ?_
  rintro r w7 ⟨p7, er, rfl, hg, hb7⟩
  have HB7 := hid (bt HB6.out hb7)
  have HVF7 := hid (HVF6.out.below hb7 (Nat.le_refl _))
  have HG := hid (show er ≠ 0 ∨ (er = 0 ∧ ScAt w7 p7 (put L more)) from by
    rcases hg with ⟨rfl, _, _⟩ | ⟨rfl, _, _, _⟩ | ⟨rfl, _, _, _, hs⟩
    · exact .inl (by decide)
    · exact .inl (by decide)
    · exact .inr ⟨rfl, hs⟩)
  clear hb7 hg W6 HVF6
  obtain ⟨i0, hI, hz0, hz1, hz2⟩ := info_parts infoS
  have HI := hid hI
  clear hI
  obtain ⟨a0, a1, a2, a3⟩ := HX.out _ HB7.out
  go_upto_region 8 with fail
  go_cut [60] from 53 to 60 (fun c X => c = .bool false ∧ Hid (Below w7.heap.size w7 X))
  case first =>
    rcases HG.out with hne | ⟨rfl, hs⟩
    · have hneb : (er == 0) = false := by rw [beq_eq_false_iff_ne]; exact hne
      go_wp2_with fail
      go_meet
      exact ⟨rfl, hid (b0 w7)⟩
    · have S7 := hid (SC.out w7 HB7.out p7 _ hs)
      rw [HMI.out H50.out] at S7
      clear hs
      go_wp2_with fail
      refine S7.out.mono ?_
      rintro r w8 ⟨rfl, hb8⟩
      go_wp2_with fail
      go_meet
      exact ⟨rfl, hid hb8⟩
  case rest =>
    obtain ⟨rfl, HWC⟩ := hcut
    clear a0 a1 a2 a3 HG HMI mlen
    have HBC := hid (bt HB7.out HWC.out)
    have HVC := hid (HVF7.out.below HWC.out (Nat.le_refl _))
    go_wp2_with fail
    go_loopg [63] L.length (fun gk iv X => ∃ i : Nat, iv = .int .i64 i ∧ i + gk = L.length ∧ Hid (Below wc.heap.size wc X))
    case atStart => exact ⟨0, rfl, by omega, hid (b0 wc)⟩
    case round =>
      rename World => X
      obtain ⟨i, rfl, hig, HBX⟩ := hrel
      by_cases hi : i < L.length
      · have hsX := HVC.out.below HBX.out (Nat.le_refl _)
        obtain ⟨va, _, _, hruna, hrowa⟩ := Row.sub (P := Tryz.prog) hsX 0 i (Nat.zero_le _) (Nat.le_of_lt hi) 22 9 undS sizS
        obtain ⟨vb, _, hrunb, _, hrowb⟩ := Row.sub (P := Tryz.prog) hsX (i + 1) L.length hi (Nat.le_refl _) 22 9 undS sizS
        have ra : ∀ W, (Instr.slice 22 (.slice fo fn fc) none (some (.int .i64 i)) none).run Tryz.prog W = .ok va W := fun W => hruna rfl .i64 W
        have rb : ∀ W, (Instr.slice 22 (.slice fo fn fc) (some (.int .i64 ((i : Int) + 1))) none none).run Tryz.prog W = .ok vb W := fun W => by have := hrunb rfl .i64 W; simpa using this
        have ea : ((strsOf L).drop (0 * 1)).take ((i - 0) * 1) = strsOf (L.take i) := by simp [strsOf, List.map_take]
        have eb : ((strsOf L).drop ((i + 1) * 1)).take ((L.length - (i + 1)) * 1) = strsOf (L.drop (i + 1)) := by
          have : (strsOf (L.drop (i + 1))).length = L.length - (i + 1) := by rw [strsOf_length, List.length_drop]
          simp only [Nat.mul_one]
          rw [← this, show (strsOf L).drop (i + 1) = strsOf (L.drop (i + 1)) by simp [strsOf, List.map_drop], List.take_length]
        rw [ea] at hrowa
        rw [eb] at hrowb
        have HRA := hid (show Row 1 X va i (strsOf (L.take i)) from hrowa)
        have HRB := hid hrowb
        have hlen : (less L i).length = i + (L.length - (i + 1)) := by unfold less; rw [List.length_append, List.length_take, List.length_drop]; omega
        have HLL := hid (show (less L i).length ≤ 1000000 by omega)
        have HLW := hid (show (less L i).length ≤ 4000 by omega)
        have HBD1 := hid (bd_one hi hfew)
        have HBD2 := hid (bd_two hi hfew)
        have HLM := hid (fun z (hz : z ∈ less L i) => HFM.out z ((less_sub L i).subset hz))
        have HLR := hid (show (less L i).all rightB = true from List.all_eq_true.2 fun z hz => List.all_eq_true.1 HRT.out z ((less_sub L i).subset hz))
        have HLP := hid (put_self (less_rise HRI.out i))
        have HLS := hid (HLN.out i hi)
        have HMK := hid (show ∀ (w10 : World) (v10 : Value), w10.ownsRow X.heap.size 9 1 v10 (i + (L.length - (i + 1))) (strsOf (L.take i) ++ strsOf (L.drop (i + 1))) → Strs w10 v10 (less L i) from fun w10 v10 hown => by
          have : OwnS X.heap.size w10 v10 (less L i) := by
            unfold OwnS
            rw [hlen]
            unfold less
            rw [strsOf_append]
            exact hown
          exact this.strs (by have := HLL.out; omega))
        have HW1 := hid (show Below X.heap.size X (X.alloc (.cells #[] 9)).drew from bdrewB (ba (b0 X) _) 1)
        have hwr : IntKind.i64.wrap ((i : Int) + 1) = (i : Int) + 1 := wrap_ok (by omega) (by omega)
        have hwr2 : wrap64 ((i : Int) + 1) = (i : Int) + 1 := IntWalk.wrap64_in _ ⟨by omega, by omega⟩
        clear hsX hruna hrunb hrowa hrowb ea eb hlen
        go_upto_region 13 with fail
        go_cut [11, 12] from 66 to 79 (fun a b Y => ∃ p, a = .pointer p ∧ b = .int .i64 0 ∧ Hid (Below X.heap.size X Y) ∧ Hid (ScAt Y p (less L i)))
        case first =>
          go_region_law (first
            | (refine step_append_row rfl (.tmp 67) (.tmp 70) 22 rfl X.heap.size 9 i0 _ 1 16 undS HI.out hz0 hz1 hz2 rfl (by decide) (.slice (some ⟨X.heap.size, 0, none⟩) 0 0) 0 [] (by simp [Go.Act.eval, Go.Act.put]) (show (X.alloc (.cells #[] 9)).drew.ownsRow X.heap.size 9 1 (.slice (some ⟨X.heap.size, 0, none⟩) 0 0) 0 [] from (owns_empty X 9 1 X.heap.size (Nat.le_refl _) : (X.alloc (.cells #[] 9)).ownsRow X.heap.size 9 1 (.slice (some ⟨X.heap.size, 0, none⟩) 0 0) 0 [])) va i (strsOf (L.take i)) (by simp [Go.Act.eval, Go.Act.put]) (HRA.out.below HW1.out (Nat.le_refl _)) (strsOf_one _) HBD1.out.1 HBD1.out.2 HW1.out.size ?_
               intro v9 w9 hown9 hg9
               have HB9 := hid (grown_below HW1.out (show (X.alloc (.cells #[] 9)).drew.ownsRow X.heap.size 9 1 (.slice (some ⟨X.heap.size, 0, none⟩) 0 0) 0 [] from (owns_empty X 9 1 X.heap.size (Nat.le_refl _) : (X.alloc (.cells #[] 9)).ownsRow X.heap.size 9 1 (.slice (some ⟨X.heap.size, 0, none⟩) 0 0) 0 [])) (Nat.le_refl _) hg9)
               have HO9 := hid (show w9.ownsRow X.heap.size 9 1 v9 i (strsOf (L.take i)) from by simpa using hown9)
               clear hown9 hg9)
            | (refine step_append_row rfl (.tmp 71) (.tmp 75) 22 rfl X.heap.size 9 i0 _ 1 16 undS HI.out hz0 hz1 hz2 rfl (by decide) v9 i (strsOf (L.take i)) (by simp [Go.Act.eval, Go.Act.put]) HO9.out vb (L.length - (i + 1)) (strsOf (L.drop (i + 1))) (by simp [Go.Act.eval, Go.Act.put]) (HRB.out.below HB9.out (Nat.le_refl _)) (strsOf_one _) HBD2.out.1 HBD2.out.2 HB9.out.size ?_
               intro v10 w10 hown10 hg10
               have HB10 := hid (grown_below HB9.out HO9.out (Nat.le_refl _) hg10)
               have HO10 := hid (HMK.out w10 v10 hown10)
               clear hown10 hg10)
            | (go_simp
               go_at_call 12
               refine (New_any v10 (less L i) w10 HO10.out HLL.out HLM.out).mono ?_
               rintro ev w11 ⟨p11, er11, rfl, hg, hb⟩
               have HG11 := hid hg
               have HB11 := hid (bt HB10.out hb)
               clear hg hb))
          all_goals
            rcases HG11.out with ⟨_, _, h⟩ | ⟨_, _, _, h⟩ | ⟨rfl, _, _, _, hs⟩
            · rw [HLR.out] at h; cases h
            · rw [HLP.out] at h; have := HLL.out; have := HLW.out; exfalso; omega
            rw [HLP.out] at hs
            have HSS := hid hs
            clear hs
            go_wp2_with fail
            go_meet
            exact ⟨p11, rfl, rfl, HB11, HSS⟩
        case rest =>
          obtain ⟨p11, rfl, rfl, HBY, HSY⟩ := hcut
          rename World => Y
          obtain ⟨a0, a1, a2, a3⟩ := HX.out _ (bt HBC.out (bt HBX.out HBY.out))
          have SY := hid (SC.out Y (bt HBC.out (bt HBX.out HBY.out)) p11 _ HSY.out)
          rw [HLS.out] at SY
          clear HRA HRB HLL HLM HLR HLP HLS HMK HW1 HSY
          go_wp2_with fail
          refine SY.out.mono ?_
          rintro r w12 ⟨rfl, hb12⟩
          have HB12 := hid (bt HBX.out (bt HBY.out hb12))
          clear hb12 a0 a1 a2 a3
          go_wp2
          go_roundg (gk - 1)
          case measure => omega
          case rel => exact ⟨i + 1, by go_num, by omega, HB12⟩
      · go_wp2
        go_ret
        exact ⟨rfl, bt HBV.out (bt HBC.out HBX.out)⟩
end Go.Proofs.YtlhhjocfbafoeaaGreatDoor.Xp
