/- Layer 9: the walk of the statement ScopeAsks. -/
import Derived.Test.YthggoohchjifnaaDoorScG
import Derived.Test.YthggoohchjifnaaDoorScO
set_option linter.unusedVariables false
set_option linter.unusedSimpArgs false
namespace Go.Proofs.YthggoohchjifnaaDoor.Sc
open Go Go.Proofs.YthggoohchjifnaaDoor Go.Proofs.YthggoohchjifnaaDoor.Utf Go.Proofs.YthggoohchjifnaaDoor.Names Go.RowKit
set_option maxRecDepth 100000

theorem eights_mass : ∀ l : List (List UInt8), l.length + eights l ≤ strMass l
  | [] => by simp [eights, strMass]
  | x :: l => by
    have := eights_mass l
    rw [strMass_cons, List.length_cons]
    have e : eights (x :: l) = x.length / 8 + eights l := by simp [eights]
    omega
theorem massG_mass : ∀ r : List (List (List UInt8)), massG r ≤ (r.map strMass).sum
  | [] => by simp [massG]
  | l :: r => by
    have := massG_mass r
    have h := eights_mass l
    have e : massG (l :: r) = l.length + eights l + massG r := by simp [massG]
    rw [List.map_cons, List.sum_cons]; omega
theorem said_mass : ∀ ws : List (List UInt8), (said ws).length ≤ strMass ws
  | [] => by simp [said]
  | [a] => by rw [strMass_cons]; simp only [said]; omega
  | a :: b :: r => by
    have := said_mass (b :: r)
    rw [strMass_cons]
    simp only [said, List.length_append, List.length_cons]
    omega
theorem eights_mem : ∀ {l : List (List UInt8)} {x : List UInt8}, x ∈ l → x.length / 8 ≤ eights l
  | [], x, h => by cases h
  | y :: l, x, h => by
    have e : eights (y :: l) = y.length / 8 + eights l := by simp [eights]
    rcases List.mem_cons.1 h with rfl | h
    · omega
    · have := eights_mem h; omega
/-- What isn't great is short. -/
theorem short_of {r : List (List (List UInt8))} (h : ¬ 400 < massG r) {l : List (List UInt8)} (hl : l ∈ r) : l.length ≤ 400 ∧ ∀ x ∈ l, x.length ≤ 3207 := by
  have : ∀ r : List (List (List UInt8)), l ∈ r → l.length + eights l ≤ massG r := by
    intro r
    induction r with
    | nil => intro h; cases h
    | cons y r ih =>
      intro h
      have e : massG (y :: r) = y.length + eights y + massG r := by simp [massG]
      rcases List.mem_cons.1 h with rfl | h
      · omega
      · have := ih h; omega
  have h1 := this r hl
  exact ⟨by omega, fun x hx => by have := eights_mem hx; omega⟩
theorem slice_of {w : World} {v : Value} {l : List (List UInt8)} (h : Strs w v l) : ∃ a n c, v = .slice a n c := by
  obtain ⟨⟨a, c, e, _⟩, _⟩ := h
  exact ⟨a, _, c, e⟩
theorem name_of (s : ByteArray) : ∃ l, s = text l ∧ l.length = s.size := ⟨s.data.toList, by simp [text], (Lib.size_eq s).symm⟩

set_option maxHeartbeats 4000000 in
theorem ScopeAsks_walk (v0 v1 : Value) (l ws : List (List UInt8)) (s2 : ByteArray) (hs2 : s2.size ≤ 140737488351232) (w : World) (h0 : Strs w v0 l) (h1 : Strs w v1 ws) (hb : strMass l + strMass ws ≤ 1048576) :
    Calls Tryd.prog 4 #[v0, v1, .string s2] w fun e w' => e = .returned (.bool true) ∧ Below w.heap.size w w' := by
  obtain ⟨nm, rfl, hnm⟩ := name_of s2
  rw [← hnm] at hs2
  obtain ⟨a0, n0, c0, rfl⟩ := slice_of h0
  obtain ⟨a1, n1, c1, rfl⟩ := slice_of h1
  have hmass : massG [l, ws] ≤ 1048576 := by have := massG_mass [l, ws]; simp at this; omega
  have hG := fun (w1 : World) (hb1 : Below w.heap.size w w1) => by
    have hba : Below w1.heap.size w1 (w1.alloc (.cells #[.slice a0 n0 c0, .slice a1 n1 c1] 22)) := (Below.refl _ w1).alloc (Nat.le_refl _) _
    have h2 := Row.ofBuild (sz := 1) w1 #[.slice a0 n0 c0, .slice a1 n1 c1] 22 2 rfl (by omega)
    exact Great_any _ [.slice a0 n0 c0, .slice a1 n1 c1] [l, ws] _ h2 rfl (fun i hi => by
      rcases i with _ | _ | i
      · exact (h0.below hb1 (Nat.le_refl _)).below hba (Nat.le_refl _)
      · exact (h1.below hb1 (Nat.le_refl _)).below hba (Nat.le_refl _)
      · exfalso; simp at hi; omega) (by omega)
  have hba := fun (w1 : World) => (show Below w1.heap.size w1 (w1.alloc (.cells #[.slice a0 n0 c0, .slice a1 n1 c1] 22)) from (Below.refl _ w1).alloc (Nat.le_refl _) _)
  have HBA := hid hba
  have H0 := hid h0
  have H1 := hid h1
  have HB := hid hb
  clear h0 h1 hb hba hmass
  by_cases hgr : 400 < massG [l, ws]
  · have HG := hid hG
    have HGR := hid (decide_eq_true hgr)
    clear hG hgr hs2 hnm
    go_enter Tryd.func4, Tryd.ntmps4
    go_wp2_with fail
    refine (alive_any w).mono ?_
    rintro e w1 ⟨rfl, hb1⟩
    go_wp2_with fail
    refine (HG.out w1 hb1).mono ?_
    rw [HGR.out]
    rintro e w2 ⟨rfl, rfl⟩
    go_wp2_with fail
    refine (alive_any _).mono ?_
    rintro e w3 ⟨rfl, hb3⟩
    have HB3 := hid (bt (hb1.trans ((HBA.out w1).mono hb1.size)) hb3)
    go_wp2
    go_ret
    exact ⟨rfl, HB3.out⟩
  · have HG := hid hG
    have HGR := hid (decide_eq_false hgr)
    have HSL := hid (short_of hgr (l := l) (by simp))
    clear hG hgr
    by_cases hbig : 500 < nm.length
    · have hbz : (500 : Int) < ((text nm).size : Int) := by rw [text_size]; omega
      clear hbig hnm hs2
      go_enter Tryd.func4, Tryd.ntmps4
      go_wp2_with fail
      refine (alive_any w).mono ?_
      rintro e w1 ⟨rfl, hb1⟩
      go_wp2_with fail
      refine (HG.out w1 hb1).mono ?_
      rw [HGR.out]
      rintro e w2 ⟨rfl, rfl⟩
      go_wp2_with fail
      refine (alive_any _).mono ?_
      rintro e w3 ⟨rfl, hb3⟩
      have HB3 := hid (bt (hb1.trans ((HBA.out w1).mono hb1.size)) hb3)
      go_wp2
      go_ret
      exact ⟨rfl, HB3.out⟩
    · have hbz : ¬ (500 : Int) < ((text nm).size : Int) := by rw [text_size]; omega
      have HSW := hid (Nat.le_trans (said_mass ws) (by have := HB.out; omega : strMass ws ≤ 1000000000))
      clear hbig hnm hs2
      go_enter Tryd.func4, Tryd.ntmps4
      go_wp2_with fail
      refine (alive_any w).mono ?_
      rintro e w1 ⟨rfl, hb1⟩
      go_wp2_with fail
      refine (HG.out w1 hb1).mono ?_
      rw [HGR.out]
      rintro e w2 ⟨rfl, rfl⟩
      have HB2 := hid (hb1.trans ((HBA.out w1).mono hb1.size))
      clear hb1
      go_wp2_with fail
      refine (New_any _ l _ (H0.out.below HB2.out (Nat.le_refl _)) (by have := HSL.out.1; omega) (fun x hx => by have := HSL.out.2 x hx; omega)).mono ?_
      rintro e w3 ⟨po, er, rfl, hg, hb3⟩
      have HB3 := hid (bt HB2.out hb3)
      clear hb3
      rcases hg with ⟨rfl, rfl, h⟩ | ⟨rfl, rfl, _, h⟩ | ⟨rfl, ⟨b, rfl⟩, hall, hfew, hs⟩
      · clear h
        go_wp2
        go_ret
        exact ⟨rfl, HB3.out⟩
      · clear h
        go_wp2
        go_ret
        exact ⟨rfl, HB3.out⟩
      · have HS := hid hs
        have hmem : ∀ z, z ∈ put [] l ↔ z ∈ l := fun z => by rw [put_mem]; simp
        have hlo := longN_same hmem ws ws.length
        have hhas : decide (nm ∈ put [] l) = decide (nm ∈ l) := decide_eq_decide.2 (hmem nm)
        have HL := hid (SLongest_any _ _ _ ws _ hs (H1.out.below HB3.out (Nat.le_refl _)) HSW.out)
        rw [hlo] at HL
        have HR := hid (fun W hbW => RLongest_any _ _ l ws W (H0.out.below hbW (Nat.le_refl _)) (H1.out.below hbW (Nat.le_refl _)) HSW.out)
        have HH := hid (fun W (h : ScAt W (some ⟨b, 0, none⟩) (put [] l)) => SHas_any (some ⟨b, 0, none⟩) (put [] l) nm W h)
        rw [hhas] at HH
        have HRH := hid (fun W hbW => RHas_any _ l nm W (H0.out.below hbW (Nat.le_refl _)))
        have htt := teq (said (ws.take (longN l ws ws.length))) (said (ws.take (longN l ws ws.length)))
        rw [decide_eq_true rfl] at htt
        generalize said (ws.take (longN l ws ws.length)) = S at *
        generalize longN l ws ws.length = K at *
        clear hs hall hfew hmem hlo hhas
        go_wp2_with fail
        refine HL.out.mono ?_
        rintro e w4 ⟨rfl, hb4⟩
        have HB4 := hid (bt HB3.out hb4)
        have HS4 := hid (HS.out.later hb4)
        clear hb4
        go_wp2_with fail
        refine (HR.out _ HB4.out).mono ?_
        rintro e w5 ⟨rfl, rfl⟩
        cases hd : decide (nm ∈ l) <;> rw [hd] at HH HRH
        all_goals
          clear hd
          go_wp2_with fail
          refine (HH.out _ HS4.out).mono ?_
          rintro e w6 ⟨rfl, q, rfl⟩
          go_wp2_with fail
          refine (HRH.out _ (below_drewN w HB4.out q)).mono ?_
          rintro e w7 ⟨rfl, rfl⟩
          go_wp2
          go_ret
          exact ⟨rfl, below_drewN w HB4.out q⟩
end Go.Proofs.YthggoohchjifnaaDoor.Sc
