/- Layer 10: the document's Check: what is right by it is of the right shape. -/
import Derived.Test.YtlhhjocfbafoeaaGreatDoorXpSa
import Derived.Test.YtlhhjocfbafoeaaGreatDoorXpK
import Derived.Deep.RegionHeld3
set_option linter.unusedVariables false
set_option linter.unusedSimpArgs false
namespace Go.Proofs.YtlhhjocfbafoeaaGreatDoor.Xp
open Go Go.Proofs.YtlhhjocfbafoeaaGreatDoor Go.Proofs.YtlhhjocfbafoeaaGreatDoor.Utf Go.Proofs.YtlhhjocfbafoeaaGreatDoor.Names Go.Proofs.YtlhhjocfbafoeaaGreatDoor.Sc Go.RowKit
set_option maxRecDepth 100000
def partsN (k : Int) : Int :=
  if k = 0 ∨ k = 1 ∨ k = 2 ∨ k = 3 then 0
  else if k = 4 ∨ k = 8 ∨ k = 15 ∨ k = 19 then 1
  else if k = 5 ∨ k = 7 ∨ k = 9 ∨ k = 12 ∨ k = 13 ∨ k = 14 ∨ k = 18 then 2
  else if k = 6 ∨ k = 11 then 3
  else if k = 10 then -2
  else -1
set_option maxHeartbeats 4000000 in
theorem parts_any (k : Int) (w : World) : Calls Tryz.prog 88 #[.int .i64 k] w fun e w' => (∃ n : Int, e = .returned (.int .i64 n) ∧ (k = 9 ∨ k = 12 ∨ k = 13 ∨ k = 14 → n = 2) ∧ (k = 17 → n = -1)) ∧ w' = w := by
  go_enter Tryz.func88, Tryz.ntmps88
  go_wp2
  all_goals go_ret
  all_goals simp only [beq_iff_eq, beq_eq_false_iff_ne] at *
  all_goals exact ⟨⟨_, rfl, fun h => by first | rfl | (exfalso; omega), fun h => by first | rfl | (exfalso; omega)⟩, by first | rfl | trivial⟩
set_option maxHeartbeats 4000000 in
theorem rnamed_any (k : Int) (w : World) : Calls Tryz.prog 56 #[.int .i64 k] w fun e w' => (∃ b : Bool, e = .returned (.bool b) ∧ (k = 3 → b = true)) ∧ w' = w := by
  by_cases h3 : k = 3
  · subst h3
    go_enter Tryz.func56, Tryz.ntmps56
    go_wp2
    all_goals go_ret
    all_goals exact ⟨⟨true, rfl, fun _ => rfl⟩, rfl⟩
  · have hb : (k == 3) = false := by rw [beq_eq_false_iff_ne]; exact h3
    have H3 := hid h3
    clear h3
    go_enter Tryz.func56, Tryz.ntmps56
    go_wp2
    all_goals go_ret
    all_goals exact ⟨⟨_, rfl, fun h => absurd h H3.out⟩, rfl⟩
theorem read_good {q d : List UInt8} {z : Nat} (h0 : Num.readE q = 0) (hv : Num.readV q = (d, z)) (hq : q.length ≤ 1000000) : Num.AllD d ∧ d ≠ [] ∧ d.length ≤ 1000000 ∧ z ≤ 1000000 := by
  have hvy : Num.readV q = Num.canon (Num.whole q ++ Num.part q) (Num.part q).length := by unfold Num.readV; rw [if_pos h0]
  rw [hv] at hvy
  have hall : Num.AllD (Num.whole q ++ Num.part q) ∧ Num.whole q ++ Num.part q ≠ [] := by
    unfold Num.readE at h0
    split at h0
    · cases h0
    · rename_i c
      by_cases hp : Num.pointed q = true
      · have h1 : Num.digs (Num.part q) = true := by
          cases hd : Num.digs (Num.part q) with
          | true => rfl
          | false => exact absurd (.inl ⟨hp, .inr hd⟩) c
        obtain ⟨a1, a2⟩ := (Num.digs_iff _).1 h1
        refine ⟨Num.AllD.app ?_ a1, fun e => a2 (List.append_eq_nil_iff.1 e).2⟩
        by_cases hw : Num.whole q = []
        · rw [hw]; exact Num.AllD.nil
        · have h2 : Num.digs (Num.whole q) = true := by
            cases hd : Num.digs (Num.whole q) with
            | true => rfl
            | false => exact absurd (.inl ⟨hp, .inl ⟨hw, hd⟩⟩) c
          exact ((Num.digs_iff _).1 h2).1
      · have hpf : Num.pointed q = false := by simpa using hp
        have h2 : Num.digs (Num.whole q) = true := by
          cases hd : Num.digs (Num.whole q) with
          | true => rfl
          | false => exact absurd (.inr ⟨hpf, hd⟩) c
        obtain ⟨a1, a2⟩ := (Num.digs_iff _).1 h2
        have hpart : Num.part q = [] := by
          unfold Num.pointed at hpf
          have := of_decide_eq_false hpf
          unfold Num.part
          exact List.drop_eq_nil_of_le (by omega)
        rw [hpart, List.append_nil]
        exact ⟨a1, a2⟩
  have hi := Num.canon_is hall.1 (Num.part q).length
  have hl := Num.canon_len _ (Num.part q).length hall.2
  have h1 := Num.whole_len q
  have h2 := Num.part_len q
  have h3 := Num.point_le q
  rw [← hvy] at hi hl
  rw [List.length_append] at hl
  simp only at hl
  exact ⟨hi.1, hi.2.1, by omega, by omega⟩
theorem RText_read {d : List UInt8} {z : Nat} {q : List UInt8} (h0 : Num.readE q = 0) (hv : Num.readV q = (d, z)) (hq : q.length ≤ 1000000) (w : World) :
    Calls Tryz.prog 117 #[Num.numV (d, z)] w fun e w' => (∃ t : List UInt8, e = .returned (.string (text t))) ∧ Below w.heap.size w w' := by
  obtain ⟨a1, a2, a3, a4⟩ := read_good h0 hv hq
  refine (Num.RText_any d z a3 a4 a1 a2 w).mono ?_
  rintro e w' ⟨rfl, hb⟩
  exact ⟨⟨_, rfl⟩, hb⟩
theorem num_cells {w : World} {b : Nat} {d : List UInt8} {z : Int} (h : w.heap[b]? = some (.cells #[.string (text d), .int .i64 z] 109)) :
    w.cell? ⟨b, 0, none⟩ = some (.string (text d)) ∧ w.cell? ⟨b, 1, none⟩ = some (.int .i64 z) := by
  refine ⟨?_, ?_⟩ <;> (rw [Lib.cell_of_heap h]; rfl)
set_option maxHeartbeats 8000000 in
theorem text_any (e : Ex) (ao : Option Addr) (an ac : Nat) (po : Option Addr) (pn pc : Nat) (w : World) (h : IsE w e (.slice ao an ac) (.slice po pn pc)) (hm : e.s.length ≤ 1000000) :
    Calls Tryz.prog 89 #[exV e (.slice ao an ac) (.slice po pn pc)] w fun r w' => (∃ b : Bool, r = .returned (.bool b)) ∧ Below w.heap.size w w' := by
  obtain ⟨k, s, nm, l⟩ := e
  simp only [Ex.s] at hm
  have B1 := ba (b0 w) (.cells #[.int .i64 k, .string (text s), .slice ao an ac, .slice po pn pc] 25)
  have P1 := heap_alloc_new w (.cells #[.int .i64 k, .string (text s), .slice ao an ac, .slice po pn pc] 25)
  obtain ⟨V, hV⟩ : ∃ V, w.alloc (.cells #[.int .i64 k, .string (text s), .slice ao an ac, .slice po pn pc] 25) = V := ⟨_, rfl⟩
  rw [hV] at B1 P1
  have HB := hid B1
  have HP := hid P1
  have AM := hid (fun (W : World) (v : Value) (M : List Nam) (hv : Strs W v M) => (Among_any v M s W hv).mono (R' := fun r w' => (∃ b : Bool, r = .returned (.bool b)) ∧ w' = W) (by
    rintro r w' ⟨rfl, hw⟩
    exact ⟨⟨_, rfl⟩, hw⟩))
  obtain ⟨a0, a1, a2, a3⟩ := box_cells P1
  unfold exV
  simp only [Ex.kind, Ex.s]
  clear h B1 P1
  by_cases h0 : k = 0
  · subst h0
    obtain ⟨ne, hne⟩ : ∃ ne, Num.readE s = ne := ⟨_, rfl⟩
    obtain ⟨⟨d, z⟩, hv⟩ : ∃ v, Num.readV s = v := ⟨_, rfl⟩
    have HRD := Num.RRead_any s (by omega) V
    rw [show Num.RReadA s = .tuple #[.agg #[.string (text d), .int .i64 (z : Int)], .int .i64 (ne : Int)] from by unfold Num.RReadA; rw [hne, hv]; rfl] at HRD
    replace HRD := hid HRD
    by_cases hn0 : ne = 0
    · subst hn0
      have HT := hid (fun W => RText_read hne hv (by omega) W)
      unfold Num.numV Num.numZ at HT
      clear hne hv
      go_enter Tryz.func89, Tryz.ntmps89
      go_wp2_with fail
      refine HRD.out.mono ?_
      rintro r w1 ⟨rfl, hb1⟩
      obtain ⟨Y, hY⟩ : ∃ Y, w1.alloc (.cells #[.string (text d), .int .i64 (z : Int)] 109) = Y := ⟨_, rfl⟩
      have BY : Below w1.heap.size w1 Y := hY ▸ ba (b0 w1) _
      have PY : Y.heap[w1.heap.size]? = some (.cells #[.string (text d), .int .i64 (z : Int)] 109) := hY ▸ heap_alloc_new w1 _
      have HVY := hid (bt hb1 BY)
      have HPY := hid PY
      have HS := hid (show ∀ Z, Below Y.heap.size Y Z → (Below Y.heap.size Y Z ∧ Z.cell? ⟨w.heap.size, 0, none⟩ = some (.int .i64 0) ∧ Z.cell? ⟨w.heap.size, 1, none⟩ = some (.string (text s)) ∧ Z.cell? ⟨w.heap.size, 2, none⟩ = some (.slice ao an ac) ∧ Z.cell? ⟨w.heap.size, 3, none⟩ = some (.slice po pn pc) ∧ Z.cell? ⟨w1.heap.size, 0, none⟩ = some (.string (text d)) ∧ Z.cell? ⟨w1.heap.size, 1, none⟩ = some (.int .i64 z)) from fun Z hZ => by
        obtain ⟨a0, a1, a2, a3⟩ := box_cells (((bt HVY.out hZ).block _ (lt_of_some HP.out)).trans HP.out)
        obtain ⟨n0, n1⟩ := num_cells ((hZ.block _ (lt_of_some HPY.out)).trans HPY.out)
        exact ⟨hZ, a0, a1, a2, a3, n0, n1⟩)
      have HS0 := HS.out Y.drew (bdrew Y 1)
      clear hb1 BY PY a0 a1 a2 a3
      go_wp2_with fail
      go_region_held3 (fun Z => (Below Y.heap.size Y Z ∧ Z.cell? ⟨w.heap.size, 0, none⟩ = some (.int .i64 0) ∧ Z.cell? ⟨w.heap.size, 1, none⟩ = some (.string (text s)) ∧ Z.cell? ⟨w.heap.size, 2, none⟩ = some (.slice ao an ac) ∧ Z.cell? ⟨w.heap.size, 3, none⟩ = some (.slice po pn pc) ∧ Z.cell? ⟨w1.heap.size, 0, none⟩ = some (.string (text d)) ∧ Z.cell? ⟨w1.heap.size, 1, none⟩ = some (.int .i64 z))) (first | exact HSx | exact HS0) (first
        | (go_at_call 117
           with_reducible refine (HT.out _).mono ?_
           rintro ev wx ⟨⟨tt, rfl⟩, hb⟩
           first | have HSx := HS.out _ (bt HSx.1 hb) | have HSx := HS.out _ (bt HS0.1 hb)))
      all_goals go_wp2
      all_goals go_ret
      all_goals exact ⟨⟨_, rfl⟩, bt HB.out (bt HVY.out HSx.1)⟩
    · have hnb : ((ne : Int) == 0) = false := by rw [beq_eq_false_iff_ne]; omega
      have hnb2 : (ne == 0) = false := by rw [beq_eq_false_iff_ne]; exact hn0
      clear hne hv hn0
      go_enter Tryz.func89, Tryz.ntmps89
      go_wp2_with fail
      refine HRD.out.mono ?_
      rintro r w1 ⟨rfl, hb1⟩
      have HB1 := hid (bt HB.out (ba hb1 (.cells #[.string (text d), .int .i64 (z : Int)] 109)))
      clear hb1
      go_wp2_with fail
      go_quiet (fail)
      go_wp2
      go_ret
      exact ⟨⟨_, rfl⟩, bdrewB HB1.out _⟩
  · have hb0 : (k == 0) = false := by rw [beq_eq_false_iff_ne]; exact h0
    clear h0
    have hlit : ∀ (W : World) (cs : List Nam), cs.length ≤ 20 → Row 1 (W.alloc (.cells (strsOf cs).toArray 9)) (.slice (some ⟨W.heap.size, 0, none⟩) cs.length cs.length) cs.length (strsOf cs) := fun W cs hc => by
      have := Row.ofBuild (sz := 1) W (strsOf cs).toArray 9 cs.length (by rw [List.size_toArray, strsOf_length]; omega) (by omega)
      simpa using this
    by_cases h2 : k = 2
    · subst h2
      have A2 := hid (AM.out _ _ _ (hlit V [[116, 114, 117, 101], [102, 97, 108, 115, 101], [110, 117, 108, 108]] (by decide)))
      go_enter Tryz.func89, Tryz.ntmps89
      go_wp2_with fail
      refine A2.out.mono ?_
      rintro r w1 ⟨⟨b, rfl⟩, hw1⟩
      have HB1 := hid (show Below w.heap.size w w1 from by rw [hw1]; exact ba HB.out _)
      clear hw1
      go_wp2
      go_ret
      exact ⟨⟨b, rfl⟩, HB1.out⟩
    have hb2 : (k == 2) = false := by rw [beq_eq_false_iff_ne]; exact h2
    clear h2
    by_cases h5 : k = 5
    · subst h5
      have A5 := hid (AM.out _ _ _ (hlit V bins (by decide)))
      go_enter Tryz.func89, Tryz.ntmps89
      go_wp2_with fail
      refine A5.out.mono ?_
      rintro r w1 ⟨⟨b, rfl⟩, hw1⟩
      have HB1 := hid (show Below w.heap.size w w1 from by rw [hw1]; exact ba HB.out _)
      clear hw1
      go_wp2
      go_ret
      exact ⟨⟨b, rfl⟩, HB1.out⟩
    have hb5 : (k == 5) = false := by rw [beq_eq_false_iff_ne]; exact h5
    clear h5
    by_cases h18 : k = 18
    · subst h18
      have A18 := hid (AM.out _ _ _ (hlit V spans (by decide)))
      go_enter Tryz.func89, Tryz.ntmps89
      go_wp2_with fail
      refine A18.out.mono ?_
      rintro r w1 ⟨⟨b, rfl⟩, hw1⟩
      have HB1 := hid (show Below w.heap.size w w1 from by rw [hw1]; exact ba HB.out _)
      clear hw1
      go_wp2
      go_ret
      exact ⟨⟨b, rfl⟩, HB1.out⟩
    have hb18 : (k == 18) = false := by rw [beq_eq_false_iff_ne]; exact h18
    clear h18
    by_cases h19 : k = 19
    · subst h19
      have A19 := hid (AM.out _ _ _ (hlit V tests (by decide)))
      go_enter Tryz.func89, Tryz.ntmps89
      go_wp2_with fail
      refine A19.out.mono ?_
      rintro r w1 ⟨⟨b, rfl⟩, hw1⟩
      have HB1 := hid (show Below w.heap.size w w1 from by rw [hw1]; exact ba HB.out _)
      clear hw1
      go_wp2
      go_ret
      exact ⟨⟨b, rfl⟩, HB1.out⟩
    have hb19 : (k == 19) = false := by rw [beq_eq_false_iff_ne]; exact h19
    clear h19
    go_enter Tryz.func89, Tryz.ntmps89
    go_wp2
    go_ret
    exact ⟨⟨_, rfl⟩, HB.out⟩
/-- As many parts as a kind's scopes ask. -/
def ShapeOk (k : Int) (m n : Nat) : Prop := (k = 9 ∨ k = 12 ∨ k = 13 ∨ k = 14 → n = 2) ∧ (k = 17 → m = n)
def FormGot (k : Int) (m n : Nat) (r : Ending) : Prop := ∃ b : Bool, r = .returned (.bool b) ∧ (b = true → ShapeOk k m n)
theorem FormGot.mk' {k : Int} {m n : Nat} {r : Ending} {b : Bool} (h : r = .returned (.bool b)) (h2 : b = true → ShapeOk k m n) : FormGot k m n r := ⟨b, h, h2⟩
set_option maxHeartbeats 16000000 in
theorem rform_any (e : Ex) (t : Bool) (ao : Option Addr) (an ac : Nat) (po : Option Addr) (pn pc : Nat) (w : World) (h : IsE w e (.slice ao an ac) (.slice po pn pc)) (hm : e.s.length ≤ 1000000) :
    Calls Tryz.prog 55 #[exV e (.slice ao an ac) (.slice po pn pc), .bool t] w fun r w' => FormGot e.kind e.nm.length e.l.length r ∧ Below w.heap.size w w' := by
  obtain ⟨V, hV⟩ : ∃ V, w.alloc (.cells #[.int .i64 e.kind, .string (text e.s), .slice ao an ac, .slice po pn pc] 25) = V := ⟨_, rfl⟩
  have BV : Below w.heap.size w V := hV ▸ ba (b0 w) _
  have P2 : V.heap[w.heap.size]? = some (.cells #[.int .i64 e.kind, .string (text e.s), .slice ao an ac, .slice po pn pc] 25) := hV ▸ heap_alloc_new w _
  have hE := h.later BV
  have plen := fun X => hE.parts.2.len 3 X
  have nlen := fun X => hE.parts.1.len (P := Tryz.prog) 22 3 9 undS X
  have hpl := hE.parts.2.le
  have hnl := hE.parts.1.le
  have TX := hid (text_any e ao an ac po pn pc V hE hm)
  have PN := hid (parts_any e.kind V)
  have NM := hid (rnamed_any e.kind V)
  have HBV := hid BV
  obtain ⟨a0, a1, a2, a3⟩ := box_cells P2
  unfold exV at TX ⊢
  clear h hm BV P2 hE
  generalize e.kind = k at *
  generalize e.s = s at *
  generalize e.nm.length = mm at *
  generalize e.l.length = ll at *
  go_enter Tryz.func55, Tryz.ntmps55
  go_wp2_with fail
  refine PN.out.mono ?_
  rintro r w1 ⟨⟨n, rfl, hn, hn17⟩, hw1⟩
  subst hw1
  by_cases hs2 : (k = 9 ∨ k = 12 ∨ k = 13 ∨ k = 14) ∧ ll ≠ 2
  · obtain rfl := hn hs2.1
    have hne : ((ll : Int) == 2) = false := by rw [beq_eq_false_iff_ne]; have := hs2.2; omega
    have hne2 : ((ll : Int) != 2) = true := by rw [bne_iff_ne]; have := hs2.2; omega
    clear hs2 hn hn17
    go_wp2
    go_ret
    exact ⟨.mk' (b := false) rfl (fun h => by cases h), HBV.out⟩
  by_cases hs17 : k = 17 ∧ mm ≠ ll
  · obtain ⟨rfl, hml⟩ := hs17
    obtain rfl := hn17 rfl
    have hne : ((mm : Int) == (ll : Int)) = false := by rw [beq_eq_false_iff_ne]; omega
    have hne2 : ((mm : Int) != (ll : Int)) = true := by rw [bne_iff_ne]; omega
    clear hs2 hn hn17 hml
    go_wp2
    go_ret
    exact ⟨.mk' (b := false) rfl (fun h => by cases h), HBV.out⟩
  have HOK := hid (show ShapeOk k mm ll from ⟨fun h => Classical.byContradiction fun q => hs2 ⟨h, q⟩, fun h => Classical.byContradiction fun q => hs17 ⟨h, q⟩⟩)
  clear hs2 hs17 hn hn17
  go_upto_region 2 with fail
  go_cut [36] from 9 to 36 (fun c X => ∃ cb : Bool, c = .bool cb ∧ X = w1)
  case first =>
    obtain ⟨x1, hx1⟩ : ∃ b, decide (0 ≤ n) = b := ⟨_, rfl⟩
    obtain ⟨x2, hx2⟩ : ∃ b, ((ll : Int) != n) = b := ⟨_, rfl⟩
    have hx2' : ((ll : Int) == n) = !x2 := by rw [← hx2]; simp [bne]
    obtain ⟨x3, hx3⟩ : ∃ b, (n == -2) = b := ⟨_, rfl⟩
    obtain ⟨x4, hx4⟩ : ∃ b, ((ll : Int) == 0) = b := ⟨_, rfl⟩
    have hx4' : (ll == 0) = x4 := by
      rw [← hx4]
      by_cases e : ll = 0
      · subst e; rfl
      · have e1 : (ll == 0) = false := by rw [beq_eq_false_iff_ne]; exact e
        have e2 : ((ll : Int) == 0) = false := by rw [beq_eq_false_iff_ne]; omega
        rw [e1, e2]
    obtain ⟨x5, hx5⟩ : ∃ b, (k == 19) = b := ⟨_, rfl⟩
    have hx13 : x1 = true → x3 = false := by
      rintro rfl
      have := of_decide_eq_true hx1
      rw [← hx3, beq_eq_false_iff_ne]
      omega
    clear PN NM TX HOK
    cases x1
    · clear hx13
      cases x3
      · cases x5 <;> cases t <;> (go_wp2_with fail; go_meet; exact ⟨_, rfl, rfl⟩)
      · cases x4
        · cases x5 <;> cases t <;> (go_wp2_with fail; go_meet; exact ⟨_, rfl, rfl⟩)
        · (go_wp2_with fail; go_meet; exact ⟨_, rfl, rfl⟩)
    · obtain rfl := hx13 rfl
      clear hx13
      cases x2
      · cases x5 <;> cases t <;> (go_wp2_with fail; go_meet; exact ⟨_, rfl, rfl⟩)
      · (go_wp2_with fail; go_meet; exact ⟨_, rfl, rfl⟩)
  case rest =>
    obtain ⟨cb, rfl, hWV⟩ := hcut
    have hWV := hWV.symm
    subst hWV
    rename World => V1
    cases cb with
    | true =>
      go_wp2
      go_ret
      exact ⟨.mk' (b := false) rfl (fun h => by cases h), HBV.out⟩
    | false =>
      go_upto_region 4 with fail
      go_cut [64] from 37 to 64 (fun c X => ∃ cb : Bool, c = .bool cb ∧ X = V1)
      case first =>
        obtain ⟨y1, hy1⟩ : ∃ b, (k == 17) = b := ⟨_, rfl⟩
        have hy1' : (k != 17) = !y1 := by rw [← hy1]; rfl
        obtain ⟨y2, hy2⟩ : ∃ b, ((mm : Int) != (ll : Int)) = b := ⟨_, rfl⟩
        have hy2' : ((mm : Int) == (ll : Int)) = !y2 := by rw [← hy2]; simp [bne]
        have hy2'' : (mm == ll) = !y2 := by
          rw [← hy2']
          by_cases e : mm = ll
          · subst e; simp
          · have e1 : (mm == ll) = false := by rw [beq_eq_false_iff_ne]; exact e
            have e2 : ((mm : Int) == (ll : Int)) = false := by rw [beq_eq_false_iff_ne]; omega
            rw [e1, e2]
        obtain ⟨y3, hy3⟩ : ∃ b, (k == 15) = b := ⟨_, rfl⟩
        have hy3' : (k != 15) = !y3 := by rw [← hy3]; rfl
        obtain ⟨y4, hy4⟩ : ∃ b, decide ((0 : Int) < (mm : Int)) = b := ⟨_, rfl⟩
        have hy4' : decide (0 < mm) = y4 := by
          rw [← hy4]
          by_cases e : 0 < mm
          · rw [decide_eq_true e, decide_eq_true (by omega)]
          · rw [decide_eq_false e, decide_eq_false (by omega)]
        clear PN NM TX HOK
        cases y1
        · cases y3
          · cases y4 <;> (go_wp2_with fail; go_meet; exact ⟨_, rfl, rfl⟩)
          · (go_wp2_with fail; go_meet; exact ⟨_, rfl, rfl⟩)
        · cases y2 <;> (go_wp2_with fail; go_meet; exact ⟨_, rfl, rfl⟩)
      case rest =>
        obtain ⟨cb, rfl, hWV⟩ := hcut
        have hWV := hWV.symm
        subst hWV
        cases cb with
        | true =>
          go_wp2
          go_ret
          exact ⟨.mk' (b := false) rfl (fun h => by cases h), HBV.out⟩
        | false =>
          go_wp2_with fail
          refine NM.out.mono ?_
          rintro r w2 ⟨⟨nb, rfl, _⟩, hw2⟩
          subst hw2
          cases nb with
          | true =>
            go_wp2
            go_ret
            exact ⟨.mk' (b := true) rfl (fun _ => HOK.out), HBV.out⟩
          | false =>
            obtain ⟨y1, hy1⟩ : ∃ b, (k == 1) = b := ⟨_, rfl⟩
            cases y1 with
            | true =>
              go_wp2
              go_ret
              exact ⟨.mk' (b := true) rfl (fun _ => HOK.out), HBV.out⟩
            | false =>
              go_wp2_with fail
              refine TX.out.mono ?_
              rintro r w3 ⟨⟨tb, rfl⟩, hb3⟩
              have HB3 := hid (bt HBV.out hb3)
              clear hb3
              go_wp2
              go_ret
              exact ⟨.mk' (b := tb) rfl (fun _ => HOK.out), HB3.out⟩
end Go.Proofs.YtlhhjocfbafoeaaGreatDoor.Xp
