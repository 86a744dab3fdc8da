/- Layer 14: the walk of OrderCycles. -/
import Derived.Test.YtkpmkabddhpojaaOrU
set_option linter.unusedVariables false
set_option linter.unusedSimpArgs false
namespace Go.Proofs.Ytkpmkabddhpojaa.Or
open Go Go.Proofs.Ytkpmkabddhpojaa Go.RowKit
set_option maxRecDepth 100000

/-! mathematics: what is stuck needs something that needs itself -/
theorem needs_one {N : List (List Nat)} {out : List Nat} (hR : Right N) (hd : Done N (List.range N.length) out) {x : Nat} (hx : x ∈ stuck N.length out) : ∃ k ∈ row N x, k ∈ stuck N.length out := by
  have h := stuck_needs hR hd hx
  rw [List.any_eq_true] at h
  obtain ⟨k, h1, h2⟩ := h
  exact ⟨k, h1, List.contains_iff_mem.1 h2⟩
open Classical in
noncomputable def nextOf (N : List (List Nat)) (st : List Nat) (t : Nat) : Nat := if h : ∃ k ∈ row N t, k ∈ st then h.choose else t
noncomputable def walkN (N : List (List Nat)) (st : List Nat) (x : Nat) : Nat → Nat
  | 0 => x
  | i + 1 => nextOf N st (walkN N st x i)
theorem cyc_of {N : List (List Nat)} {out : List Nat} (hR : Right N) (hd : Done N (List.range N.length) out) {x : Nat} (hx : x ∈ stuck N.length out) : ∃ y, Rch N x y ∧ ∃ z ∈ row N y, Rch N z y := by
  obtain ⟨st, hst⟩ : ∃ st, stuck N.length out = st := ⟨_, rfl⟩
  have hone : ∀ t ∈ st, ∃ k ∈ row N t, k ∈ st := fun t ht => by rw [← hst] at ht ⊢; exact needs_one hR hd ht
  have hnext : ∀ t ∈ st, nextOf N st t ∈ row N t ∧ nextOf N st t ∈ st := fun t ht => by
    unfold nextOf
    rw [dif_pos (hone t ht)]
    exact (hone t ht).choose_spec
  have hin : ∀ i, walkN N st x i ∈ st := by
    intro i
    induction i with
    | zero => rw [hst] at hx; exact hx
    | succ i ih => exact (hnext _ ih).2
  have hlt : ∀ i, walkN N st x i < N.length := fun i => by
    have h1 : walkN N st x i ∈ stuck N.length out := by rw [hst]; exact hin i
    exact (mem_stuck.1 h1).1
  have hr : ∀ i d, Rch N (walkN N st x i) (walkN N st x (i + d)) := by
    intro i d
    induction d with
    | zero => exact .self
    | succ d ih => exact ih.step (hnext _ (hin _)).1
  have hrep : ∃ i j, i < j ∧ walkN N st x i = walkN N st x j := by
    false_or_by_contra
    rename_i hn
    have hnd : ((List.range (N.length + 1)).map (walkN N st x)).Nodup := by
      rw [List.Nodup, List.pairwise_map]
      refine List.pairwise_lt_range.imp fun {a b} hab e => hn ⟨a, b, hab, e⟩
    have h1 := nodup_le N.length _ hnd (fun y hy => by
      obtain ⟨i, _, rfl⟩ := List.mem_map.1 hy
      exact hlt i)
    rw [List.length_map, List.length_range] at h1
    omega
  obtain ⟨i, j, hij, e⟩ := hrep
  refine ⟨walkN N st x i, ?_, walkN N st x (i + 1), (hnext _ (hin i)).1, ?_⟩
  · have := hr 0 i
    rw [Nat.zero_add] at this
    exact this
  · have h1 := hr (i + 1) (j - (i + 1))
    rw [show i + 1 + (j - (i + 1)) = j by omega, ← e] at h1
    exact h1
/-- The needs but those of x. -/
theorem less_row {N : List (List Nat)} {x : Nat} (hx : x < N.length) : row (N.set x []) x = [] := by simp [row, hx]
theorem less_right {N : List (List Nat)} {x : Nat} (hR : Right N) : Right (N.set x []) := by
  intro r hr k hk
  rw [List.length_set]
  rcases List.mem_or_eq_of_mem_set hr with h | h
  · exact hR r h k hk
  · rw [h] at hk; cases hk
theorem less_mass : ∀ (N : List (List Nat)) (x : Nat), mass (N.set x []) ≤ mass N
  | [], x => by simp
  | r :: N, 0 => by simp [mass]
  | r :: N, x + 1 => by
    have := less_mass N x
    simp only [mass, List.set_cons_succ, List.map_cons, List.sum_cons] at *; omega
theorem less_free {N : List (List Nat)} {x : Nat} {out : List Nat} (hx : x < N.length) (hd : Done (N.set x []) (List.range (N.set x []).length) out) : x ∉ stuck (N.set x []).length out := by
  intro h
  obtain ⟨h1, h2⟩ := mem_stuck.1 h
  have hf := pick_none.1 hd.2 x (List.mem_range.2 h1)
  rw [(fits_iff _ _ _).2 ⟨h2, by rw [less_row hx]; simp⟩] at hf
  cases hf
/-- The rows with one taken away. -/
theorem nd_less {D : Nat → Prop} {w X : World} {cv : Value} {N : List (List Nat)} {vs : List Value} {x : Nat} {B : Nat} (hx : x < N.length) (hel : ∀ i (h : i < N.length), ∃ u, vs[i]? = some u ∧ RowD D w u N[i].length (N[i].map encN)) (hb : Below w.heap.size w X) (hl : vs.length = N.length) (hn : N.length ≤ 1000000)
    (ho : X.ownsRow B 26 1 cv (vs.set x (.slice none 0 0)).length ((vs.set x (.slice none 0 0)).map id)) : Nd encN (fun _ => True) X cv (N.set x []) := by
  refine ⟨vs.set x (.slice none 0 0), ?_, fun i hi => ?_⟩
  · have h1 : (vs.set x (Value.slice none 0 0)).length = (N.set x []).length := by simp [hl]
    rw [List.map_id, h1] at ho
    exact RowD.of (Row.ofOwns ho (by rw [List.length_set]; omega))
  · have hiN : i < N.length := by simpa using hi
    by_cases e : i = x
    · subst e
      have e1 : (N.set i [])[i] = [] := by simp
      rw [e1]
      exact ⟨.slice none 0 0, by simp [hl, hiN], RowD.of (Row.nil 1 X)⟩
    · obtain ⟨u, h1, h2⟩ := hel i hiN
      have e1 : (N.set x [])[i] = N[i] := by rw [List.getElem_set, if_neg (fun q => e q.symm)]
      rw [e1]
      refine ⟨u, by rw [List.getElem?_set, if_neg (fun q => e q.symm)]; exact h1, ?_⟩
      exact (h2.same fun b _ hl => hb.block b hl).mono fun _ _ => trivial
theorem take_snoc_ex {P : Nat → Prop} {l : List Nat} {i : Nat} (hi : i < l.length) : (∃ y ∈ l.take (i + 1), P y) ↔ (∃ y ∈ l.take i, P y) ∨ P l[i] := by
  rw [List.take_succ_eq_append_getElem hi]
  constructor
  · rintro ⟨y, hy, hp⟩
    rcases List.mem_append.1 hy with h | h
    · exact .inl ⟨y, h, hp⟩
    · rw [List.mem_singleton] at h; subst h; exact .inr hp
  · rintro (⟨y, hy, hp⟩ | hp)
    · exact ⟨y, List.mem_append_left _ hy, hp⟩
    · exact ⟨_, List.mem_append_right _ (List.mem_singleton.2 rfl), hp⟩
variable {D : Nat → Prop}
set_option maxHeartbeats 16000000 in
theorem OrderCycles_walk (v : Value) (M : List (List Int)) (w : World) (hv : Nd encI D w v M) (hn : M.length + massI M ≤ 1000000000) :
    Calls Try.prog 6 #[v] w fun e w' => e = .returned (.bool true) ∧ Below w.heap.size w w' := by
  have hlen := fun W => hv.len (P := Try.prog) 23 3 26 Try.underlying23 W
  have AL := hid (fun W => alive_any W)
  have HV := hid hv
  clear hv
  go_enter Try.func6, Try.ntmps6
  go_wp2_with fail
  refine (AL.out _).mono ?_
  rintro e w1 ⟨rfl, b1⟩
  have B1 := hid b1
  have HV1 := hid (HV.out.later b1)
  have GR := hid (great_any v M w1 HV1.out hn)
  have RT := hid (Right_any v M w1 HV1.out)
  clear b1
  cases hg : decide (300 < M.length + massI M) with
  | true =>
    rw [hg] at GR
    clear hg
    go_wp2_with fail
    refine GR.out.mono ?_
    rintro e w2 ⟨rfl, rfl⟩
    go_wp2_with fail
    refine (AL.out _).mono ?_
    rintro e w2 ⟨rfl, b2⟩
    have B2 := hid (bt B1.out b2)
    clear b2
    go_wp2_with fail
    go_ret
    exact ⟨rfl, B2.out⟩
  | false =>
    rw [hg] at GR
    have hM : M.length + massI M ≤ 300 := by simpa using hg
    clear hg
    cases hR : rightB M with
    | false =>
      rw [hR] at RT
      clear hR
      go_wp2_with fail
      refine GR.out.mono ?_
      rintro e w2 ⟨rfl, rfl⟩
      go_wp2_with fail
      refine RT.out.mono ?_
      rintro e w2 ⟨rfl, rfl⟩
      go_wp2_with fail
      refine (AL.out _).mono ?_
      rintro e w2 ⟨rfl, b2⟩
      have B2 := hid (bt B1.out b2)
      clear b2
      go_wp2_with fail
      go_ret
      exact ⟨rfl, B2.out⟩
    | true =>
      rw [hR] at RT
      obtain ⟨N, rfl, hRN⟩ := right_nat hR
      rw [toI_length] at hlen
      rw [toI_length, massI_toI] at hM
      have HRN := hid hRN
      have HN := hid (nd_int.1 HV.out)
      have A1 := hid (Stuck_ok (HN.out.later B1.out) hRN (by omega))
      clear hR hRN HV HV1
      go_wp2_with fail
      refine GR.out.mono ?_
      rintro e w2 ⟨rfl, rfl⟩
      go_wp2_with fail
      refine RT.out.mono ?_
      rintro e w2 ⟨rfl, rfl⟩
      go_wp2_with fail
      refine A1.out.mono ?_
      rintro e w2 ⟨r, out, rfl, dn, ho, b2⟩
      have HCY := hid (fun x hx => cyc_of HRN.out dn (x := x) hx)
      have hsl : (stuck N.length out).length ≤ 300 := by
        have := List.length_filter_le (fun t => !(out.contains t)) (List.range N.length)
        rw [List.length_range] at this
        unfold stuck; omega
      have HSL := hid (fun x (hx : x ∈ stuck N.length out) => (mem_stuck.1 hx).1)
      have HO := hid ho
      have B2 := hid (bt B1.out b2)
      clear dn ho b2
      generalize stuck N.length out = st at *
      have hls := fun W => own_len (P := Try.prog) HO.out 26 3 Try.underlying26 W
      have hNl := hlen
      go_wp2_with fail
      go_loopg [44] st.length (fun kx s44 X => ∃ i : Nat, s44 = .int .i64 i ∧ i ≤ st.length ∧ st.length - i ≤ kx ∧ Hid (Below w2.heap.size w2 X))
      case atStart => exact ⟨0, rfl, Nat.zero_le _, by omega, hid (b0 w2)⟩
      case round =>
        rename World => X
        obtain ⟨i, rfl, hi, hg, BX⟩ := hrel
        by_cases hil : i < st.length
        · obtain ⟨b2, o2, hix2, hc2⟩ := row_at (P := Try.prog) (Row.ofOwns (owns_later HO.out BX.out) (by omega)) i hil 26 3 Try.underlying26 Try.sizeOf3
          simp only [encN] at hc2
          have hxn := HSL.out _ (List.getElem_mem hil)
          have HEX := hid (HCY.out _ (List.getElem_mem hil))
          generalize st[i] = x at *
          have g1 : ¬ (x : Int) < 0 := by omega
          have g2 : ¬ (N.length : Int) ≤ x := by omega
          have BWX := hid (bt B2.out BX.out)
          have A2 := hid (Reach_ok x (HN.out.later BWX.out) HRN.out hxn (by omega))
          go_wp2_with fail
          refine A2.out.mono ?_
          rintro e w3 ⟨r3, m, rfl, hml, hmr, ho3, b3⟩
          have HIN := hid (on_mem_reach hml hmr HRN.out hxn)
          have hll : (on m true).length ≤ 300 := by
            have := List.length_filter_le (fun t => m.getD t false == true) (List.range m.length)
            rw [List.length_range] at this
            unfold on; omega
          have HO3 := hid ho3
          have B3 := hid (bt BWX.out b3)
          have BX3 := hid (bt BX.out b3)
          clear ho3 b3 hml hmr
          generalize on m true = l at *
          have hlo := fun W => own_len (P := Try.prog) HO3.out 26 3 Try.underlying26 W
          have HLT := hid (fun t (ht : t ∈ l) => ((HIN.out t).1 ht).lt HRN.out hxn)
          go_wp2_with fail
          go_loopg [9, 66] l.length (fun kx s9 s66 Z => ∃ (j : Nat) (f : Bool), s9 = .bool f ∧ s66 = .int .i64 j ∧ j ≤ l.length ∧ l.length - j ≤ kx ∧ Hid (Below w3.heap.size w3 Z) ∧ Hid (f = true ↔ ∃ y ∈ l.take j, ∃ z ∈ row N y, Rch N z y))
          case atStart => exact ⟨0, false, rfl, rfl, Nat.zero_le _, by omega, hid (b0 w3), hid (by simp)⟩
          case round =>
            rename World => Z
            obtain ⟨j, f, rfl, rfl, hj, hgj, BZ, FX⟩ := hrel
            by_cases hjl : j < l.length
            · obtain ⟨b3, o3, hix3, hc3⟩ := row_at (P := Try.prog) (Row.ofOwns (owns_later HO3.out BZ.out) (by omega)) j hjl 26 3 Try.underlying26 Try.sizeOf3
              simp only [encN] at hc3
              have hyn := HLT.out _ (List.getElem_mem hjl)
              have HT2 := hid (take_snoc_ex (P := fun y => ∃ z ∈ row N y, Rch N z y) hjl)
              generalize l[j] = y at *
              have g3 : ¬ (y : Int) < 0 := by omega
              have g4 : ¬ (N.length : Int) ≤ y := by omega
              have BWZ := hid (bt B3.out BZ.out)
              obtain ⟨bx, ox, u, hixx, hcw, hxw⟩ := HN.out.at (P := Try.prog) y hyn 23 26 Try.underlying23 Try.sizeOf26
              have hcx := (BWZ.out.cell (p := ⟨bx, ox, none⟩) (World.block_lt_of_cell? _ _ hcw)).trans hcw
              have hrow : N[y] = row N y := by simp [row, hyn]
              rw [hrow] at hxw
              have HRL := hid (fun c (hc : c ∈ row N y) => (row_lt HRN.out hc).1)
              have hlen3 := fun W => hxw.1.len (P := Try.prog) 26 3 3 Try.underlying26 W
              have hle3 := hxw.1.le
              have HXW := hid hxw.1
              generalize row N y = q at *
              clear hrow hxw hcw
              go_wp2_with fail
              go_loopg [9, 83] q.length (fun kx s9 s83 Q => ∃ (k : Nat) (g : Bool), s9 = .bool g ∧ s83 = .int .i64 k ∧ k ≤ q.length ∧ q.length - k ≤ kx ∧ Hid (Below w3.heap.size w3 Q) ∧ Hid (g = true ↔ f = true ∨ ∃ z ∈ q.take k, Rch N z y))
              case atStart => exact ⟨0, f, rfl, rfl, Nat.zero_le _, by omega, BZ, hid (by simp)⟩
              case round =>
                clear hcx
                rename World => Q
                obtain ⟨k, g, rfl, rfl, hk, hgk, BQ, GX⟩ := hrel
                by_cases hkl : k < q.length
                · have BWQ := hid (bt B3.out BQ.out)
                  obtain ⟨b4, o4, hix4, hc4⟩ := row_at (P := Try.prog) (HXW.out.below BWQ.out (Nat.le_refl _)) k hkl 26 3 Try.underlying26 Try.sizeOf3
                  simp only [encN] at hc4
                  have hzn := HRL.out _ (List.getElem_mem hkl)
                  have HT3 := hid (take_snoc_ex (P := fun z => Rch N z y) hkl)
                  generalize q[k] = z at *
                  have A3 := hid (Reach_ok z (HN.out.later BWQ.out) HRN.out hzn (by omega))
                  go_wp2_with fail
                  refine A3.out.mono ?_
                  rintro e w6 ⟨r6, m6, rfl, hml6, hmr6, ho6, b6⟩
                  have HI6 := hid (on_mem_reach hml6 hmr6 HRN.out hzn)
                  have hl6 : (on m6 true).length ≤ 300 := by
                    have := List.length_filter_le (fun t => m6.getD t false == true) (List.range m6.length)
                    rw [List.length_range] at this
                    unfold on; omega
                  have HO6 := hid ho6
                  have BQ6 := hid (bt BQ.out b6)
                  clear ho6 b6 hml6 hmr6
                  generalize on m6 true = bk at *
                  have hlb := fun W => own_len (P := Try.prog) HO6.out 26 3 Try.underlying26 W
                  go_wp2_with fail
                  go_loopg [9, 97] bk.length (fun kx s9 s97 R => ∃ (c : Nat) (h : Bool), s9 = .bool h ∧ s97 = .int .i64 c ∧ c ≤ bk.length ∧ bk.length - c ≤ kx ∧ w6 = R ∧ Hid (h = true ↔ g = true ∨ ∃ u ∈ bk.take c, u = y))
                  case atStart => exact ⟨0, g, rfl, rfl, Nat.zero_le _, by omega, rfl, hid (by simp)⟩
                  case round =>
                    obtain ⟨c, h, rfl, rfl, hc, hgc, rfl, HX⟩ := hrel
                    by_cases hcl : c < bk.length
                    · obtain ⟨b5, o5, hix5, hc5⟩ := row_at (P := Try.prog) (Row.ofOwns HO6.out (by omega)) c hcl 26 3 Try.underlying26 Try.sizeOf3
                      simp only [encN] at hc5
                      have HT4 := hid (take_snoc_ex (P := fun u => u = y) hcl)
                      generalize bk[c] = a at *
                      cases h with
                      | true =>
                        have H2 := hid (show true = true ↔ g = true ∨ ∃ u ∈ bk.take (c + 1), u = y by
                          rw [HT4.out, ← or_assoc, ← HX.out]; simp)
                        go_wp2
                        go_roundg (bk.length - (c + 1))
                        case measure => omega
                        case rel => exact ⟨c + 1, true, rfl, by go_num, by omega, Nat.le_refl _, rfl, hid (by simpa using H2.out)⟩
                      | false =>
                        by_cases hay : a = y
                        · have H2 := hid (show true = true ↔ g = true ∨ ∃ u ∈ bk.take (c + 1), u = y by
                            rw [HT4.out, ← or_assoc, ← HX.out]; simp [hay])
                          subst hay
                          go_wp2
                          go_roundg (bk.length - (c + 1))
                          case measure => omega
                          case rel => exact ⟨c + 1, true, by simp, by go_num, by omega, Nat.le_refl _, rfl, hid (by simpa using H2.out)⟩
                        · have H2 := hid (show false = true ↔ g = true ∨ ∃ u ∈ bk.take (c + 1), u = y by
                            rw [HT4.out, ← or_assoc, ← HX.out]; simp [hay])
                          have hay' : ¬ (a : Int) = y := by omega
                          go_wp2
                          go_roundg (bk.length - (c + 1))
                          case measure => omega
                          case rel => exact ⟨c + 1, false, by simp; exact hay', by go_num, by omega, Nat.le_refl _, rfl, H2⟩
                    · obtain rfl : c = bk.length := by omega
                      have G2 := hid (show h = true ↔ f = true ∨ ∃ z ∈ q.take (k + 1), Rch N z y by
                        rw [HX.out, GX.out, HT3.out, or_assoc, List.take_of_length_le (Nat.le_refl _)]
                        have e1 : (∃ u ∈ bk, u = y) ↔ Rch N z y := by
                          rw [← HI6.out]
                          exact ⟨fun ⟨u, hu, e⟩ => e ▸ hu, fun hu => ⟨y, hu, rfl⟩⟩
                        rw [e1])
                      go_wp2
                      go_roundg (q.length - (k + 1))
                      case measure => omega
                      case rel => exact ⟨k + 1, h, rfl, by go_num, by omega, Nat.le_refl _, BQ6, G2⟩
                · obtain rfl : k = q.length := by omega
                  have F2 := hid (show g = true ↔ ∃ y ∈ l.take (j + 1), ∃ z ∈ row N y, Rch N z y by
                    rw [GX.out, FX.out, HT2.out, List.take_of_length_le (Nat.le_refl _)])
                  go_wp2
                  go_roundg (l.length - (j + 1))
                  case measure => omega
                  case rel => exact ⟨j + 1, g, rfl, by go_num, by omega, Nat.le_refl _, BQ, F2⟩
            · obtain rfl : j = l.length := by omega
              obtain rfl : f = true := by
                refine FX.out.2 ?_
                rw [List.take_of_length_le (Nat.le_refl _)]
                obtain ⟨y, hy, q⟩ := HEX.out
                exact ⟨y, (HIN.out y).2 hy, q⟩
              have hinf := infoR
              obtain ⟨i0, hi0, hz0, hz1, hz2⟩ := info3 hinf
              obtain ⟨Y, hY⟩ : ∃ Y, Z.alloc (.cells #[] 26) = Y := ⟨_, rfl⟩
              have BY : Below Z.heap.size Z Y := hY ▸ ba (b0 Z) _
              have HOE := hid (show Y.ownsRow Z.heap.size 26 1 (.slice (some ⟨Z.heap.size, 0, none⟩) 0 0) 0 [] from hY ▸ owns_empty Z 26 1 Z.heap.size (Nat.le_refl _))
              have BWZ := hid (bt B3.out BZ.out)
              have BWY := hid (bt BWZ.out BY)
              have BXZ := hid (bt BX3.out BZ.out)
              have BZY := hid BY
              obtain ⟨vs, hvs, hel⟩ := HN.out
              have hvl : vs.length = N.length := by have := hvs.1.size; omega
              have HVS := hid (hvs.1.below BWY.out (Nat.le_refl _))
              have HEL := hid hel
              have HVL := hid hvl
              have HONE := hid (show ∀ u ∈ vs, u.oneCell' = true from fun u hu => by
                obtain ⟨i, hi, rfl⟩ := List.getElem_of_mem hu
                obtain ⟨u', h1, h2⟩ := hel i (by omega)
                rw [List.getElem?_eq_getElem hi] at h1
                injection h1 with h1
                obtain ⟨a, c, e, _⟩ := h2.1.form
                rw [h1, e]; rfl)
              clear hvs hel hvl BY
              go_wp2_with (at_builtin; refine wpList_append_row rfl _ _ 23 rfl Z.heap.size 26 i0 _ 1 24 Try.underlying23 hi0 hz0 hz1 hz2 rfl (by decide) _ 0 [] rfl HOE.out v N.length vs rfl HVS.out HONE.out (by omega) (by unfold maxLen; omega) BZY.out.size ?_)
              intro cv w7 ho7 hg7
              have O7 : w7.ownsRow Z.heap.size 26 1 cv vs.length (vs.map id) := by
                rw [List.map_id, HVL.out]
                simpa using ho7
              have B7 : Below w.heap.size w w7 := BWY.out.grown hg7 BWY.out.size (fun k hk => by have := (World.ownsRow.lt HOE.out k hk).1; have := BWZ.out.size; omega)
              have BX7 : Below w2.heap.size w2 w7 := (bt BXZ.out BZY.out).grown hg7 (bt BXZ.out BZY.out).size (fun k hk => by have := (World.ownsRow.lt HOE.out k hk).1; have := BXZ.out.size; omega)
              obtain ⟨b7, hb7, hix7, hcc7, hf7, hB7, _, hset7⟩ := own_at (P := Try.prog) (enc := id) O7 x (by rw [HVL.out]; exact hxn) 23 Try.underlying23 Try.sizeOf26
              obtain ⟨u7, hc7⟩ : ∃ u7, w7.cell? ⟨b7, x, none⟩ = some u7 := ⟨_, hcc7⟩
              obtain ⟨W8, hW8⟩ : ∃ W8, w7.setCell ⟨b7, x, none⟩ (.slice none 0 0) = W8 := ⟨_, rfl⟩
              have O8 := hset7 (.slice none 0 0)
              have e8 : w7.setCell ⟨b7, x, none⟩ (id (Value.slice none 0 0)) = W8 := hW8
              rw [e8] at O8
              have B8 : Below w.heap.size w W8 := hW8 ▸ B7.setCell (p := ⟨b7, x, none⟩) (by show w.heap.size ≤ b7; have := BWZ.out.size; omega) _
              have BX8 : Below w2.heap.size w2 W8 := hW8 ▸ BX7.setCell (p := ⟨b7, x, none⟩) (by show w2.heap.size ≤ b7; have := BXZ.out.size; omega) _
              have hll8 : (N.set x []).length = N.length := by rw [List.length_set]
              have hm8 := less_mass N x
              have HL8 := hid (fun out2 hd2 => less_free (N := N) (x := x) (out := out2) hxn hd2)
              have A4 := hid (Stuck_ok (nd_less hxn HEL.out B8 HVL.out (by omega) O8) (less_right HRN.out) (by omega))
              have HB8 := hid B8
              have HBX8 := hid BX8
              clear ho7 hg7 O7 B7 BX7 hb7 hcc7 hB7 hset7 O8 e8 B8 BX8
              go_wp2_with fail
              refine A4.out.mono ?_
              rintro e w9 ⟨r9, out9, rfl, dn9, ho9, b9⟩
              have HFR := hid (HL8.out out9 dn9)
              have hl9 : (stuck (N.set x []).length out9).length ≤ 300 := by
                have := List.length_filter_le (fun t => !(out9.contains t)) (List.range (N.set x []).length)
                rw [List.length_range] at this
                unfold stuck; omega
              have HO9 := hid ho9
              have BX9 := hid (bt HBX8.out b9)
              clear dn9 ho9 b9
              generalize stuck (N.set x []).length out9 = s9 at *
              have hls9 := fun W => own_len (P := Try.prog) HO9.out 26 3 Try.underlying26 W
              go_wp2_with fail
              go_loopg [123] s9.length (fun kx s123 Q => ∃ c : Nat, s123 = .int .i64 c ∧ c ≤ s9.length ∧ s9.length - c ≤ kx ∧ w9 = Q)
              case atStart => exact ⟨0, rfl, Nat.zero_le _, by omega, rfl⟩
              case round =>
                obtain ⟨c, rfl, hc, hgc, rfl⟩ := hrel
                by_cases hcl : c < s9.length
                · obtain ⟨b5, o5, hix5, hc5⟩ := row_at (P := Try.prog) (Row.ofOwns HO9.out (by omega)) c hcl 26 3 Try.underlying26 Try.sizeOf3
                  simp only [encN] at hc5
                  have hne : s9[c] ≠ x := fun e => HFR.out (e ▸ List.getElem_mem hcl)
                  generalize s9[c] = a at *
                  have hne' : ¬ (a : Int) = x := by omega
                  go_wp2
                  go_roundg (s9.length - (c + 1))
                  case measure => omega
                  case rel => exact ⟨c + 1, by go_num, by omega, Nat.le_refl _, rfl⟩
                · obtain rfl : c = s9.length := by omega
                  go_wp2
                  go_roundg (st.length - (i + 1))
                  case measure => omega
                  case rel => exact ⟨i + 1, by go_num, by omega, Nat.le_refl _, BX9⟩
        · obtain rfl : i = st.length := by omega
          have BE := hid (bt B2.out BX.out)
          go_wp2
          go_ret
          exact ⟨rfl, BE.out⟩
end Go.Proofs.Ytkpmkabddhpojaa.Or
