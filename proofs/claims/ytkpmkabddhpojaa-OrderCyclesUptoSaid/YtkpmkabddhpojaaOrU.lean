/- Layer 14: the walk of OrderReach. -/
import Derived.Test.YtkpmkabddhpojaaOrS
set_option linter.unusedVariables false
set_option linter.unusedSimpArgs false
namespace Go.Proofs.Ytkpmkabddhpojaa.Or
open Go Go.Proofs.Ytkpmkabddhpojaa Go.RowKit
set_option maxRecDepth 100000

theorem underMS : Try.prog.underlying 43 = some (.map 3 4) := Try.underlying43
theorem bool_inv {H : Type} {P : Program} {e : TypeId} (he : P.underlying e = some .bool) {v : Value} {z : DataW H × List MemPlace} (h : plainElem P e v = some z) : ∃ x, v = .bool x ∧ z = (.lit (.bool x), []) := by
  unfold plainElem at h
  rw [he] at h
  cases v <;> simp at h
  exact ⟨_, rfl, h.symm⟩
/-- A set of numbers. -/
def SetB (w : World) (b : Nat) (l : List Nat) (c : Nat) : Prop :=
  ∃ (D : DataW Unit) (n : Nat), n ≤ c ∧ w.ownsMap Try.prog 3 (plainElem (H := Unit) Try.prog 4) b n D ∧ (∃ es, D = .map es) ∧
    ∀ x : Nat, D.atKey (.int .i64 (x : Int)) (.lit (.bool false)) = .lit (.bool (l.contains x))
section
variable {w w' : World} {b c : Nat} {l : List Nat}
theorem SetB.lt (h : SetB w b l c) : b < w.heap.size := by
  obtain ⟨D, n, _, h, _⟩ := h
  exact h.lt
theorem SetB.later (h : SetB w b l c) (hb : w'.heap[b]? = w.heap[b]?) : SetB w' b l c := by
  obtain ⟨D, n, hn, ⟨es, clock, h1, r⟩, hD⟩ := h
  exact ⟨D, n, hn, ⟨es, clock, hb.trans h1, r⟩, hD⟩
theorem own_ne_set {B : Nat} {e : TypeId} {v : Value} {n : Nat} {xs : List Value} (h : w.ownsRow B e 1 v n xs) (hm : SetB w b l c) : ∀ k, v.ownBlock = some k → k ≠ b := by
  intro k hk e1
  subst e1
  obtain ⟨D, m, _, ⟨es, clock, h1, _⟩, _⟩ := hm
  rcases h.2 with ⟨rfl, _⟩ | ⟨g, cap, cur, rfl, _, hh, _⟩
  · cases hk
  · obtain rfl : g = k := by injection hk
    rw [h1] at hh; cases hh
theorem SetB.made (w : World) : SetB (w.alloc (.map #[] 0)) w.heap.size [] 0 := by
  have := World.ownsMap_made (H := Unit) w Try.prog 3 (plainElem (H := Unit) Try.prog 4)
  exact ⟨_, _, Nat.le_refl _, this, ⟨_, rfl⟩, fun x => rfl⟩
theorem SetB.look (h : SetB w b l c) (x : Nat) (hx : x ≤ 1000000000) :
    (Instr.lookup 43 (.map (some b)) (.int .i64 (x : Int)) false).run Try.prog w = .ok (.bool (l.contains x)) w := by
  obtain ⟨D, n, _, h, _, hD⟩ := h
  obtain ⟨u, ps, hrun, hv⟩ := World.ownsMap.lookup h (Maps.int_keyed Try.underlying3) underMS (Try.zeroValue4 w) (plainElem_bool Try.underlying4 false) (keyN x hx)
  obtain ⟨a, rfl, ha⟩ := bool_inv Try.underlying4 hv
  have h1 := congrArg Prod.fst ha
  rw [hD x] at h1
  injection h1 with h1
  injection h1 with h1
  rw [hrun, ← h1]
theorem SetB.step {ops : Array Oper} {rest : List Oper} {o : Oper} {a : Go.Act} {Q : Exit → Go.Act → World → Prop} (h : SetB w b l c) (hc : c ≤ 1000000) {x : Nat} (hx : x ≤ 1000000000)
    (hg : o.guard = none) (m xo vo : Operand) (hop : o.op = Op.mapUpdate 43 m xo vo) (hm : a.eval m = .map (some b)) (hxe : a.eval xo = .int .i64 (x : Int)) (hv : a.eval vo = .bool true)
    (hK : ∀ w', SetB w' b (l ++ [x]) (c + 1) → w.grownBy w' (some b) → wpList Try.prog ops Q rest (a.put o.dst undef) w') : wpList Try.prog ops Q (o :: rest) a w := by
  obtain ⟨D, n, hn, h, hI, hD⟩ := h
  refine wpList_mapUpdate_own _ hg _ _ _ 43 hop 3 4 (Maps.int_keyed Try.underlying3) underMS (plainElem (H := Unit) Try.prog 4) _ _ _ hm h (by unfold maxLen; omega) _ _ _ hxe hv (keyN x hx) (.lit (.bool true)) [] (plainElem_bool Try.underlying4 true) fun w' h1 h2 => hK w' ?_ h2
  refine ⟨_, _, by omega, h1, by obtain ⟨es, rfl⟩ := hI; exact ⟨_, rfl⟩, fun y => ?_⟩
  by_cases e : y = x
  · subst e
    rw [Maps.atKey_put_same hI (by simp [WideAt.IsKeyLit])]
    simp
  · have hne : (Lit.int .i64 (y : Int)) ≠ .int .i64 (x : Int) := by intro q; injection q with _ q; exact e (by omega)
    rw [Maps.atKey_put_other hne, hD y]
    simp [e]
end

/-! mathematics -/
theorem on_sorted (m : List Bool) (so : Bool) : (on m so).Pairwise (· < ·) := by
  unfold on
  exact List.Pairwise.filter _ List.pairwise_lt_range
theorem on_mem_reach {N : List (List Nat)} {m : List Bool} {a : Nat} (hl : m.length = N.length) (h : ∀ t, m.getD t false = true ↔ Rch N a t) (hR : Right N) (ha : a < N.length) (t : Nat) : t ∈ on m true ↔ Rch N a t := by
  rw [mem_on, h]
  exact ⟨fun q => q.2, fun q => ⟨by rw [hl]; exact q.lt hR ha, q⟩⟩
theorem alone_one {l : List Nat} {a : Nat} (hd : l.Pairwise (· < ·)) (ha : a ∈ l) (h : ∀ t ∈ l, t = a) : l.length = 1 := by
  match l, hd, ha, h with
  | [], _, ha, _ => cases ha
  | [x], _, _, _ => rfl
  | x :: y :: l, hd, _, h =>
    have h1 := h x (by simp)
    have h2 := h y (by simp)
    rw [List.pairwise_cons] at hd
    have := hd.1 y (by simp)
    omega
theorem rch_bare {N : List (List Nat)} {a t : Nat} (h : Rch N a t) (ha : row N a = []) : t = a := by
  induction h with
  | self => rfl
  | step _ hc ih => rw [ih, ha] at hc; cases hc
theorem stuck_needs {N : List (List Nat)} {out : List Nat} (hR : Right N) (hd : Done N (List.range N.length) out) {x : Nat} (hx : x ∈ stuck N.length out) : (row N x).any (fun y => (stuck N.length out).contains y) = true := by
  obtain ⟨h1, h2⟩ := mem_stuck.1 hx
  have hf := pick_none.1 hd.2 x (List.mem_range.2 h1)
  rw [List.any_eq_true]
  false_or_by_contra
  rename_i hn
  have : fits N out x = true := (fits_iff _ _ _).2 ⟨h2, fun k hk => by
    false_or_by_contra
    rename_i hko
    exact hn ⟨k, hk, List.contains_iff_mem.2 (mem_stuck.2 ⟨(row_lt hR hk).1, hko⟩)⟩⟩
  rw [this] at hf; cases hf
theorem any_take {p : Nat → Bool} {l : List Nat} {j : Nat} (hj : j < l.length) : (l.take (j + 1)).any p = ((l.take j).any p || p l[j]) := by
  rw [List.take_succ_eq_append_getElem hj, List.any_append]; simp
theorem any_eq {l : List Nat} {y : Nat} : (l.any fun z => y == z) = l.contains y := by
  induction l with
  | nil => rfl
  | cons z l ih => rw [List.any_cons, List.contains_cons, ih]

theorem mod_thing (a : Int) {n : Nat} (h0 : 0 < n) (hn : n ≤ 1000000) : ∃ k : Nat, wrap64 ((IntKind.u64.wrap a).tmod (n : Int)) = (k : Int) ∧ k < n := by
  have hw : 0 ≤ IntKind.u64.wrap a := by
    simp [IntKind.wrap, IntKind.bits, IntKind.signed]
    omega
  generalize IntKind.u64.wrap a = z at *
  rw [Int.tmod_eq_emod_of_nonneg hw]
  have h1 := Int.emod_nonneg z (show (n : Int) ≠ 0 by omega)
  have h2 := Int.emod_lt_of_pos z (show (0 : Int) < n by omega)
  refine ⟨(z % (n : Int)).toNat, ?_, by omega⟩
  rw [IntWalk.wrap64_in] <;> omega
variable {D : Nat → Prop}
set_option maxHeartbeats 16000000 in
theorem OrderReach_walk (v : Value) (M : List (List Int)) (a : Int) (w : World) (hv : Nd encI D w v M) (hn : M.length + massI M ≤ 1000000000) (hwf : (Lit.int .i64 a).wf = true) :
    Calls Try.prog 8 #[v, .int .i64 a] w fun e w' => e = .returned (.bool true) ∧ Below w.heap.size w w' := by
  have hlen := fun W => hv.len (P := Try.prog) 23 3 26 Try.underlying23 W
  have AL := hid (fun W => alive_any W)
  have HV := hid hv
  have HWF := hid hwf
  clear hv hwf
  go_enter Try.func8, Try.ntmps8
  go_wp2_with fail
  refine (AL.out _).mono ?_
  rintro e w1 ⟨rfl, b1⟩
  have B1 := hid b1
  have HV1 := hid (HV.out.later b1)
  have GR := hid (great_any v M w1 HV1.out hn)
  have RT := hid (Right_any v M w1 HV1.out)
  clear b1
  cases hg : decide (300 < M.length + massI M) with
  | true =>
    rw [hg] at GR
    clear hg
    go_wp2_with fail
    refine GR.out.mono ?_
    rintro e w2 ⟨rfl, rfl⟩
    go_wp2_with fail
    refine (AL.out _).mono ?_
    rintro e w2 ⟨rfl, b2⟩
    have B2 := hid (bt B1.out b2)
    clear b2
    go_wp2_with fail
    go_ret
    exact ⟨rfl, B2.out⟩
  | false =>
    rw [hg] at GR
    have hM : M.length + massI M ≤ 300 := by simpa using hg
    clear hg
    cases hR : rightB M with
    | false =>
      rw [hR] at RT
      clear hR
      go_wp2_with fail
      refine GR.out.mono ?_
      rintro e w2 ⟨rfl, rfl⟩
      go_wp2_with fail
      refine RT.out.mono ?_
      rintro e w2 ⟨rfl, rfl⟩
      go_wp2_with fail
      refine (AL.out _).mono ?_
      rintro e w2 ⟨rfl, b2⟩
      have B2 := hid (bt B1.out b2)
      clear b2
      go_wp2_with fail
      go_ret
      exact ⟨rfl, B2.out⟩
    | true =>
      rw [hR] at RT
      obtain ⟨N, rfl, hRN⟩ := right_nat hR
      rw [toI_length] at hlen
      rw [toI_length, massI_toI] at hM
      have HRN := hid hRN
      have HN1 := hid (nd_int.1 HV1.out)
      clear hR hRN
      rcases Nat.eq_zero_or_pos N.length with h0 | h0
      · rw [h0] at hlen
        go_wp2_with fail
        refine GR.out.mono ?_
        rintro e w2 ⟨rfl, rfl⟩
        go_wp2_with fail
        refine RT.out.mono ?_
        rintro e w2 ⟨rfl, rfl⟩
        go_wp2_with fail
        refine (AL.out _).mono ?_
        rintro e w2 ⟨rfl, b2⟩
        have B2 := hid (bt B1.out b2)
        clear b2
        go_wp2_with fail
        go_ret
        exact ⟨rfl, B2.out⟩
      · have hn0 : (N.length : Int) ≠ 0 := by omega
        obtain ⟨k, hk, hkn⟩ := mod_thing a h0 (by omega)
        have A1 := hid (Reach_ok k HN1.out HRN.out hkn (by omega))
        go_wp2_with fail
        refine GR.out.mono ?_
        rintro e w2 ⟨rfl, rfl⟩
        go_wp2_with fail
        refine RT.out.mono ?_
        rintro e w2 ⟨rfl, rfl⟩
        go_wp2_with fail
        refine A1.out.mono ?_
        rintro e w2 ⟨r, m, rfl, hml, hmr, ho, b2⟩
        have HIN := hid (on_mem_reach hml hmr HRN.out hkn)
        have HSO := hid (on_sorted m true)
        have hll : (on m true).length ≤ 300 := by
          have := List.length_filter_le (fun t => m.getD t false == true) (List.range m.length)
          rw [List.length_range] at this
          unfold on; omega
        have HO := hid ho
        have B2 := hid (bt B1.out b2)
        have HN2 := hid (HN1.out.later b2)
        clear ho b2 hml hmr
        generalize on m true = l at *
        have hlo := fun W => own_len (P := Try.prog) HO.out 26 3 Try.underlying26 W
        have HLT := hid (fun t (ht : t ∈ l) => ((HIN.out t).1 ht).lt HRN.out hkn)
        have hmm := @run_makeMap Try.prog
        obtain ⟨Y, hY⟩ : ∃ Y, w2.alloc (.map #[] 0) = Y := ⟨_, rfl⟩
        have BY : Below w2.heap.size w2 Y := hY ▸ ba (b0 w2) _
        have MY := hid (show SetB Y w2.heap.size (l.take 0) 0 from hY ▸ SetB.made w2)
        have HOY := hid (owns_later HO.out BY)
        have HNM := hid (fun c hc => own_ne_set HOY.out MY.out c hc)
        have HBY := hid (bt B2.out BY)
        obtain ⟨mb, hmb⟩ : ∃ mb, w2.heap.size = mb := ⟨_, rfl⟩
        have HWB := hid (show w.heap.size ≤ mb from by rw [← hmb]; exact B2.out.size)
        rw [hmb] at MY HNM
        clear BY
        go_wp2_with fail
        go_loopg [59] l.length (fun kx s59 X => ∃ i : Nat, s59 = .int .i64 i ∧ i ≤ l.length ∧ l.length - i ≤ kx ∧ Hid (Kx (fun b => b = mb) Y X) ∧ Hid (SetB X mb (l.take i) i))
        case atStart => exact ⟨0, rfl, Nat.zero_le _, by omega, hid (Kx.refl _ Y), MY⟩
        case round =>
          rename World => X
          obtain ⟨i, rfl, hi, hg, KX, MX⟩ := hrel
          have HBX := hid (KX.out.below HBY.out (fun b q => by rw [q]; exact HWB.out))
          have HOX := hid (owns_kx HOY.out KX.out (fun c hc q => HNM.out c hc q))
          by_cases hil : i < l.length
          · obtain ⟨b2, o2, hix2, hc2⟩ := row_at (P := Try.prog) (Row.ofOwns HOX.out (by omega)) i hil 26 3 Try.underlying26 Try.sizeOf3
            simp only [encN] at hc2
            have htl := HLT.out _ (List.getElem_mem hil)
            have HTK := hid (show l.take (i + 1) = l.take i ++ [l[i]] from List.take_succ_eq_append_getElem hil)
            have h1 : ¬ ((l[i] : Nat) : Int) < 0 := by omega
            have h2 : ¬ (N.length : Int) ≤ ((l[i] : Nat) : Int) := by omega
            rcases Nat.eq_zero_or_pos i with hi0 | hi0
            · subst hi0
              generalize l[0] = t at *
              simp only [Int.natCast_zero, Int.ofNat_zero] at hix2
              go_wp2_with (refine MX.out.step (by omega) (x := t) (by omega) rfl _ _ _ rfl rfl rfl rfl ?_)
              intro X2 m2 g2
              have M2 := hid (show SetB X2 mb (l.take (0 + 1)) (0 + 1) by rw [HTK.out]; exact m2)
              have K2 := hid (KX.out.tr (Kx.grown g2 (fun b e => (Option.some.inj e).symm)))
              clear m2 g2
              go_wp2_with fail
              go_roundg (l.length - 1)
              case measure => omega
              case rel => exact ⟨1, by go_num, by omega, Nat.le_refl _, K2, M2⟩
            · obtain ⟨j, hj⟩ : ∃ j, i = j + 1 := ⟨i - 1, by omega⟩
              subst hj
              have hjl : j < l.length := by omega
              obtain ⟨b3, o3, hix3, hc3⟩ := row_at (P := Try.prog) (Row.ofOwns HOX.out (by omega)) j hjl 26 3 Try.underlying26 Try.sizeOf3
              simp only [encN] at hc3
              have hlt : l[j] < l[j + 1] := List.pairwise_iff_getElem.1 HSO.out j (j + 1) hjl hil (by omega)
              have h4 : (0 : Int) < (j : Int) + 1 := by omega
              have hix2' : ∀ k W, (Instr.indexAt 26 r (.int k ((j : Int) + 1))).run Try.prog W = .ok (.pointer (some ⟨b2, o2, none⟩)) W := fun k W => by
                have := hix2 k W
                rwa [show ((j + 1 : Nat) : Int) = (j : Int) + 1 by omega] at this
              generalize l[j + 1] = t at *
              generalize l[j] = s at *
              have h3 : ¬ (t : Int) ≤ s := by omega
              go_wp2_with (refine MX.out.step (by omega) (x := t) (by omega) rfl _ _ _ rfl rfl rfl rfl ?_)
              intro X2 m2 g2
              have M2 := hid (show SetB X2 mb (l.take (j + 1 + 1)) (j + 1 + 1) by rw [HTK.out]; exact m2)
              have K2 := hid (KX.out.tr (Kx.grown g2 (fun b e => (Option.some.inj e).symm)))
              clear m2 g2
              go_wp2_with fail
              go_roundg (l.length - (j + 1 + 1))
              case measure => omega
              case rel => exact ⟨j + 1 + 1, by go_num, by omega, Nat.le_refl _, K2, M2⟩
          · obtain rfl : i = l.length := by omega
            have MF := hid (show SetB X mb l l.length by have := MX.out; rwa [List.take_of_length_le (Nat.le_refl _)] at this)
            have HCL := hid (show ∀ x ∈ l, ∀ y ∈ row N x, l.contains y = true from fun x hx y hy => List.contains_iff_mem.2 ((HIN.out y).2 (((HIN.out x).1 hx).step hy)))
            have HNX := hid (nd_int.1 (HV.out.later HBX.out))
            clear MX
            go_wp2_with fail
            go_loopg [90] l.length (fun kx s90 Z => ∃ i : Nat, s90 = .int .i64 i ∧ i ≤ l.length ∧ l.length - i ≤ kx ∧ X = Z)
            case atStart => exact ⟨0, rfl, Nat.zero_le _, by omega, rfl⟩
            case round =>
              obtain ⟨i, rfl, hi, hg, rfl⟩ := hrel
              by_cases hil : i < l.length
              · obtain ⟨b2, o2, hix2, hc2⟩ := row_at (P := Try.prog) (Row.ofOwns HOX.out (by omega)) i hil 26 3 Try.underlying26 Try.sizeOf3
                simp only [encN] at hc2
                have htl := HLT.out _ (List.getElem_mem hil)
                have HYC := hid (HCL.out _ (List.getElem_mem hil))
                generalize l[i] = t at *
                obtain ⟨bx, ox, x, hixx, hcx, hxw⟩ := HNX.out.at (P := Try.prog) t htl 23 26 Try.underlying23 Try.sizeOf26
                have hrow : N[t] = row N t := by simp [row, htl]
                rw [hrow] at hxw
                have HRL := hid (fun c (hc : c ∈ row N t) => (row_lt HRN.out hc).1)
                have hlen3 := fun W => hxw.1.len (P := Try.prog) 26 3 3 Try.underlying26 W
                have hle3 := hxw.1.le
                have HXW := hid hxw.1
                generalize row N t = q at *
                clear hrow hxw
                go_wp2_with fail
                go_loopg [99] q.length (fun kx s99 Z => ∃ j : Nat, s99 = .int .i64 j ∧ j ≤ q.length ∧ q.length - j ≤ kx ∧ X = Z)
                case atStart => exact ⟨0, rfl, Nat.zero_le _, by omega, rfl⟩
                case round =>
                  obtain ⟨j, rfl, hj, hgj, rfl⟩ := hrel
                  by_cases hjl : j < q.length
                  · obtain ⟨b3, o3, hix3, hc3⟩ := row_at (P := Try.prog) HXW.out j hjl 26 3 Try.underlying26 Try.sizeOf3
                    simp only [encN] at hc3
                    have hkn := HRL.out _ (List.getElem_mem hjl)
                    have hyc := HYC.out _ (List.getElem_mem hjl)
                    generalize q[j] = y at *
                    have hlk := MF.out.look y (by omega)
                    rw [hyc] at hlk
                    clear hyc
                    go_wp2
                    go_roundg (q.length - (j + 1))
                    case measure => omega
                    case rel => exact ⟨j + 1, by go_num, by omega, Nat.le_refl _, rfl⟩
                  · obtain rfl : j = q.length := by omega
                    go_wp2
                    go_roundg (l.length - (i + 1))
                    case measure => omega
                    case rel => exact ⟨i + 1, by go_num, by omega, Nat.le_refl _, rfl⟩
              · obtain rfl : i = l.length := by omega
                have hkl : l.contains k = true := List.contains_iff_mem.2 ((HIN.out k).2 .self)
                have hlk := MF.out.look k (by omega)
                rw [hkl] at hlk
                obtain ⟨bx, ox, x, hixx, hcx, hxw⟩ := HNX.out.at (P := Try.prog) k hkn 23 26 Try.underlying23 Try.sizeOf26
                have hrow : N[k] = row N k := by simp [row, hkn]
                rw [hrow] at hxw
                have hlen3 := fun W => hxw.1.len (P := Try.prog) 26 3 3 Try.underlying26 W
                have hle3 := hxw.1.le
                have HONE := hid (show (row N k).length = 0 → l.length = 1 from fun e => alone_one HSO.out ((HIN.out k).2 .self) fun t ht => rch_bare ((HIN.out t).1 ht) (List.eq_nil_of_length_eq_zero e))
                have SK := hid (Stuck_ok HNX.out HRN.out (by omega))
                generalize (row N k).length = z at *
                clear hkl hrow hxw
                by_cases hz : z = 0
                · have h1 := HONE.out hz
                  subst hz
                  rw [h1] at hlo
                  go_wp2_with fail
                  refine SK.out.mono ?_
                  rintro e w5 ⟨r5, out, rfl, dn, ho5, b5⟩
                  have HST := hid (fun x hx => stuck_needs HRN.out dn (x := x) hx)
                  have hsl : (stuck N.length out).length ≤ 300 := by
                    have := List.length_filter_le (fun t => !(out.contains t)) (List.range N.length)
                    rw [List.length_range] at this
                    unfold stuck; omega
                  have HSL := hid (fun x (hx : x ∈ stuck N.length out) => (mem_stuck.1 hx).1)
                  have HO5 := hid ho5
                  have HN5 := hid (HNX.out.later b5)
                  have B5 := hid (bt HBX.out b5)
                  clear dn ho5 b5
                  generalize stuck N.length out = st at *
                  have hls := fun W => own_len (P := Try.prog) HO5.out 26 3 Try.underlying26 W
                  go_wp2_with fail
                  go_loopg [133] st.length (fun kx s133 Z => ∃ i : Nat, s133 = .int .i64 i ∧ i ≤ st.length ∧ st.length - i ≤ kx ∧ w5 = Z)
                  case atStart => exact ⟨0, rfl, Nat.zero_le _, by omega, rfl⟩
                  case round =>
                    obtain ⟨i, rfl, hi, hg, rfl⟩ := hrel
                    by_cases hil : i < st.length
                    · obtain ⟨b2, o2, hix2, hc2⟩ := row_at (P := Try.prog) (Row.ofOwns HO5.out (by omega)) i hil 26 3 Try.underlying26 Try.sizeOf3
                      simp only [encN] at hc2
                      have htl := HSL.out _ (List.getElem_mem hil)
                      have HANY := hid (HST.out _ (List.getElem_mem hil))
                      generalize st[i] = t at *
                      have g1 : ¬ (t : Int) < 0 := by omega
                      have g2 : ¬ (N.length : Int) ≤ t := by omega
                      obtain ⟨by_, oy, y_, hixy, hcy, hyw⟩ := HN5.out.at (P := Try.prog) t htl 23 26 Try.underlying23 Try.sizeOf26
                      have hrow : N[t] = row N t := by simp [row, htl]
                      rw [hrow] at hyw
                      have hlen4 := fun W => hyw.1.len (P := Try.prog) 26 3 3 Try.underlying26 W
                      have hle4 := hyw.1.le
                      have HYW := hid hyw.1
                      generalize row N t = q at *
                      clear hrow hyw
                      go_wp2_with fail
                      go_loopg [19, 150] q.length (fun kx s19 s150 Z => ∃ (j : Nat) (f : Bool), s19 = .bool f ∧ s150 = .int .i64 j ∧ j ≤ q.length ∧ q.length - j ≤ kx ∧ w5 = Z ∧ Hid (f = (q.take j).any fun y => st.contains y))
                      case atStart => exact ⟨0, false, rfl, rfl, Nat.zero_le _, by omega, rfl, hid rfl⟩
                      case round =>
                        obtain ⟨j, f, rfl, rfl, hj, hgj, rfl, FX⟩ := hrel
                        by_cases hjl : j < q.length
                        · obtain ⟨b3, o3, hix3, hc3⟩ := row_at (P := Try.prog) HYW.out j hjl 26 3 Try.underlying26 Try.sizeOf3
                          simp only [encN] at hc3
                          have HT2 := hid (any_take (p := fun y => st.contains y) hjl)
                          generalize q[j] = y at *
                          go_wp2_with fail
                          go_loopg [19, 156] st.length (fun kx s19 s156 Z => ∃ (c : Nat) (g : Bool), s19 = .bool g ∧ s156 = .int .i64 c ∧ c ≤ st.length ∧ st.length - c ≤ kx ∧ w5 = Z ∧ Hid (g = (f || (st.take c).any fun z => y == z)))
                          case atStart => exact ⟨0, f, rfl, rfl, Nat.zero_le _, by omega, rfl, hid (by simp)⟩
                          case round =>
                            obtain ⟨c, g, rfl, rfl, hc, hgc, rfl, GX⟩ := hrel
                            by_cases hcl : c < st.length
                            · obtain ⟨b4, o4, hix4, hc4⟩ := row_at (P := Try.prog) (Row.ofOwns HO5.out (by omega)) c hcl 26 3 Try.underlying26 Try.sizeOf3
                              simp only [encN] at hc4
                              have HT3 := hid (any_take (p := fun z => y == z) hcl)
                              generalize st[c] = u at *
                              cases g with
                              | true =>
                                have G2 := hid (show true = (f || (st.take (c + 1)).any fun z => y == z) by rw [HT3.out, ← Bool.or_assoc, ← GX.out]; rfl)
                                go_wp2
                                go_roundg (st.length - (c + 1))
                                case measure => omega
                                case rel => exact ⟨c + 1, true, rfl, by go_num, by omega, Nat.le_refl _, rfl, G2⟩
                              | false =>
                                by_cases hyu : y = u
                                · have G2 := hid (show true = (f || (st.take (c + 1)).any fun z => y == z) by rw [HT3.out, ← Bool.or_assoc, ← GX.out, hyu]; simp)
                                  subst hyu
                                  go_wp2
                                  go_roundg (st.length - (c + 1))
                                  case measure => omega
                                  case rel => exact ⟨c + 1, true, by simp, by go_num, by omega, Nat.le_refl _, rfl, G2⟩
                                · have G2 := hid (show false = (f || (st.take (c + 1)).any fun z => y == z) by rw [HT3.out, ← Bool.or_assoc, ← GX.out]; simp [hyu])
                                  have hyu' : ¬ (y : Int) = u := by omega
                                  go_wp2
                                  go_roundg (st.length - (c + 1))
                                  case measure => omega
                                  case rel => exact ⟨c + 1, false, by simp; exact hyu', by go_num, by omega, Nat.le_refl _, rfl, G2⟩
                            · obtain rfl : c = st.length := by omega
                              have F2 := hid (show g = (q.take (j + 1)).any fun y => st.contains y by rw [HT2.out, ← FX.out, GX.out, List.take_of_length_le (Nat.le_refl _), any_eq])
                              go_wp2
                              go_roundg (q.length - (j + 1))
                              case measure => omega
                              case rel => exact ⟨j + 1, g, rfl, by go_num, by omega, Nat.le_refl _, rfl, F2⟩
                        · obtain rfl : j = q.length := by omega
                          obtain rfl : f = true := by
                            have := FX.out
                            rw [List.take_of_length_le (Nat.le_refl _)] at this
                            rw [this]; exact HANY.out
                          go_wp2
                          go_roundg (st.length - (i + 1))
                          case measure => omega
                          case rel => exact ⟨i + 1, by go_num, by omega, Nat.le_refl _, rfl⟩
                    · obtain rfl : i = st.length := by omega
                      go_wp2
                      go_ret
                      exact ⟨rfl, B5.out⟩
                · have hz' : (z : Int) ≠ 0 := by omega
                  go_wp2_with fail
                  refine SK.out.mono ?_
                  rintro e w5 ⟨r5, out, rfl, dn, ho5, b5⟩
                  have HST := hid (fun x hx => stuck_needs HRN.out dn (x := x) hx)
                  have hsl : (stuck N.length out).length ≤ 300 := by
                    have := List.length_filter_le (fun t => !(out.contains t)) (List.range N.length)
                    rw [List.length_range] at this
                    unfold stuck; omega
                  have HSL := hid (fun x (hx : x ∈ stuck N.length out) => (mem_stuck.1 hx).1)
                  have HO5 := hid ho5
                  have HN5 := hid (HNX.out.later b5)
                  have B5 := hid (bt HBX.out b5)
                  clear dn ho5 b5
                  generalize stuck N.length out = st at *
                  have hls := fun W => own_len (P := Try.prog) HO5.out 26 3 Try.underlying26 W
                  go_wp2_with fail
                  go_loopg [133] st.length (fun kx s133 Z => ∃ i : Nat, s133 = .int .i64 i ∧ i ≤ st.length ∧ st.length - i ≤ kx ∧ w5 = Z)
                  case atStart => exact ⟨0, rfl, Nat.zero_le _, by omega, rfl⟩
                  case round =>
                    obtain ⟨i, rfl, hi, hg, rfl⟩ := hrel
                    by_cases hil : i < st.length
                    · obtain ⟨b2, o2, hix2, hc2⟩ := row_at (P := Try.prog) (Row.ofOwns HO5.out (by omega)) i hil 26 3 Try.underlying26 Try.sizeOf3
                      simp only [encN] at hc2
                      have htl := HSL.out _ (List.getElem_mem hil)
                      have HANY := hid (HST.out _ (List.getElem_mem hil))
                      generalize st[i] = t at *
                      have g1 : ¬ (t : Int) < 0 := by omega
                      have g2 : ¬ (N.length : Int) ≤ t := by omega
                      obtain ⟨by_, oy, y_, hixy, hcy, hyw⟩ := HN5.out.at (P := Try.prog) t htl 23 26 Try.underlying23 Try.sizeOf26
                      have hrow : N[t] = row N t := by simp [row, htl]
                      rw [hrow] at hyw
                      have hlen4 := fun W => hyw.1.len (P := Try.prog) 26 3 3 Try.underlying26 W
                      have hle4 := hyw.1.le
                      have HYW := hid hyw.1
                      generalize row N t = q at *
                      clear hrow hyw
                      go_wp2_with fail
                      go_loopg [19, 150] q.length (fun kx s19 s150 Z => ∃ (j : Nat) (f : Bool), s19 = .bool f ∧ s150 = .int .i64 j ∧ j ≤ q.length ∧ q.length - j ≤ kx ∧ w5 = Z ∧ Hid (f = (q.take j).any fun y => st.contains y))
                      case atStart => exact ⟨0, false, rfl, rfl, Nat.zero_le _, by omega, rfl, hid rfl⟩
                      case round =>
                        obtain ⟨j, f, rfl, rfl, hj, hgj, rfl, FX⟩ := hrel
                        by_cases hjl : j < q.length
                        · obtain ⟨b3, o3, hix3, hc3⟩ := row_at (P := Try.prog) HYW.out j hjl 26 3 Try.underlying26 Try.sizeOf3
                          simp only [encN] at hc3
                          have HT2 := hid (any_take (p := fun y => st.contains y) hjl)
                          generalize q[j] = y at *
                          go_wp2_with fail
                          go_loopg [19, 156] st.length (fun kx s19 s156 Z => ∃ (c : Nat) (g : Bool), s19 = .bool g ∧ s156 = .int .i64 c ∧ c ≤ st.length ∧ st.length - c ≤ kx ∧ w5 = Z ∧ Hid (g = (f || (st.take c).any fun z => y == z)))
                          case atStart => exact ⟨0, f, rfl, rfl, Nat.zero_le _, by omega, rfl, hid (by simp)⟩
                          case round =>
                            obtain ⟨c, g, rfl, rfl, hc, hgc, rfl, GX⟩ := hrel
                            by_cases hcl : c < st.length
                            · obtain ⟨b4, o4, hix4, hc4⟩ := row_at (P := Try.prog) (Row.ofOwns HO5.out (by omega)) c hcl 26 3 Try.underlying26 Try.sizeOf3
                              simp only [encN] at hc4
                              have HT3 := hid (any_take (p := fun z => y == z) hcl)
                              generalize st[c] = u at *
                              cases g with
                              | true =>
                                have G2 := hid (show true = (f || (st.take (c + 1)).any fun z => y == z) by rw [HT3.out, ← Bool.or_assoc, ← GX.out]; rfl)
                                go_wp2
                                go_roundg (st.length - (c + 1))
                                case measure => omega
                                case rel => exact ⟨c + 1, true, rfl, by go_num, by omega, Nat.le_refl _, rfl, G2⟩
                              | false =>
                                by_cases hyu : y = u
                                · have G2 := hid (show true = (f || (st.take (c + 1)).any fun z => y == z) by rw [HT3.out, ← Bool.or_assoc, ← GX.out, hyu]; simp)
                                  subst hyu
                                  go_wp2
                                  go_roundg (st.length - (c + 1))
                                  case measure => omega
                                  case rel => exact ⟨c + 1, true, by simp, by go_num, by omega, Nat.le_refl _, rfl, G2⟩
                                · have G2 := hid (show false = (f || (st.take (c + 1)).any fun z => y == z) by rw [HT3.out, ← Bool.or_assoc, ← GX.out]; simp [hyu])
                                  have hyu' : ¬ (y : Int) = u := by omega
                                  go_wp2
                                  go_roundg (st.length - (c + 1))
                                  case measure => omega
                                  case rel => exact ⟨c + 1, false, by simp; exact hyu', by go_num, by omega, Nat.le_refl _, rfl, G2⟩
                            · obtain rfl : c = st.length := by omega
                              have F2 := hid (show g = (q.take (j + 1)).any fun y => st.contains y by rw [HT2.out, ← FX.out, GX.out, List.take_of_length_le (Nat.le_refl _), any_eq])
                              go_wp2
                              go_roundg (q.length - (j + 1))
                              case measure => omega
                              case rel => exact ⟨j + 1, g, rfl, by go_num, by omega, Nat.le_refl _, rfl, F2⟩
                        · obtain rfl : j = q.length := by omega
                          obtain rfl : f = true := by
                            have := FX.out
                            rw [List.take_of_length_le (Nat.le_refl _)] at this
                            rw [this]; exact HANY.out
                          go_wp2
                          go_roundg (st.length - (i + 1))
                          case measure => omega
                          case rel => exact ⟨i + 1, by go_num, by omega, Nat.le_refl _, rfl⟩
                    · obtain rfl : i = st.length := by omega
                      go_wp2
                      go_ret
                      exact ⟨rfl, B5.out⟩
end Go.Proofs.Ytkpmkabddhpojaa.Or
