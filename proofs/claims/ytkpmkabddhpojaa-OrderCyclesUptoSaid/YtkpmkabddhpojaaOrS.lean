/- Layer 14: maps of numbers; the walk of OrderBehind. -/
import Derived.Test.YtkpmkabddhpojaaOrN
import Derived.Maps.Views
import Derived.Maps.OwnSet
set_option linter.unusedVariables false
set_option linter.unusedSimpArgs false
namespace Go.Proofs.Ytkpmkabddhpojaa.Or
open Go Go.Proofs.Ytkpmkabddhpojaa Go.RowKit
set_option maxRecDepth 100000

theorem underMN : Try.prog.underlying 39 = some (.map 3 3) := Try.underlying39
theorem keyN (x : Nat) (hx : x ≤ 1000000000) : keyOf Try.prog 3 (.int .i64 (x : Int)) = some (.int .i64 (x : Int)) := by
  have hmin : IntKind.i64.min = -9223372036854775808 := by decide
  have hmax : IntKind.i64.max = 9223372036854775807 := by decide
  exact Maps.keyOf_int_mk Try.underlying3 (by simp [Lit.wf, hmin, hmax]; omega)
theorem wfN (k : Nat) (hk : k ≤ 1000000000) : (Lit.int .i64 (k : Int)).wf = true := by
  have hmin : IntKind.i64.min = -9223372036854775808 := by decide
  have hmax : IntKind.i64.max = 9223372036854775807 := by decide
  simp [Lit.wf, hmin, hmax]; omega
/-- A map from numbers to numbers. -/
def MapN (w : World) (b : Nat) (f : Nat → Option Nat) (c : Nat) : Prop :=
  ∃ (D : DataW Unit) (n : Nat), n ≤ c ∧ w.ownsMap Try.prog 3 (plainElem (H := Unit) Try.prog 3) b n D ∧ (∃ es, D = .map es) ∧
    ∀ x : Nat, D.atKey (.int .i64 (x : Int)) (.lit (.int .i64 0)) = .lit (.int .i64 (((f x).getD 0 : Nat) : Int)) ∧ Maps.has D (.int .i64 (x : Int)) = (f x).isSome
section
variable {w w' : World} {b c : Nat} {f : Nat → Option Nat}
theorem MapN.lt (h : MapN w b f c) : b < w.heap.size := by
  obtain ⟨D, n, _, h, _⟩ := h
  exact h.lt
theorem MapN.later (h : MapN w b f c) (hb : w'.heap[b]? = w.heap[b]?) : MapN w' b f c := by
  obtain ⟨D, n, hn, ⟨es, clock, h1, r⟩, hD⟩ := h
  exact ⟨D, n, hn, ⟨es, clock, hb.trans h1, r⟩, hD⟩
theorem own_ne_map {B : Nat} {e : TypeId} {v : Value} {n : Nat} {xs : List Value} (h : w.ownsRow B e 1 v n xs) (hm : MapN w b f c) : ∀ k, v.ownBlock = some k → k ≠ b := by
  intro k hk e1
  subst e1
  obtain ⟨D, m, _, ⟨es, clock, h1, _⟩, _⟩ := hm
  rcases h.2 with ⟨rfl, _⟩ | ⟨g, cap, cur, rfl, _, hh, _⟩
  · cases hk
  · obtain rfl : g = k := by injection hk
    rw [h1] at hh; cases hh
theorem MapN.made (w : World) : MapN (w.alloc (.map #[] 0)) w.heap.size (fun _ => none) 0 := by
  have := World.ownsMap_made (H := Unit) w Try.prog 3 (plainElem (H := Unit) Try.prog 3)
  exact ⟨_, _, Nat.le_refl _, this, ⟨_, rfl⟩, fun x => ⟨rfl, rfl⟩⟩
theorem MapN.congr {g : Nat → Option Nat} (h : MapN w b f c) (e : ∀ x, g x = f x) : MapN w b g c := by
  obtain ⟨D, n, hn, h1, h2, hD⟩ := h
  exact ⟨D, n, hn, h1, h2, fun x => by rw [e]; exact hD x⟩
theorem MapN.look_ok (h : MapN w b f c) (x : Nat) (hx : x ≤ 1000000000) :
    (Instr.lookup 39 (.map (some b)) (.int .i64 (x : Int)) true).run Try.prog w = .ok (.tuple #[.int .i64 (((f x).getD 0 : Nat) : Int), .bool (f x).isSome]) w := by
  obtain ⟨D, n, _, h, _, hD⟩ := h
  obtain ⟨u, ps, hrun, hv⟩ := World.ownsMap.look_ok h (Maps.int_keyed Try.underlying3) underMN (Try.zeroValue3 w) (plainElem_int Try.underlying3 (by decide)) (keyN x hx)
  obtain ⟨a, rfl, ha, _⟩ := plainElem_int_inv Try.underlying3 hv
  have h1 := congrArg Prod.fst ha
  rw [(hD x).1] at h1
  injection h1 with h1
  injection h1 with _ h1
  rw [hrun, (hD x).2, ← h1]
theorem MapN.look (h : MapN w b f c) (x : Nat) (hx : x ≤ 1000000000) :
    (Instr.lookup 39 (.map (some b)) (.int .i64 (x : Int)) false).run Try.prog w = .ok (.int .i64 (((f x).getD 0 : Nat) : Int)) w := by
  obtain ⟨D, n, _, h, _, hD⟩ := h
  obtain ⟨u, ps, hrun, hv⟩ := World.ownsMap.lookup h (Maps.int_keyed Try.underlying3) underMN (Try.zeroValue3 w) (plainElem_int Try.underlying3 (by decide)) (keyN x hx)
  obtain ⟨a, rfl, ha, _⟩ := plainElem_int_inv Try.underlying3 hv
  have h1 := congrArg Prod.fst ha
  rw [(hD x).1] at h1
  injection h1 with h1
  injection h1 with _ h1
  rw [hrun, ← h1]
/-- A store, for a walk. -/
theorem MapN.step {ops : Array Oper} {rest : List Oper} {o : Oper} {a : Go.Act} {Q : Exit → Go.Act → World → Prop} (h : MapN w b f c) (hc : c ≤ 1000000) {x k : Nat} (hx : x ≤ 1000000000) (hk : k ≤ 1000000000)
    (hg : o.guard = none) (m xo vo : Operand) (hop : o.op = Op.mapUpdate 39 m xo vo) (hm : a.eval m = .map (some b)) (hxe : a.eval xo = .int .i64 (x : Int)) (hv : a.eval vo = .int .i64 (k : Int))
    (hK : ∀ w', MapN w' b (fun y => if y = x then some k else f y) (c + 1) → w.grownBy w' (some b) → wpList Try.prog ops Q rest (a.put o.dst undef) w') : wpList Try.prog ops Q (o :: rest) a w := by
  obtain ⟨D, n, hn, h, hI, hD⟩ := h
  refine wpList_mapUpdate_own _ hg _ _ _ 39 hop 3 3 (Maps.int_keyed Try.underlying3) underMN (plainElem (H := Unit) Try.prog 3) _ _ _ hm h (by unfold maxLen; omega) _ _ _ hxe hv (keyN x hx) (.lit (.int .i64 (k : Int))) [] (plainElem_int Try.underlying3 (wfN k hk)) fun w' h1 h2 => hK w' ?_ h2
  refine ⟨_, _, by omega, h1, by obtain ⟨es, rfl⟩ := hI; exact ⟨_, rfl⟩, fun y => ?_⟩
  by_cases e : y = x
  · subst e
    rw [Maps.atKey_put_same hI (by simp [WideAt.IsKeyLit]), Maps.has_put_same hI (by simp [WideAt.IsKeyLit])]
    simp
  · have hne : (Lit.int .i64 (y : Int)) ≠ .int .i64 (x : Int) := by intro q; injection q with _ q; exact e (by omega)
    rw [Maps.atKey_put_other hne, Maps.has_put_other hne]
    simp only [if_neg e]
    exact hD y
end

/-! mathematics -/
theorem stuck_nil {n : Nat} {line out out' : List Nat} {N : List (List Nat)} (hN : N.length = n) (hl : Line n line) (hd : Done N line out) (hd' : Done N (List.range n) out') : (stuck n out').length = 0 ↔ ¬ out.length < n := by
  have hm : ∀ t, t ∈ line ↔ t ∈ List.range n := fun t => ⟨fun h => List.mem_range.2 (hl.lt t h), fun h => hl.all t (List.mem_range.1 h)⟩
  have s1 := hd.same hd' hm
  have s2 := hd'.same hd (fun t => (hm t).symm)
  constructor
  · intro h hlt
    have hnil : stuck n out' = [] := List.eq_nil_of_length_eq_zero h
    have hall : ∀ x, x < n → x ∈ out := fun x hx => by
      false_or_by_contra
      rename_i hn
      have : x ∈ stuck n out' := mem_stuck.2 ⟨hx, fun h => hn (s2 x h)⟩
      rw [hnil] at this; cases this
    have h2 := (List.nodup_range (n := n)).length_le_of_subset (fun x hx => hall x (List.mem_range.1 hx))
    rw [List.length_range] at h2
    omega
  · intro h
    have hall := nodup_full n out hd.1.nodup (fun x hx => hl.lt x (hd.1.mem x hx)) (by omega)
    rw [List.length_eq_zero_iff]
    unfold stuck
    rw [List.filter_eq_nil_iff]
    intro x hx
    have := s1 x (hall x (List.mem_range.1 hx))
    simp [this]
theorem idx_at {l : List Nat} (hd : l.Nodup) {i : Nat} (hi : i < l.length) : l.idxOf l[i] = i := by
  have h1 : l.idxOf l[i] < l.length := List.idxOf_lt_length_of_mem (List.getElem_mem hi)
  have h2 := List.getElem_idxOf h1
  exact (List.getElem_inj (h₀ := h1) (h₁ := hi) hd).1 h2
theorem behind_idx {N : List (List Nat)} {line out : List Nat} (hg : Gr N line out) {i k : Nat} (hi : i ∈ out) (hk : k ∈ row N i) : out.idxOf k < out.idxOf i := by
  obtain ⟨p, r, e⟩ := List.append_of_mem hi
  have hnd := hg.nodup
  have hkp := hg.behind p i r e k hk
  have hip : i ∉ p := by
    rw [e, List.nodup_append] at hnd
    intro h
    exact hnd.2.2 i h i (by simp) rfl
  rw [e, List.idxOf_append, if_pos hkp, List.idxOf_append, if_neg hip]
  have := List.idxOf_lt_length_of_mem hkp
  omega
/-- The places of those laid among the first i. -/
def placeF (out : List Nat) (i : Nat) (x : Nat) : Option Nat := if x ∈ out.take i then some (out.idxOf x) else none
theorem placeF_step {out : List Nat} (hd : out.Nodup) {i : Nat} (hi : i < out.length) (y : Nat) : placeF out (i + 1) y = if y = out[i] then some i else placeF out i y := by
  unfold placeF
  rw [List.take_succ_eq_append_getElem hi]
  by_cases e : y = out[i]
  · rw [if_pos e, if_pos (by rw [e]; exact List.mem_append_right _ (List.mem_singleton.2 rfl)), e, idx_at hd hi]
  · rw [if_neg e]
    simp only [List.mem_append, List.mem_singleton, e, or_false]
theorem placeF_new {out : List Nat} (hd : out.Nodup) {i : Nat} (hi : i < out.length) : placeF out i out[i] = none := by
  unfold placeF
  rw [if_neg]
  intro h
  obtain ⟨j, hj, e⟩ := List.getElem_of_mem h
  rw [List.length_take] at hj
  rw [List.getElem_take] at e
  have := (List.getElem_inj (h₀ := by omega) (h₁ := hi) hd).1 e
  omega
variable {D : Nat → Prop}
set_option maxHeartbeats 16000000 in
theorem OrderBehind_walk (nv v : Value) (S : List (List UInt8)) (M : List (List Int)) (w : World) (hs : Strs w nv S) (hv : Nd encI D w v M) (hn : M.length + massI M ≤ 1000000000) :
    Calls Try.prog 5 #[nv, v] w fun e w' => e = .returned (.bool true) ∧ Below w.heap.size w w' := by
  have hlens := fun W => hs.len (P := Try.prog) 22 3 9 Try.underlying22 W
  have hlen := fun W => hv.len (P := Try.prog) 23 3 26 Try.underlying23 W
  have AL := hid (fun W => alive_any W)
  have HS := hid hs
  have HV := hid hv
  have hSle := hs.le
  have hMle := hv.le
  clear hs hv
  go_enter Try.func5, Try.ntmps5
  go_wp2_with fail
  refine (AL.out _).mono ?_
  rintro e w1 ⟨rfl, b1⟩
  have B1 := hid b1
  have HV1 := hid (HV.out.later b1)
  have GR := hid (great_any v M w1 HV1.out hn)
  have RT := hid (Right_any v M w1 HV1.out)
  clear b1
  cases hg : decide (300 < M.length + massI M) with
  | true =>
    rw [hg] at GR
    clear hg
    go_wp2_with fail
    refine GR.out.mono ?_
    rintro e w2 ⟨rfl, rfl⟩
    go_wp2_with fail
    refine (AL.out _).mono ?_
    rintro e w2 ⟨rfl, b2⟩
    have B2 := hid (bt B1.out b2)
    clear b2
    go_wp2_with fail
    go_ret
    exact ⟨rfl, B2.out⟩
  | false =>
    rw [hg] at GR
    have hM : M.length + massI M ≤ 300 := by simpa using hg
    clear hg
    by_cases hne : S.length = M.length
    · rw [hne] at hlens
      cases hR : rightB M with
      | false =>
        rw [hR] at RT
        clear hR
        go_wp2_with fail
        refine GR.out.mono ?_
        rintro e w2 ⟨rfl, rfl⟩
        go_wp2_with fail
        refine RT.out.mono ?_
        rintro e w2 ⟨rfl, rfl⟩
        go_wp2_with fail
        refine (AL.out _).mono ?_
        rintro e w2 ⟨rfl, b2⟩
        have B2 := hid (bt B1.out b2)
        clear b2
        go_wp2_with fail
        go_ret
        exact ⟨rfl, B2.out⟩
      | true =>
        rw [hR] at RT
        obtain ⟨N, rfl, hRN⟩ := right_nat hR
        rw [toI_length] at hne hlens hlen
        rw [toI_length, massI_toI] at hM
        have HN1 := hid (nd_int.1 HV1.out)
        have A1 := hid (Sort_ok (HS.out.below B1.out (Nat.le_refl _)) HN1.out hne hRN (by omega))
        have HRN := hid hRN
        have HNE := hid hne
        clear hR hRN hne hMle
        go_wp2_with fail
        refine GR.out.mono ?_
        rintro e w2 ⟨rfl, rfl⟩
        go_wp2_with fail
        refine RT.out.mono ?_
        rintro e w2 ⟨rfl, rfl⟩
        go_wp2_with fail
        refine A1.out.mono ?_
        rintro e w2 ⟨line, out, hb, hd, ⟨r, ho, rfl⟩, b2⟩
        have HL := hid (show Line N.length line by rw [← HNE.out]; exact hb.1)
        have HD := hid hd
        have HO := hid ho
        have B2 := hid (bt B1.out b2)
        have A2 := hid (Stuck_ok (HN1.out.later b2) HRN.out (by omega))
        have HN2 := hid (HN1.out.later b2)
        have hol : out.length ≤ N.length := hd.le HL.out
        clear hb hd ho b2
        by_cases hq : out.length < N.length
        · rw [if_pos hq]
          go_wp2_with fail
          refine A2.out.mono ?_
          rintro e w3 ⟨r3, out3, rfl, dn3, ho3, b3⟩
          have hlen3 := fun W => own_len (P := Try.prog) ho3 26 3 Try.underlying26 W
          have hsn : ¬ (stuck N.length out3).length = 0 := fun e => (stuck_nil rfl HL.out HD.out dn3).1 e hq
          have hsl : (stuck N.length out3).length ≤ 300 := by
            have := List.length_filter_le (fun t => !(out3.contains t)) (List.range N.length)
            rw [List.length_range] at this
            unfold stuck; omega
          have B3 := hid (bt B2.out b3)
          generalize (stuck N.length out3).length = z at *
          have hz0 : (z : Int) ≠ 0 := by omega
          clear dn3 ho3 b3 hsn
          go_wp2_with fail
          go_ret
          exact ⟨rfl, B3.out⟩
        · rw [if_neg hq]
          have hoN : out.length = N.length := by omega
          have hlo := fun W => own_len (P := Try.prog) HO.out 26 3 Try.underlying26 W
          rw [hoN] at hlo
          go_wp2_with fail
          refine A2.out.mono ?_
          rintro e w3 ⟨r3, out3, rfl, dn3, ho3, b3⟩
          have hlen3 := fun W => own_len (P := Try.prog) ho3 26 3 Try.underlying26 W
          have hsn : (stuck N.length out3).length = 0 := (stuck_nil rfl HL.out HD.out dn3).2 hq
          rw [hsn] at hlen3
          have B3 := hid (bt B2.out b3)
          have HN3 := hid (HN2.out.later b3)
          have HO3 := hid (owns_later HO.out b3)
          have HLT := hid (fun x (hx : x ∈ out) => HL.out.lt x (HD.out.1.mem x hx))
          have HND := hid HD.out.1.nodup
          clear dn3 ho3 b3 hsn HO
          have hmm := @run_makeMap Try.prog
          obtain ⟨Y, hY⟩ : ∃ Y, w3.alloc (.map #[] 0) = Y := ⟨_, rfl⟩
          have BY : Below w3.heap.size w3 Y := hY ▸ ba (b0 w3) _
          have MY := hid (show MapN Y w3.heap.size (placeF out 0) 0 from hY ▸ (MapN.made w3).congr fun x => by simp [placeF])
          have HOY := hid (owns_later HO3.out BY)
          have HNY := hid (HN3.out.later BY)
          have HBY := hid (bt B3.out BY)
          have HmB := hid (show w3.heap.size < Y.heap.size from MY.out.lt)
          obtain ⟨mb, hmb⟩ : ∃ mb, w3.heap.size = mb := ⟨_, rfl⟩
          have HNM := hid (fun c hc => own_ne_map HOY.out MY.out c hc)
          rw [hmb] at HNM
          have HWB := hid (show w.heap.size ≤ mb from by rw [← hmb]; exact B3.out.size)
          clear BY
          go_wp2_with fail
          rw [hmb] at MY HmB
          go_loopg [76] N.length (fun kx s76 X => ∃ i : Nat, s76 = .int .i64 i ∧ i ≤ N.length ∧ N.length - i ≤ kx ∧ Hid (Kx (fun b => b = mb) Y X) ∧ Hid (MapN X mb (placeF out i) i))
          case atStart => exact ⟨0, rfl, Nat.zero_le _, by omega, hid (Kx.refl _ Y), MY⟩
          case round =>
            rename World => X
            obtain ⟨i, rfl, hi, hg, KX, MX⟩ := hrel
            have HBX := hid (KX.out.below HBY.out (fun b q => by rw [q]; exact HWB.out))
            have HOX := hid (owns_kx HOY.out KX.out (fun c hc q => HNM.out c hc q))
            by_cases hil : i < N.length
            · have hilo : i < out.length := by omega
              obtain ⟨b2, o2, hix2, hc2⟩ := row_at (P := Try.prog) (Row.ofOwns HOX.out (by omega)) i hilo 26 3 Try.underlying26 Try.sizeOf3
              simp only [encN] at hc2
              have htl := HLT.out _ (List.getElem_mem hilo)
              have hnew := placeF_new HND.out hilo
              have HST := hid (fun y => placeF_step HND.out hilo y)
              generalize out[i] = t at *
              have hlk := MX.out.look_ok t (by omega)
              rw [hnew] at hlk
              simp only [Option.getD_none, Option.isSome_none, Int.natCast_zero, Int.ofNat_zero] at hlk
              have h1 : ¬ (t : Int) < 0 := by omega
              have h2 : ¬ (N.length : Int) ≤ t := by omega
              clear hnew
              go_wp2_with (refine MX.out.step (by omega) (x := t) (k := i) (by omega) (by omega) rfl _ _ _ rfl rfl rfl rfl ?_)
              intro X2 m2 g2
              have M2 := hid (m2.congr HST.out)
              have K2 := hid (KX.out.tr (Kx.grown g2 (fun b e => (Option.some.inj e).symm)))
              clear m2 g2
              go_wp2_with fail
              go_roundg (N.length - (i + 1))
              case measure => omega
              case rel => exact ⟨i + 1, by go_num, by omega, Nat.le_refl _, K2, M2⟩
            · obtain rfl : i = N.length := by omega
              have HAL := hid (nodup_full N.length out HND.out HLT.out (by omega))
              have HPF := hid (show ∀ x, x < N.length → placeF out N.length x = some (out.idxOf x) from fun x hx => by
                unfold placeF
                rw [List.take_of_length_le (by omega), if_pos (HAL.out x hx)])
              have HID := hid (show ∀ x, x < N.length → out.idxOf x ≤ 300 from fun x hx => by
                have := List.idxOf_lt_length_of_mem (HAL.out x hx); omega)
              go_wp2_with fail
              go_loopg [102] N.length (fun kx s102 Z => ∃ i : Nat, s102 = .int .i64 i ∧ i ≤ N.length ∧ N.length - i ≤ kx ∧ X = Z)
              case atStart => exact ⟨0, rfl, Nat.zero_le _, by omega, rfl⟩
              case round =>
                obtain ⟨i, rfl, hi, hg, rfl⟩ := hrel
                by_cases hil : i < N.length
                · obtain ⟨bx, ox, x, hixx, hcw, hxw⟩ := HV.out.at (P := Try.prog) i (by rw [toI_length]; exact hil) 23 26 Try.underlying23 Try.sizeOf26
                  have hcx := (HBX.out.cell (p := ⟨bx, ox, none⟩) (World.block_lt_of_cell? _ _ hcw)).trans hcw
                  have hrow : (toI N)[i]'(by rw [toI_length]; exact hil) = (row N i).map fun k : Nat => (k : Int) := by simp [toI, row, hil]
                  rw [hrow, List.length_map, nums_int] at hxw
                  have hlen4 := fun W => hxw.1.len (P := Try.prog) 26 3 3 Try.underlying26 W
                  have HXW := hid hxw.1
                  have hle4 := hxw.1.le
                  have HRL := hid (fun k (hk : k ∈ row N i) => (row_lt HRN.out hk).1)
                  have HBI := hid (fun k (hk : k ∈ row N i) => behind_idx HD.out.1 (HAL.out i hil) hk)
                  have hli := MX.out.look i (by omega)
                  rw [HPF.out i hil] at hli
                  simp only [Option.getD_some] at hli
                  have hi300 := HID.out i hil
                  generalize out.idxOf i = pi at *
                  generalize row N i = l at *
                  clear hrow hxw hcw
                  go_wp2_with fail
                  go_loopg [109] l.length (fun kx s109 Z => ∃ j : Nat, s109 = .int .i64 j ∧ j ≤ l.length ∧ l.length - j ≤ kx ∧ X = Z)
                  case atStart => exact ⟨0, rfl, Nat.zero_le _, by omega, rfl⟩
                  case round =>
                    obtain ⟨j, rfl, hj, hgj, rfl⟩ := hrel
                    by_cases hjl : j < l.length
                    · obtain ⟨b2, o2, hix2, hc2⟩ := row_at (P := Try.prog) (HXW.out.below HBX.out (Nat.le_refl _)) j hjl 26 3 Try.underlying26 Try.sizeOf3
                      simp only [encN] at hc2
                      have hkn := HRL.out _ (List.getElem_mem hjl)
                      have hbi := HBI.out _ (List.getElem_mem hjl)
                      generalize l[j] = k at *
                      have hlk := MX.out.look k (by omega)
                      rw [HPF.out k hkn] at hlk
                      simp only [Option.getD_some] at hlk
                      generalize out.idxOf k = pk at *
                      have hpp : ¬ (pi : Int) ≤ pk := by omega
                      go_wp2
                      go_roundg (l.length - (j + 1))
                      case measure => omega
                      case rel => exact ⟨j + 1, by go_num, by omega, Nat.le_refl _, rfl⟩
                    · obtain rfl : j = l.length := by omega
                      go_wp2
                      go_roundg (N.length - (i + 1))
                      case measure => omega
                      case rel => exact ⟨i + 1, by go_num, by omega, Nat.le_refl _, rfl⟩
                · obtain rfl : i = N.length := by omega
                  go_wp2
                  go_ret
                  exact ⟨by simp, HBX.out⟩
    · have hne' : (S.length : Int) ≠ M.length := by omega
      go_wp2_with fail
      refine GR.out.mono ?_
      rintro e w2 ⟨rfl, rfl⟩
      go_wp2_with fail
      refine (AL.out _).mono ?_
      rintro e w2 ⟨rfl, b2⟩
      have B2 := hid (bt B1.out b2)
      clear b2
      go_wp2_with fail
      go_ret
      exact ⟨rfl, B2.out⟩
end Go.Proofs.Ytkpmkabddhpojaa.Or
