/- Layer 14: contracts of the code's Sort, Stuck, Reach. -/
import Derived.Test.YtkpmkabddhpojaaOrI
import Derived.Test.YtkpmkabddhpojaaOrK
import Derived.Test.YtkpmkabddhpojaaOrL
set_option linter.unusedVariables false
set_option linter.unusedSimpArgs false
namespace Go.Proofs.Ytkpmkabddhpojaa.Or
open Go Go.Proofs.Ytkpmkabddhpojaa Go.RowKit
set_option maxRecDepth 100000

def toI (N : List (List Nat)) : List (List Int) := N.map fun r => r.map fun k : Nat => (k : Int)
theorem toI_length (N : List (List Nat)) : (toI N).length = N.length := by simp [toI]
/-- Numbers of things are no less than 0. -/
theorem right_nat {M : List (List Int)} (h : rightB M = true) : ∃ N, M = toI N ∧ Right N := by
  have hk : ∀ r ∈ M, ∀ k ∈ r, 0 ≤ k ∧ k < M.length := by
    intro r hr k hk
    have := List.all_eq_true.1 (List.all_eq_true.1 h r hr) k hk
    simpa [okI] using this
  refine ⟨M.map fun r => r.map Int.toNat, ?_, fun r hr k hk' => ?_⟩
  · unfold toI
    rw [List.map_map]
    have : ∀ r ∈ M, ((fun r : List Nat => r.map fun k : Nat => (k : Int)) ∘ fun r : List Int => r.map Int.toNat) r = r := by
      intro r hr
      simp only [Function.comp_apply, List.map_map]
      have : ∀ k ∈ r, ((fun k : Nat => (k : Int)) ∘ Int.toNat) k = k := fun k hk' => by
        have := hk r hr k hk'
        simp only [Function.comp_apply]; omega
      rw [List.map_congr_left this, List.map_id']
    rw [List.map_congr_left this, List.map_id']
  · rw [List.length_map]
    obtain ⟨r', hr', rfl⟩ := List.mem_map.1 hr
    obtain ⟨k', hk'', rfl⟩ := List.mem_map.1 hk'
    have := hk r' hr' k' hk''
    omega
theorem right_iff (N : List (List Nat)) : rightB (toI N) = true ↔ Right N := by
  constructor
  · intro h
    obtain ⟨M, hM, hR⟩ := right_nat h
    have : M = N := by
      unfold toI at hM
      have inj : ∀ a b : List Nat, (a.map fun k : Nat => (k : Int)) = (b.map fun k : Nat => (k : Int)) → a = b := fun a b e => by
        have := congrArg (List.map Int.toNat) e
        simpa [List.map_map, Function.comp_def] using this
      have := (List.map_inj_right (f := fun r : List Nat => r.map fun k : Nat => (k : Int)) (fun a b e => inj a b e)).1 hM
      exact this.symm
    rw [← this]; exact hR
  · intro h
    unfold rightB
    rw [List.all_eq_true]
    intro r hr
    rw [List.all_eq_true]
    intro k hk
    unfold toI at hr
    obtain ⟨r', hr', rfl⟩ := List.mem_map.1 hr
    obtain ⟨k', hk', rfl⟩ := List.mem_map.1 hk
    have := h r' hr' k' hk'
    simp [okI, toI_length]; omega
theorem nd_int {D : Nat → Prop} {w : World} {v : Value} {N : List (List Nat)} : Nd encI D w v (toI N) ↔ Nd encN D w v N := by
  unfold Nd
  constructor
  · rintro ⟨vs, h1, h2⟩
    rw [toI_length] at h1
    refine ⟨vs, h1, fun i hi => ?_⟩
    obtain ⟨x, a, b⟩ := h2 i (by rw [toI_length]; exact hi)
    refine ⟨x, a, ?_⟩
    have e : (toI N)[i]'(by rw [toI_length]; exact hi) = N[i].map fun k : Nat => (k : Int) := by simp [toI]
    rw [e, List.length_map, nums_int] at b
    exact b
  · rintro ⟨vs, h1, h2⟩
    refine ⟨vs, by rw [toI_length]; exact h1, fun i hi => ?_⟩
    obtain ⟨x, a, b⟩ := h2 i (by rw [toI_length] at hi; exact hi)
    refine ⟨x, a, ?_⟩
    have e : (toI N)[i]'hi = (N[i]'(by rw [toI_length] at hi; exact hi)).map fun k : Nat => (k : Int) := by simp [toI]
    rw [e, List.length_map, nums_int]
    exact b
theorem line_range (n : Nat) : Line n (List.range n) := ⟨by simp, List.nodup_range, fun x hx => by simpa using hx⟩
theorem Done.le {N : List (List Nat)} {line out : List Nat} (h : Done N line out) (hL : Line N.length line) : out.length ≤ N.length := nodup_le _ _ h.1.nodup fun x hx => hL.lt x (h.1.mem x hx)

section
variable {D : Nat → Prop} {v : Value} {w : World}
set_option maxHeartbeats 2000000 in
theorem Stuck_bad {M : List (List Int)} (hv : Nd encI D w v M) (hR : rightB M = false) :
    Calls Try.prog 14 #[v] w fun e w' => e = .returned (.tuple #[.slice none 0 0, .int .i64 3]) ∧ w = w' := by
  have AT := hid (allThings_any v M w hv)
  rw [hR] at AT
  clear hv hR
  go_enter Try.func14, Try.ntmps14
  go_wp2_with fail
  refine AT.out.mono ?_
  rintro e w1 ⟨rfl, rfl⟩
  go_wp2_with fail
  go_ret2
  exact ⟨rfl, rfl⟩
set_option maxHeartbeats 2000000 in
theorem Reach_bad {M : List (List Int)} (a : Int) (hv : Nd encI D w v M) (hR : rightB M = false) :
    Calls Try.prog 15 #[v, .int .i64 a] w fun e w' => e = .returned (.tuple #[.slice none 0 0, .int .i64 3]) ∧ w = w' := by
  have AT := hid (allThings_any v M w hv)
  rw [hR] at AT
  clear hv hR
  go_enter Try.func15, Try.ntmps15
  go_wp2_with fail
  refine AT.out.mono ?_
  rintro e w1 ⟨rfl, rfl⟩
  go_wp2_with fail
  go_ret2
  exact ⟨rfl, rfl⟩
set_option maxHeartbeats 2000000 in
theorem Reach_out {M : List (List Int)} (a : Int) (hv : Nd encI D w v M) (hR : rightB M = true) (ha : okI M.length a = false) :
    Calls Try.prog 15 #[v, .int .i64 a] w fun e w' => e = .returned (.tuple #[.slice none 0 0, .int .i64 3]) ∧ w = w' := by
  have AT := hid (allThings_any v M w hv)
  rw [hR] at AT
  have hlen := fun W => hv.len (P := Try.prog) 23 3 26 Try.underlying23 W
  have IT := hid (isThing_any v M.length a w hlen)
  rw [ha] at IT
  clear hv hR ha hlen
  go_enter Try.func15, Try.ntmps15
  go_wp2_with fail
  refine AT.out.mono ?_
  rintro e w1 ⟨rfl, rfl⟩
  go_wp2_with fail
  refine IT.out.mono ?_
  rintro e w1 ⟨rfl, rfl⟩
  go_wp2_with fail
  go_ret2
  exact ⟨rfl, rfl⟩
set_option maxHeartbeats 2000000 in
theorem Reach_ok {N : List (List Nat)} (a : Nat) (hv : Nd encN D w v N) (hR : Right N) (ha : a < N.length) (hn : N.length ≤ 1000000) :
    Calls Try.prog 15 #[v, .int .i64 a] w fun e w' => ∃ r m, e = .returned (.tuple #[r, .int .i64 0]) ∧ m.length = N.length ∧ (∀ t, m.getD t false = true ↔ Rch N a t) ∧ w'.ownsRow w.heap.size 3 1 r (on m true).length (nums (on m true)) ∧ Below w.heap.size w w' := by
  have AT := hid (allThings_any v (toI N) w (nd_int.2 hv))
  rw [(right_iff N).2 hR] at AT
  have hlen := fun W => hv.len (P := Try.prog) 23 3 26 Try.underlying23 W
  have IT := hid (isThing_any v N.length a w hlen)
  rw [show okI N.length a = true by simp [okI]; omega] at IT
  have RE := hid (reached_any v N a w hv hR ha hn)
  clear hv hR hlen
  go_enter Try.func15, Try.ntmps15
  go_wp2_with fail
  refine AT.out.mono ?_
  rintro e w1 ⟨rfl, rfl⟩
  go_wp2_with fail
  refine IT.out.mono ?_
  rintro e w1 ⟨rfl, rfl⟩
  go_wp2_with fail
  refine RE.out.mono ?_
  rintro e w2 ⟨mv, m, rfl, hm1, hm2, ho, hb⟩
  have RI := hid (rising_any mv m true w2 (Row.ofOwns ho (by omega)) (by omega))
  have HM := hid (And.intro hm1 hm2)
  have HB := hid hb
  clear hm1 hm2 ho hb
  go_wp2_with fail
  refine RI.out.mono ?_
  rintro e w3 ⟨r, rfl, ho3, hb3⟩
  have O3 := hid (owns_base (C := w.heap.size) ho3 HB.out.size)
  have B3 := hid (bt HB.out hb3)
  clear ho3 hb3
  go_wp2_with fail
  go_ret2
  exact ⟨r, m, rfl, HM.out.1, HM.out.2, O3.out, B3.out⟩
theorem set_true (m : List Bool) (out : List Nat) (t : Nat) (hm : ∀ u, u < m.length → (m.getD u false = true ↔ u ∈ out)) (ht : t < m.length) : ∀ u, u < (m.set t true).length → ((m.set t true).getD u false = true ↔ u ∈ out ++ [t]) := by
  intro u hu
  rw [List.length_set] at hu
  rw [getD_set m ht, List.mem_append, List.mem_singleton]
  by_cases e : u = t
  · simp [e]
  · rw [if_neg e, hm u hu]; simp [e]
set_option maxHeartbeats 4000000 in
theorem Stuck_ok {N : List (List Nat)} (hv : Nd encN D w v N) (hR : Right N) (hn : N.length + mass N ≤ 900000) :
    Calls Try.prog 14 #[v] w fun e w' => ∃ r out, e = .returned (.tuple #[r, .int .i64 0]) ∧ Done N (List.range N.length) out ∧ w'.ownsRow w.heap.size 3 1 r (stuck N.length out).length (nums (stuck N.length out)) ∧ Below w.heap.size w w' := by
  have AT := hid (allThings_any v (toI N) w (nd_int.2 hv))
  rw [(right_iff N).2 hR] at AT
  have hlen := fun W => hv.len (P := Try.prog) 23 3 26 Try.underlying23 W
  obtain ⟨V, hmk, ho, hb, hsz⟩ := make_bools N.length (by omega) w.heap.size w (Nat.le_refl _)
  obtain ⟨mv, hmv⟩ : ∃ mv, Value.slice (some ⟨w.heap.size, 0, none⟩) N.length N.length = mv := ⟨_, rfl⟩
  rw [hmv] at hmk ho
  have NU := hid (numbers_any N.length (by omega) V)
  have HO := hid ho
  have HB := hid hb
  have HV := hid hv
  have HR := hid hR
  clear hv hR ho hb hmv
  go_enter Try.func14, Try.ntmps14
  go_wp2_with fail
  refine AT.out.mono ?_
  rintro e w1 ⟨rfl, rfl⟩
  go_wp2_with fail
  refine NU.out.mono ?_
  rintro e w2 ⟨lv, rfl, ho2, hb2⟩
  have B2 := hid (bt HB.out hb2)
  have LA := hid (lay_any v lv N (List.range N.length) w2 (HV.out.later B2.out) HR.out (Row.ofOwns ho2 (by simp; omega)) (line_range _) hn)
  have O2 := hid (owns_later HO.out hb2)
  clear ho2 hb2
  go_wp2_with fail
  refine LA.out.mono ?_
  rintro e w3 ⟨ov, out, rfl, dn, ho3, hb3⟩
  have hlen3 := fun W => own_len (P := Try.prog) ho3 26 3 Try.underlying26 W
  have hol : out.length ≤ N.length := dn.le (line_range _)
  have HLT := hid (fun x (hx : x ∈ out) => List.mem_range.1 (dn.1.mem x hx))
  have DN := hid dn
  have R3 := hid (Row.ofOwns ho3 (by omega))
  have O3 := hid (owns_later O2.out hb3)
  have B3 := hid (bt B2.out hb3)
  have HAP := hid (fun b (hb : mv.ownBlock = some b) (q : ov.ownBlock = some b) => apart_bi O3.out ho3 b hb q)
  have O3W := hid ho3
  clear dn ho3 hb3
  go_wp2_with fail
  go_loopg [19] out.length (fun kx s19 X => ∃ (i : Nat) (m : List Bool), s19 = .int .i64 i ∧ i ≤ out.length ∧ out.length - i ≤ kx ∧ m.length = N.length ∧ Hid (∀ u, u < m.length → (m.getD u false = true ↔ u ∈ out.take i)) ∧ Hid (X.ownsRow w.heap.size 4 1 mv m.length (bools m)) ∧ Hid (X.ownsRow w2.heap.size 3 1 ov out.length (nums out)) ∧ Hid (Below w.heap.size w X))
  case atStart => exact ⟨0, _, rfl, Nat.zero_le _, by omega, by simp, hid (fun u hu => by simp at hu ⊢; simp [hu]), O3, O3W, B3⟩
  case round =>
    clear O3 B3 R3 O3W
    rename World => X
    obtain ⟨i, m, rfl, hi, hg, hml, MX, OX, OV, BX⟩ := hrel
    by_cases hil : i < out.length
    · obtain ⟨b2, o2, hix2, hc2⟩ := row_at (P := Try.prog) (Row.ofOwns OV.out (by omega)) i hil 26 3 Try.underlying26 Try.sizeOf3
      simp only [encN] at hc2
      have htl := HLT.out _ (List.getElem_mem hil)
      have htk : out.take (i + 1) = out.take i ++ [out[i]] := List.take_succ_eq_append_getElem hil
      generalize out[i] = t at *
      obtain ⟨mb, hmb, hixm, hcm, hfm, hBm, _, hset⟩ := own_at (P := Try.prog) (enc := Value.bool) OX.out t (by omega) 46 Try.underlying46 Try.sizeOf4
      have M4 := hid (show ∀ u, u < (m.set t true).length → ((m.set t true).getD u false = true ↔ u ∈ out.take (i + 1)) by rw [htk]; exact set_true m _ t MX.out (by omega))
      have O4 := hid (hset true)
      have B4 := hid (BX.out.setCell (p := ⟨mb, t, none⟩) hBm (.bool true))
      have V4 := hid (owns_kx OV.out (Kx.set (S := fun c => c = mb) X mb t (.bool true) rfl) (fun c hc q => HAP.out mb hmb (by rw [hc, q])))
      clear hset htk
      go_wp2
      go_roundg (out.length - (i + 1))
      case measure => omega
      case rel => exact ⟨i + 1, _, by go_num, by omega, Nat.le_refl _, by rw [List.length_set]; exact hml, M4, O4, V4, B4⟩
    · obtain rfl : i = out.length := by omega
      have RI := hid (rising_any mv m false X (Row.ofOwns OX.out (by omega)) (by omega))
      have HE := hid (show on m false = stuck N.length out from by
        unfold on stuck
        rw [hml]
        apply List.filter_congr
        intro u hu
        have := MX.out u (by rw [hml]; simpa using hu)
        rw [List.take_of_length_le (Nat.le_refl _)] at this
        by_cases q : u ∈ out
        · rw [this.2 q]; simp [q]
        · have q2 : m.getD u false = false := by
            cases q3 : m.getD u false with
            | false => rfl
            | true => exact absurd (this.1 q3) q
          rw [q2]; simp [q])
      rw [HE.out] at RI
      go_wp2_with fail
      refine RI.out.mono ?_
      rintro e w5 ⟨r, rfl, ho5, hb5⟩
      have O5 := hid (owns_base (C := w.heap.size) ho5 BX.out.size)
      have B5 := hid (bt BX.out hb5)
      clear ho5 hb5
      go_wp2_with fail
      go_ret2
      exact ⟨r, out, rfl, DN.out, O5.out, B5.out⟩
variable {nv : Value} {S : List (List UInt8)}
set_option maxHeartbeats 2000000 in
theorem Sort_len {M : List (List Int)} (hs : Strs w nv S) (hv : Nd encI D w v M) (hne : S.length ≠ M.length) :
    Calls Try.prog 11 #[nv, v] w fun e w' => e = .returned (.tuple #[.slice none 0 0, .int .i64 2]) ∧ w = w' := by
  have hlen := fun W => hv.len (P := Try.prog) 23 3 26 Try.underlying23 W
  have hlens := fun W => hs.len (P := Try.prog) 22 3 9 Try.underlying22 W
  have h1 : (S.length : Int) ≠ M.length := by omega
  clear hs hv
  go_enter Try.func11, Try.ntmps11
  go_wp2
  go_ret2
  exact ⟨rfl, rfl⟩
set_option maxHeartbeats 2000000 in
theorem Sort_bad {M : List (List Int)} (hs : Strs w nv S) (hv : Nd encI D w v M) (he : S.length = M.length) (hR : rightB M = false) :
    Calls Try.prog 11 #[nv, v] w fun e w' => e = .returned (.tuple #[.slice none 0 0, .int .i64 3]) ∧ w = w' := by
  have hlen := fun W => hv.len (P := Try.prog) 23 3 26 Try.underlying23 W
  have hlens := fun W => hs.len (P := Try.prog) 22 3 9 Try.underlying22 W
  rw [he] at hlens
  have AT := hid (allThings_any v M w hv)
  rw [hR] at AT
  clear hs hv hR he
  go_enter Try.func11, Try.ntmps11
  go_wp2_with fail
  refine AT.out.mono ?_
  rintro e w1 ⟨rfl, rfl⟩
  go_wp2_with fail
  go_ret2
  exact ⟨rfl, rfl⟩
/-- What Sort tells. -/
def SortGot (B : Nat) (n : Nat) (out : List Nat) (e : Ending) (w' : World) : Prop := ∃ r, w'.ownsRow B 3 1 r out.length (nums out) ∧ e = .returned (.tuple (if out.length < n then #[.slice none 0 0, .int .i64 16] else #[r, .int .i64 0]))
set_option maxHeartbeats 4000000 in
theorem Sort_ok {N : List (List Nat)} (hs : Strs w nv S) (hv : Nd encN D w v N) (he : S.length = N.length) (hR : Right N) (hn : N.length + mass N ≤ 900000) :
    Calls Try.prog 11 #[nv, v] w fun e w' => ∃ line out, ByName S line ∧ Done N line out ∧ SortGot w.heap.size N.length out e w' ∧ Below w.heap.size w w' := by
  have hlen := fun W => hv.len (P := Try.prog) 23 3 26 Try.underlying23 W
  have hlens := fun W => hs.len (P := Try.prog) 22 3 9 Try.underlying22 W
  rw [he] at hlens
  have AT := hid (allThings_any v (toI N) w (nd_int.2 hv))
  rw [(right_iff N).2 hR] at AT
  have BN := hid (byName_any nv S w hs (by omega))
  have HV := hid hv
  have HR := hid hR
  have HE := hid he
  clear hs hv hR he
  go_enter Try.func11, Try.ntmps11
  go_wp2_with fail
  refine AT.out.mono ?_
  rintro e w1 ⟨rfl, rfl⟩
  go_wp2_with fail
  refine BN.out.mono ?_
  rintro e w2 ⟨lv, line, rfl, hbn, ho2, hb2⟩
  have hL : Line N.length line := by rw [← HE.out]; exact hbn.1
  have LA := hid (lay_any v lv N line w2 (HV.out.later hb2) HR.out (Row.ofOwns ho2 (by rw [hL.len]; omega)) hL hn)
  have B2 := hid hb2
  have HBN := hid hbn
  have HL := hid hL
  clear ho2 hb2 hbn hL
  go_wp2_with fail
  refine LA.out.mono ?_
  rintro e w3 ⟨ov, out, rfl, dn, ho3, hb3⟩
  have hlen3 := fun W => own_len (P := Try.prog) ho3 26 3 Try.underlying26 W
  have hol : out.length ≤ N.length := dn.le HL.out
  have DN := hid dn
  have O3 := hid (owns_base (C := w.heap.size) ho3 B2.out.size)
  have B3 := hid (bt B2.out hb3)
  clear dn ho3 hb3
  by_cases hq : out.length < N.length
  · go_wp2_with fail
    go_ret2
    exact ⟨line, out, HBN.out, DN.out, ⟨ov, O3.out, by rw [if_pos hq]; rfl⟩, B3.out⟩
  · go_wp2_with fail
    go_ret2
    exact ⟨line, out, HBN.out, DN.out, ⟨ov, O3.out, by rw [if_neg hq]; rfl⟩, B3.out⟩
end
end Go.Proofs.Ytkpmkabddhpojaa.Or
